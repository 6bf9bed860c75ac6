import PyProof.Rows.All
import Wide.All
import OpenK.AllK
import Wide.FinOn
import HandS.ForMost
import HandS.ForExc
import HandS.TupAny
import HandS.IsInst
import HandS.Deep
import HandS.Flow
import HandS.Walk
import HandS.Zip
import HandS.Rev
import HandS.RevRange
import HandS.WordsDict
import PyProof.AutoSeq1
import HandS.More
import PyProof.ListStr
import KE.KSortTup
import HandS.SortOrd
import HandS.SortRule
import HandS.Star
import HandS.Style
import HandS.CallLocal
import HandS.HeadWalk
import HandS.HeadHook1
import HandS.EndTab
import PySem.Challenge.RW_treesays_k25_plain_formulas
set_option Elab.async false
set_option linter.all false
set_option maxRecDepth 100000
set_option maxHeartbeats 2000000
namespace Y
open PySem PySem.Spec PyProof.Rows L2
/-! ### plain data; what stands for it -/
inductive D where
  | non | bl (b : Bool) | int (i : Int) | str (x : Str) | fn (a : Addr) | tup (ds : List D) | ktup (ds : List D) | lst (ds : List D) | klst (ds : List D)
mutual
inductive R (K : PySem.W.Frag) (B : Hp) : V → D → Prop
  | non : R K B .non .non
  | bl (b : Bool) : R K B (.bl b) (.bl b)
  | int (i : Int) : R K B (.int i) (.int i)
  | str (x : Str) : R K B (.str x) (.str x)
  | fn (a : Addr) : R K B (.ref a) (.fn a)
  | tup {a : Addr} {xs : List V} {ds : List D} (h : B a = some (.tup xs)) (t : Rs K B xs ds) : R K B (.ref a) (.tup ds)
  | ktup {a : Addr} {xs : List V} {ds : List D} (h : SqT K B a xs) (t : Rs K B xs ds) : R K B (.ref a) (.ktup ds)
  | lst {a : Addr} {xs : List V} {ds : List D} (h : B a = some (.lst xs)) (t : Rs K B xs ds) : R K B (.ref a) (.lst ds)
  | klst {a : Addr} {xs : List V} {ds : List D} (h : SqL K B a xs) (t : Rs K B xs ds) : R K B (.ref a) (.klst ds)
inductive Rs (K : PySem.W.Frag) (B : Hp) : List V → List D → Prop
  | nil : Rs K B [] []
  | cons {v : V} {d : D} {vs : List V} {ds : List D} (h : R K B v d) (t : Rs K B vs ds) : Rs K B (v :: vs) (d :: ds)
end
theorem sameT {K : PySem.W.Frag} {H H' : Hp} {a : Addr} {xs : List V} (e : Same H H') (h : SqT K H a xs) : SqT K H' a xs := by
  rcases h with (h | ⟨o, h⟩) | h
  · exact .inl (.inl (e _ _ h))
  · exact .inl (.inr ⟨o, e _ _ h⟩)
  · exact .inr h
section
variable {K : PySem.W.Frag} {B B' : Hp}
mutual
theorem R.mono (g : Same B B') : ∀ {v : V} {d : D}, R K B v d → R K B' v d
  | _, _, .non => .non
  | _, _, .bl b => .bl b
  | _, _, .int i => .int i
  | _, _, .str x => .str x
  | _, _, .fn a => .fn a
  | _, _, .tup h t => .tup (g _ _ h) (Rs.mono g t)
  | _, _, .ktup h t => .ktup (sameT g h) (Rs.mono g t)
  | _, _, .lst h t => .lst (g _ _ h) (Rs.mono g t)
  | _, _, .klst h t => .klst (g.seq h) (Rs.mono g t)
theorem Rs.mono (g : Same B B') : ∀ {vs : List V} {ds : List D}, Rs K B vs ds → Rs K B' vs ds
  | _, _, .nil => .nil
  | _, _, .cons h t => .cons (R.mono g h) (Rs.mono g t)
end
theorem Rs.len : ∀ {vs : List V} {ds : List D}, Rs K B vs ds → vs.length = ds.length
  | _, _, .nil => rfl
  | _, _, .cons _ t => congrArg (· + 1) t.len
theorem Rs.get : ∀ {vs : List V} {ds : List D} {i : Nat} {d : D}, Rs K B vs ds → ds[i]? = some d → ∃ v, vs[i]? = some v ∧ R K B v d
  | _, _, i, d, .nil, e => by simp at e
  | _, _, 0, d, .cons h _, e => by simp at e; subst e; exact ⟨_, rfl, h⟩
  | _, _, i + 1, d, .cons _ t, e => by
    obtain ⟨v, a, b⟩ := t.get (i := i) (by simpa using e)
    exact ⟨v, by simpa using a, b⟩
theorem Rs.append : ∀ {vs us : List V} {ds es : List D}, Rs K B vs ds → Rs K B us es → Rs K B (vs ++ us) (ds ++ es)
  | _, _, _, _, .nil, h => h
  | _, _, _, _, .cons h t, q => .cons h (t.append q)
theorem Rs.take : ∀ {vs : List V} {ds : List D} (n : Nat), Rs K B vs ds → Rs K B (vs.take n) (ds.take n)
  | _, _, 0, _ => .nil
  | _, _, _ + 1, .nil => .nil
  | _, _, n + 1, .cons h t => .cons h (t.take n)
theorem Rs.drop : ∀ {vs : List V} {ds : List D} (n : Nat), Rs K B vs ds → Rs K B (vs.drop n) (ds.drop n)
  | _, _, 0, h => h
  | _, _, _ + 1, .nil => .nil
  | _, _, n + 1, .cons _ t => t.drop n
theorem Rs.snoc {vs : List V} {ds : List D} {v : V} {d : D} (t : Rs K B vs ds) (h : R K B v d) : Rs K B (vs ++ [v]) (ds ++ [d]) := t.append (.cons h .nil)
theorem Rs.paired : ∀ {vs : List V} {ds : List D}, Rs K B vs ds → Paired (R K B) vs ds
  | _, _, .nil => .nil
  | _, _, .cons h t => .cons h t.paired
theorem Rs.of : ∀ {vs : List V} {ds : List D}, Paired (R K B) vs ds → Rs K B vs ds
  | _, _, .nil => .nil
  | _, _, .cons h t => .cons h (Rs.of t)
theorem Rs.reverse : ∀ {vs : List V} {ds : List D}, Rs K B vs ds → Rs K B vs.reverse ds.reverse
  | _, _, .nil => .nil
  | _, _, .cons h t => by
    rw [List.reverse_cons, List.reverse_cons]
    exact t.reverse.snoc h
end
/-- in a slot: data that stay, or an object that changes, by its number -/
inductive S where
  | d (x : D) | pin (j : Nat)
/-- an object that changes -/
inductive Cell where
  | dead | lst (ss : List S) | dK (kvs : List (Key × S)) | dT (kvs : List (List Key × S)) | ins (C : Addr) (fs : List (Str × S)) | tape
def RS (K : PySem.W.Frag) (α : List Addr) (B : Hp) (v : V) : S → Prop
  | .d x => R K B v x
  | .pin j => ∃ a, α[j]? = some a ∧ v = .ref a
def RK {κ : Type} (K : PySem.W.Frag) (α : List Addr) (B : Hp) : List (κ × V) → List (κ × S) → Prop := Paired fun p q => p.1 = q.1 ∧ RS K α B p.2 q.2
def CellOk (K : PySem.W.Frag) (α : List Addr) (B H : Hp) (a : Addr) : Cell → Prop
  | .dead => True
  | .lst ss => B a = none ∧ ∃ xs, H a = some (.lst xs) ∧ Paired (RS K α B) xs ss
  | .dK kvs => B a = none ∧ ∃ ys, H a = some (.dK ys) ∧ RK K α B ys kvs
  | .dT kvs => B a = none ∧ ∃ ys, H a = some (.dT ys) ∧ RK K α B ys kvs
  | .ins C fs => B a = none ∧ ∃ dx ys, H a = some (.ins C dx ys) ∧ RK K α B ys fs
  | .tape => B a = none ∧ ∃ (kvs : List (Key × V)) (c : Addr) (ns : List Int), H a = some (.dK kvs) ∧ kvs.length ≤ 5 ∧ valV kvs (Sum.inr "cells" : Key) = some (.ref c) ∧ B c = some (.lst (ns.map V.int)) ∧ ns.length ≤ 1000 ∧
      (∃ z : Int, valV kvs (Sum.inr "at" : Key) = some (.int z) ∧ 0 ≤ z) ∧ (∃ z : Int, valV kvs (Sum.inr "left" : Key) = some (.int z)) ∧ (∃ z : Int, valV kvs (Sum.inr "seed" : Key) = some (.int z)) ∧ ∃ z : Int, valV kvs (Sum.inr "salt" : Key) = some (.int z)
theorem pre_get {α : List Addr} {β : List Addr} {j : Nat} {a : Addr} (h : α[j]? = some a) : (α ++ β)[j]? = some a := by
  rw [List.getElem?_append_left (List.getElem?_eq_some_iff.mp h).1]
  exact h
theorem RS.mono {K : PySem.W.Frag} {α β : List Addr} {B B' : Hp} (g : Same B B') {v : V} : ∀ {s : S}, RS K α B v s → RS K (α ++ β) B' v s
  | .d _, h => R.mono g h
  | .pin _, ⟨a, h, e⟩ => ⟨a, pre_get h, e⟩
theorem paired_mono {α β : Type} {F G : α → β → Prop} (g : ∀ a b, F a b → G a b) : ∀ {l : List α} {m : List β}, Paired F l m → Paired G l m
  | _, _, .nil => .nil
  | _, _, .cons h t => .cons (g _ _ h) (paired_mono g t)
theorem CellOk.mono {K : PySem.W.Frag} {α β : List Addr} {B B' H H' : Hp} {a : Addr} (g : Same B B') (hB : B a = none → B' a = none) (hH : H' a = H a) : ∀ {c : Cell}, CellOk K α B H a c → CellOk K (α ++ β) B' H' a c
  | .dead, _ => True.intro
  | .lst ss, ⟨n, xs, e, p⟩ => ⟨hB n, xs, hH.trans e, paired_mono (fun _ _ h => RS.mono g h) p⟩
  | .dK kvs, ⟨n, ys, e, p⟩ => ⟨hB n, ys, hH.trans e, paired_mono (fun _ _ h => ⟨h.1, RS.mono g h.2⟩) p⟩
  | .dT kvs, ⟨n, ys, e, p⟩ => ⟨hB n, ys, hH.trans e, paired_mono (fun _ _ h => ⟨h.1, RS.mono g h.2⟩) p⟩
  | .ins C fs, ⟨n, dx, ys, e, p⟩ => ⟨hB n, dx, ys, hH.trans e, paired_mono (fun _ _ h => ⟨h.1, RS.mono g h.2⟩) p⟩
  | .tape, ⟨n, kvs, c, ns, e, l, e1, e2, r⟩ => ⟨hB n, kvs, c, ns, hH.trans e, l, e1, g _ _ e2, r⟩
/-! ### frames and worlds -/
structure Phi where
  B : Hp
  H : Hp
  α : List Addr
structure Frame (Φ : Phi) (B H : Hp) (α : List Addr) : Prop where
  bb : Same Φ.B B
  bh : Same B H
  hh : ∀ b o, b ∉ Φ.α → Φ.H b = some o → H b = some o
  fr : ∀ a o, B a = some o → (∃ u, Φ.B a = some u) ∨ Φ.H a = none ∨ a ∈ Φ.α
  pre : ∃ β, α = Φ.α ++ β ∧ ∀ a ∈ β, Φ.H a = none ∨ a ∈ Φ.α
structure Wld (K : PySem.W.Frag) (B H : Hp) (α : List Addr) (ω : List Cell) : Prop where
  nd : α.Nodup
  len : α.length = ω.length
  tr : ∀ a ∈ α, ∃ o, H a = some o
  cell : ∀ (j : Nat) (a : Addr) (c : Cell), α[j]? = some a → ω[j]? = some c → CellOk K α B H a c
def Slots (K : PySem.W.Frag) (α : List Addr) (B : Hp) (σ : L2.St) (ρ : List (Option S)) : Prop := σ.length = ρ.length ∧ ∀ (i : Nat) (s : S), ρ[i]? = some (some s) → ∃ v, σ[i]? = some (some v) ∧ RS K α B v s
structure StB (Φ : Phi) (K : PySem.W.Frag) (B : Hp) (α : List Addr) (H : Hp) (σ : L2.St) (ρ : List (Option S)) (ω : List Cell) (T : List (V × S)) : Prop where
  fr : Frame Φ B H α
  wd : Wld K B H α ω
  sl : Slots K α B σ ρ
  tm : ∀ p ∈ T, RS K α B p.1 p.2
def St (Φ : Phi) (K : PySem.W.Frag) (H : Hp) (σ : L2.St) (ρ : List (Option S)) (ω : List Cell) (T : List (V × S)) : Prop := ∃ B α, StB Φ K B α H σ ρ ω T
theorem Frame.refl {B H : Hp} {α : List Addr} (g : Same B H) : Frame ⟨B, H, α⟩ B H α := ⟨Same.refl B, g, fun _ _ _ h => h, fun a o h => .inl ⟨o, h⟩, [], by simp, by simp⟩
theorem Frame.trans {Φ : Phi} {B1 H1 B2 H2 : Hp} {α1 α2 : List Addr} (f : Frame Φ B1 H1 α1) (g : Frame ⟨B1, H1, α1⟩ B2 H2 α2) : Frame Φ B2 H2 α2 := by
  obtain ⟨β, e1, n1⟩ := f.pre
  obtain ⟨γ, e2, n2⟩ := g.pre
  have old : ∀ a, H1 a = none → Φ.H a = none ∨ a ∈ Φ.α := fun a h => by
    by_cases m : a ∈ Φ.α
    · exact .inr m
    · cases q : Φ.H a with
      | none => exact .inl rfl
      | some o => rw [f.hh a o m q] at h; cases h
  have in1 : ∀ a, a ∈ α1 → Φ.H a = none ∨ a ∈ Φ.α := fun a h => by
    rw [e1, List.mem_append] at h
    rcases h with h | h
    · exact .inr h
    · exact n1 a h
  refine ⟨f.bb.trans g.bb, g.bh, fun b o m h => ?_, fun a o h => ?_, β ++ γ, ?_, fun a h => ?_⟩
  · refine g.hh b o (fun z => ?_) (f.hh b o m h)
    rcases in1 b z with q | q
    · rw [q] at h; cases h
    · exact m q
  · rcases g.fr a o h with ⟨u, q⟩ | q | q
    · exact f.fr a u q
    · exact .inr (old a q)
    · exact .inr (in1 a q)
  · have e2' : α2 = α1 ++ γ := e2
    rw [e2', e1, List.append_assoc]
  · rcases List.mem_append.mp h with h | h
    · exact n1 a h
    · rcases n2 a h with q | q
      · exact old a q
      · exact in1 a q
section
variable {Φ : Phi} {K : PySem.W.Frag} {B B' H H' : Hp} {α α' : List Addr} {σ σ' : L2.St} {ρ ρ' : List (Option S)} {ω ω' : List Cell} {T T' : List (V × S)}
theorem Slots.mono (g : Same B B') (h : Slots K α B σ ρ) (e : ∃ β, α' = α ++ β) : Slots K α' B' σ ρ := by
  obtain ⟨β, rfl⟩ := e
  exact ⟨h.1, fun i s q => let ⟨v, a, b⟩ := h.2 i s q; ⟨v, a, b.mono g⟩⟩
theorem StB.step (s : StB Φ K B α H σ ρ ω T) (f : Frame ⟨B, H, α⟩ B' H' α') (w : Wld K B' H' α' ω') : StB Φ K B' α' H' σ ρ ω' T := by
  obtain ⟨β, e, _⟩ := f.pre
  exact ⟨s.fr.trans f, w, s.sl.mono f.bb ⟨β, e⟩, fun p hp => by
    have e : α' = α ++ β := e
    subst e
    exact (s.tm p hp).mono f.bb⟩
theorem StB.push (s : StB Φ K B α H σ ρ ω T) {v : V} {x : S} (h : RS K α B v x) : StB Φ K B α H σ ρ ω ((v, x) :: T) := ⟨s.fr, s.wd, s.sl, fun p hp => by
  rcases List.mem_cons.mp hp with rfl | hp
  · exact h
  · exact s.tm p hp⟩
theorem StB.pushD (s : StB Φ K B α H σ ρ ω T) {v : V} {x : D} (h : R K B v x) : StB Φ K B α H σ ρ ω ((v, .d x) :: T) := s.push (x := .d x) h
theorem StB.sub (s : StB Φ K B α H σ ρ ω T) (h : ∀ p ∈ T', p ∈ T) : StB Φ K B α H σ ρ ω T' := ⟨s.fr, s.wd, s.sl, fun p hp => s.tm p (h p hp)⟩
theorem St.sub (s : St Φ K H σ ρ ω T) (h : ∀ p ∈ T', p ∈ T) : St Φ K H σ ρ ω T' := let ⟨B, α, x⟩ := s; ⟨B, α, x.sub h⟩
theorem Wld.fresh (w : Wld K B H α ω) {p : Addr} (h : H p = none) : p ∉ α := fun m => by
  obtain ⟨o, e⟩ := w.tr p m
  rw [h] at e
  cases e
/-- a new object that stays -/
theorem Frame.froze (g : Same B H) (w : Wld K B H α ω) {p : Addr} (hp : H p = none) (o : HO) : Frame ⟨B, H, α⟩ (upd B p o) (upd H p o) α ∧ Wld K (upd B p o) (upd H p o) α ω := by
  have hB : B p = none := g.free hp
  have gB : Same B (upd B p o) := fun b u q => by rw [upd_ne (ne_of_none q hB)]; exact q
  have gH : Same H (upd H p o) := fun b u q => by rw [upd_ne (ne_of_none q hp)]; exact q
  have nm := w.fresh hp
  refine ⟨⟨gB, fun b u q => ?_, fun b u _ q => gH b u q, fun a u q => ?_, [], by simp, by simp⟩, w.nd, w.len, fun a m => let ⟨u, q⟩ := w.tr a m; ⟨u, gH a u q⟩, fun j a c e1 e2 => ?_⟩
  · by_cases z : b = p
    · subst z; rw [upd_same] at q ⊢; exact q
    · rw [upd_ne z] at q ⊢; exact g b u q
  · by_cases z : a = p
    · subst z; exact .inr (.inl hp)
    · rw [upd_ne z] at q; exact .inl ⟨u, q⟩
  · have na : a ≠ p := fun z => nm (z ▸ List.mem_of_getElem? e1)
    have := (w.cell j a c e1 e2).mono (β := []) gB (fun z => by rw [upd_ne na]; exact z) (H' := upd H p o) (by rw [upd_ne na])
    simpa using this
/-- a new object that changes -/
theorem Frame.fresh (g : Same B H) (w : Wld K B H α ω) {p : Addr} (hp : H p = none) (o : HO) {c : Cell} (hc : CellOk K (α ++ [p]) B (upd H p o) p c) : Frame ⟨B, H, α⟩ B (upd H p o) (α ++ [p]) ∧ Wld K B (upd H p o) (α ++ [p]) (ω ++ [c]) := by
  have gH : Same H (upd H p o) := fun b u q => by rw [upd_ne (ne_of_none q hp)]; exact q
  have nm := w.fresh hp
  refine ⟨⟨Same.refl B, fun b u q => gH b u (g b u q), fun b u _ q => gH b u q, fun a u q => .inl ⟨u, q⟩, [p], rfl, fun a m => by rw [List.mem_singleton.mp m]; exact .inl hp⟩, ?_, by simp [w.len], fun a m => ?_, fun j a c' e1 e2 => ?_⟩
  · rw [List.nodup_append]
    exact ⟨w.nd, by simp, fun a ha b hb => by rw [List.mem_singleton.mp hb]; exact fun z => nm (z ▸ ha)⟩
  · rcases List.mem_append.mp m with m | m
    · obtain ⟨u, q⟩ := w.tr a m
      exact ⟨u, gH a u q⟩
    · rw [List.mem_singleton.mp m]
      exact ⟨o, upd_same⟩
  · by_cases hj : j < α.length
    · rw [List.getElem?_append_left hj] at e1
      rw [List.getElem?_append_left (by rw [← w.len]; exact hj)] at e2
      have na : a ≠ p := fun z => nm (z ▸ List.mem_of_getElem? e1)
      exact (w.cell j a c' e1 e2).mono (Same.refl B) id (by rw [upd_ne na])
    · have hl : j < (α ++ [p]).length := (List.getElem?_eq_some_iff.mp e1).1
      have : j = α.length := by simp at hl; omega
      subst this
      rw [List.getElem?_append_right (Nat.le_refl _)] at e1
      rw [w.len, List.getElem?_append_right (Nat.le_refl _)] at e2
      simp at e1 e2
      subst e1 e2
      exact hc
theorem nodup_get {a : Addr} : ∀ {l : List Addr} {i j : Nat}, l.Nodup → l[i]? = some a → l[j]? = some a → i = j
  | [], _, _, _, h, _ => by simp at h
  | x :: l, 0, 0, _, _, _ => rfl
  | x :: l, 0, j + 1, n, h1, h2 => by
    simp at h1 h2
    subst h1
    exact absurd (List.mem_of_getElem? h2) (List.nodup_cons.mp n).1
  | x :: l, i + 1, 0, n, h1, h2 => by
    simp at h1 h2
    subst h2
    exact absurd (List.mem_of_getElem? h1) (List.nodup_cons.mp n).1
  | x :: l, i + 1, j + 1, n, h1, h2 => congrArg (· + 1) (nodup_get (List.nodup_cons.mp n).2 (by simpa using h1) (by simpa using h2))
/-- an object changes -/
theorem Frame.write (g : Same B H) (w : Wld K B H α ω) {j : Nat} {a : Addr} (ha : α[j]? = some a) (hb : B a = none) (o : HO) {c : Cell} (hc : CellOk K α B (upd H a o) a c) : Frame ⟨B, H, α⟩ B (upd H a o) α ∧ Wld K B (upd H a o) α (ω.set j c) := by
  have ma := List.mem_of_getElem? ha
  refine ⟨⟨Same.refl B, fun b u q => by rw [upd_ne (ne_of_none q hb)]; exact g b u q, fun b u m q => by rw [upd_ne (show b ≠ a from fun z => m (by rw [z]; exact ma))]; exact q, fun a u q => .inl ⟨u, q⟩, [], by simp, by simp⟩, w.nd, by simp [w.len], fun b m => ?_, fun i b c' e1 e2 => ?_⟩
  · by_cases z : b = a
    · subst z; exact ⟨o, upd_same⟩
    · obtain ⟨u, q⟩ := w.tr b m
      exact ⟨u, by rw [upd_ne z]; exact q⟩
  · by_cases hi : i = j
    · subst hi
      have : b = a := Option.some.inj (e1.symm.trans ha)
      subst this
      rw [List.getElem?_set_self (by rw [← w.len]; exact (List.getElem?_eq_some_iff.mp ha).1)] at e2
      cases e2
      exact hc
    · rw [List.getElem?_set_ne (Ne.symm hi)] at e2
      have na : b ≠ a := fun z => hi (nodup_get w.nd e1 (z ▸ ha))
      have := (w.cell i b c' e1 e2).mono (β := []) (Same.refl B) id (H' := upd H a o) (by rw [upd_ne na])
      simpa using this
def allD : List S → Option (List D)
  | [] => some []
  | .d x :: ss => (allD ss).map (x :: ·)
  | .pin _ :: _ => none
theorem allD_map (ds : List D) : allD (ds.map .d) = some ds := by
  induction ds with
  | nil => rfl
  | cons x r ih => simp [allD, ih]
theorem allD_eq : ∀ {ss : List S} {ds : List D}, allD ss = some ds → ss = ds.map .d
  | [], ds, h => by cases h; rfl
  | .d x :: ss, ds, h => by
    simp only [allD, Option.map_eq_some_iff] at h
    obtain ⟨r, h1, rfl⟩ := h
    rw [allD_eq h1]
    rfl
  | .pin _ :: _, ds, h => by cases h
theorem rs_all {vs : List V} : ∀ {ss : List S} {ds : List D}, Paired (RS K α B) vs ss → allD ss = some ds → Rs K B vs ds := by
  intro ss ds p h
  obtain rfl := allD_eq h
  clear h
  induction ds generalizing vs with
  | nil => cases p; exact .nil
  | cons x r ih => cases p with | cons h t => exact .cons h (ih t)
/-- an object that changes no more -/
theorem Frame.stop (g : Same B H) (w : Wld K B H α ω) {j : Nat} {a : Addr} {ss : List S} {ds : List D} (ha : α[j]? = some a) (hc : ω[j]? = some (.lst ss)) (hd : allD ss = some ds) :
    ∃ B', Frame ⟨B, H, α⟩ B' H α ∧ Wld K B' H α (ω.set j .dead) ∧ R K B' (.ref a) (.lst ds) := by
  have ma := List.mem_of_getElem? ha
  obtain ⟨hb, xs, ex, p⟩ := w.cell j a _ ha hc
  have gB : Same B (upd B a (.lst xs)) := fun b u q => by rw [upd_ne (ne_of_none q hb)]; exact q
  refine ⟨upd B a (.lst xs), ⟨gB, fun b u q => ?_, fun _ _ _ q => q, fun b u q => ?_, [], by simp, by simp⟩, ⟨w.nd, by simp [w.len], w.tr, fun i b c' e1 e2 => ?_⟩, .lst upd_same (Rs.mono gB (rs_all p hd))⟩
  · by_cases z : b = a
    · subst z; rw [upd_same] at q; cases q; exact ex
    · rw [upd_ne z] at q; exact g b u q
  · by_cases z : b = a
    · subst z; exact .inr (.inr ma)
    · rw [upd_ne z] at q; exact .inl ⟨u, q⟩
  · by_cases hi : i = j
    · subst hi
      rw [List.getElem?_set_self (by rw [← w.len]; exact (List.getElem?_eq_some_iff.mp ha).1)] at e2
      cases e2
      exact True.intro
    · rw [List.getElem?_set_ne (Ne.symm hi)] at e2
      have na : b ≠ a := fun z => hi (nodup_get w.nd e1 (z ▸ ha))
      have := (w.cell i b c' e1 e2).mono (β := []) gB (fun z => by rw [upd_ne na]; exact z) (H' := H) rfl
      simpa using this
end
end Y

set_option Elab.async false
set_option linter.all false
set_option maxRecDepth 100000
set_option maxHeartbeats 2000000
namespace Y
open PySem PySem.Spec PyProof.Rows L2
/-! ### what an expression, a test, an argument list, a statement means -/
abbrev Env := List (Option S)
abbrev Sto := List Cell
abbrev Ex := Addr × List (Str × D)
abbrev XD := Ex → Prop
abbrev TD := Env → Sto → (S → Sto → Prop) → XD → Prop
abbrev TTD := Env → Sto → (Bool → Sto → Prop) → XD → Prop
abbrev TAD := Env → Sto → (List S → Sto → Prop) → XD → Prop
/-- an exception that leaves -/
def XOk (Φ : Phi) (K : PySem.W.Frag) (x : XD) (E : XK) : Prop := ∀ C fs, x (C, fs) → ∀ B H α, Frame Φ B H α → (fs = [] → E (.ref C) none H) ∧
  (fs ≠ [] → ∀ d ys, H d = some (.xd ys) → B d = none → Φ.H d = none → d ∉ α → Paired (fun p q => p.1 = q.1 ∧ R K B p.2 q.2) ys fs → E (.ref C) (some d) H)
theorem XOk.never {Φ : Phi} {K : PySem.W.Frag} {E : XK} : XOk Φ K (fun _ => False) E := fun _ _ h => h.elim
theorem XOk.step {Φ : Phi} {K : PySem.W.Frag} {x : XD} {E : XK} {B H : Hp} {α : List Addr} (h : XOk Φ K x E) (f : Frame Φ B H α) : XOk ⟨B, H, α⟩ K x E := fun C fs hx B' H' α' g => by
  have g' := f.trans g
  refine ⟨(h C fs hx B' H' α' g').1, fun n d ys e1 e2 e3 e4 e5 => (h C fs hx B' H' α' g').2 n d ys e1 e2 ?_ e4 e5⟩
  have e3 : H d = none := e3
  obtain ⟨β, q, _⟩ := f.pre
  obtain ⟨γ, q2, _⟩ := g.pre
  cases z : Φ.H d with
  | none => rfl
  | some o =>
    exfalso
    have m : d ∈ Φ.α := Classical.byContradiction fun m => by
      rw [f.hh d o m z] at e3
      cases e3
    have q2 : α' = α ++ γ := q2
    exact e4 (by rw [q2, q]; simp [m])
def Ref (K : PySem.W.Frag) (E : XK) (te : TE) (t : TD) : Prop := ∀ (Φ : Phi) (H : Hp) (σ : L2.St) (ρ : Env) (ω : Sto) (T : List (V × S)) (q : S → Sto → Prop) (Q : VK) (x : XD), St Φ K H σ ρ ω T → XOk Φ K x E →
  (∀ s ω' v H', q s ω' → St Φ K H' σ ρ ω' ((v, s) :: T) → Q v H') → t ρ ω q x → te σ H Q
def RefT (K : PySem.W.Frag) (E : XK) (tt : TT) (t : TTD) : Prop := ∀ (Φ : Phi) (H : Hp) (σ : L2.St) (ρ : Env) (ω : Sto) (T : List (V × S)) (q : Bool → Sto → Prop) (Q : Bool → Hp → Prop) (x : XD), St Φ K H σ ρ ω T → XOk Φ K x E →
  (∀ b ω' H', q b ω' → St Φ K H' σ ρ ω' T → Q b H') → t ρ ω q x → tt σ H Q
def RefA (K : PySem.W.Frag) (E : XK) (ta : TA) (t : TAD) : Prop := ∀ (Φ : Phi) (H : Hp) (σ : L2.St) (ρ : Env) (ω : Sto) (T : List (V × S)) (q : List S → Sto → Prop) (Q : List V → Hp → Prop) (x : XD), St Φ K H σ ρ ω T → XOk Φ K x E →
  (∀ ss ω' vs H', q ss ω' → vs.length = ss.length → St Φ K H' σ ρ ω' (vs.zip ss ++ T) → Q vs H') → t ρ ω q x → ta σ H Q
structure PD (X : Cx) (K : PySem.W.Frag) (E : XK) (e : Expr) (te : TE) (t : TD) : Prop where
  p : PE X e te
  r : Ref K E te t
structure PTD (X : Cx) (K : PySem.W.Frag) (E : XK) (e : Expr) (te : TT) (t : TTD) : Prop where
  p : PT X e te
  r : RefT K E te t
structure PWD (X : Cx) (K : PySem.W.Frag) (E : XK) (e : Expr) (te : TT) (t : TTD) : Prop where
  p : PW X e te
  r : RefT K E te t
structure PAD (X : Cx) (K : PySem.W.Frag) (E : XK) (es : List Expr) (te : TA) (t : TAD) : Prop where
  p : PA X es te
  r : RefA K E te t
theorem paired_zip {α β : Type} {F : α → β → Prop} : ∀ {l : List α} {m : List β}, l.length = m.length → (∀ p ∈ l.zip m, F p.1 p.2) → Paired F l m
  | [], [], _, _ => .nil
  | a :: l, b :: m, h, q => .cons (q (a, b) (by simp)) (paired_zip (by simpa using h) fun p hp => q p (by simp [hp]))
  | [], _ :: _, h, _ => by simp at h
  | _ :: _, [], h, _ => by simp at h
/-! ### names and constants -/
def dVar (i : Nat) : TD := fun ρ ω Q _ => match ρ[i]? with | some (some s) => Q s ω | _ => False
def dC (d : D) : TD := fun _ ω Q _ => Q (.d d) ω
section
variable {X : Cx} {E : XK} {K : PySem.W.Frag}
theorem St.push {Φ : Phi} {H : Hp} {σ : L2.St} {ρ : Env} {ω : Sto} {T : List (V × S)} (s : St Φ K H σ ρ ω T) {v : V} {d : D} (h : ∀ B, R K B v d) : St Φ K H σ ρ ω ((v, .d d) :: T) := let ⟨B, α, x⟩ := s; ⟨B, α, x.push (h B)⟩
theorem ref_var {i : Nat} : Ref K E (tVar i) (dVar i) := fun Φ H σ ρ ω T q Q x s _ k h => by
  obtain ⟨B, α, s⟩ := s
  unfold dVar at h
  split at h
  · rename_i y e
    obtain ⟨v, e1, r⟩ := s.sl.2 i y e
    exact ⟨v, e1, k _ _ v H h ⟨B, α, s.push r⟩⟩
  · exact h.elim
theorem ref_c {v : V} {d : D} (r : ∀ B, R K B v d) : Ref K E (tC v) (dC d) := fun Φ H σ ρ ω T q Q x s _ k h => k _ _ v H h (s.push r)
theorem y_var (i : Nat) {x : Str} {pos : Pos} (hN : X.N[i]? = some x := by rfl) (hv : Vis X.env.scope x := by first | exact Or.inl rfl | exact Or.inr (Or.inl rfl) | exact Or.inr (Or.inr rfl)) (hd : (x == ("__debug__" : Str)) = false := by decide)
    (hcd : (x == ("__classdict__" : Str)) = false := by decide) : PD X K E (.Name x pos) (tVar i) (dVar i) := ⟨pe_var hN hv hd hcd, ref_var⟩
theorem y_int {i j pos} : PD X K E (.Constant (.int i) j pos) (tC (.int i)) (dC (.int i)) := ⟨pe_int, ref_c fun _ => .int i⟩
theorem y_bl {b j pos} : PD X K E (.Constant (.bool b) j pos) (tC (.bl b)) (dC (.bl b)) := ⟨pe_bl, ref_c fun _ => .bl b⟩
theorem y_non {j pos} : PD X K E (.Constant .none j pos) (tC .non) (dC .non) := ⟨pe_non, ref_c fun _ => .non⟩
theorem y_str {x j pos} : PD X K E (.Constant (.str x) j pos) (tC (.str x)) (dC (.str x)) := ⟨pe_str, ref_c fun _ => .str x⟩
/-- a name of the module -/
theorem y_glob {x : Str} {v : V} {u : Value} {d : D} {pos : Pos} (hm : X.mg x = some u) (r : RelV v u) (rd : ∀ B, R K B v d) (hg : Gl X x := by rfl) (hd : (x == ("__debug__" : Str)) = false := by decide) : PD X K E (.Name x pos) (tC v) (dC d) := ⟨pe_glob hg hm r hd, ref_c rd⟩
theorem y_fn {x : Str} {f : Addr} {pos : Pos} (hm : X.mg x = some (.ref f)) (hg : Gl X x := by rfl) (hd : (x == ("__debug__" : Str)) = false := by decide) : PD X K E (.Name x pos) (tC (.ref f)) (dC (.fn f)) := y_glob (v := .ref f) hm rfl (fun _ => .fn f) hg hd
/-! ### argument lists, displays -/
def dNil : TAD := fun _ ω Q _ => Q [] ω
def dCons (t : TD) (u : TAD) : TAD := fun ρ ω Q x => t ρ ω (fun s ω1 => u ρ ω1 (fun ss ω2 => Q (s :: ss) ω2) x) x
theorem refA_nil : RefA K E tNil dNil := fun Φ H σ ρ ω T q Q x s _ k h => k [] ω [] H h rfl s
theorem refA_cons {te : TE} {ta : TA} {t : TD} {u : TAD} (h1 : Ref K E te t) (h2 : RefA K E ta u) : RefA K E (tCons te ta) (dCons t u) := fun Φ H σ ρ ω T q Q x s hx k h =>
  h1 Φ H σ ρ ω T _ _ x s hx (fun y ω1 v H1 h s1 => h2 Φ H1 σ ρ ω1 ((v, y) :: T) _ _ x s1 hx (fun ss ω2 vs H2 h l s2 => k _ _ (v :: vs) H2 h (by simp [l]) (s2.sub fun p hp => by
    simp only [List.zip_cons_cons, List.cons_append, List.mem_cons, List.mem_append] at hp ⊢
    rcases hp with h | h | h
    · exact .inr (.inl h)
    · exact .inl h
    · exact .inr (.inr h))) h) h
theorem ya_nil : PAD X K E [] (tNil) dNil := ⟨pa_nil, refA_nil⟩
theorem ya_cons {e : Expr} {es : List Expr} {t : TD} {u : TAD} (h1 : PD X K E e h1t t) (h2 : PAD X K E es h2t u) (hs : starEach (e :: es) X.env = (false, eval e X.env) :: starEach es X.env := by rfl) : PAD X K E (e :: es) (tCons h1t h2t) (dCons t u) := ⟨pa_cons h1.p h2.p hs, refA_cons h1.r h2.r⟩
theorem St.pair {Φ : Phi} {B : Hp} {α : List Addr} {H : Hp} {σ : L2.St} {ρ : Env} {ω : Sto} {T : List (V × S)} {vs : List V} {ss : List S} (s : StB Φ K B α H σ ρ ω (vs.zip ss ++ T)) (l : vs.length = ss.length) : Paired (RS K α B) vs ss := paired_zip l fun p hp => s.tm p (List.mem_append_left _ hp)
/-- (a, b, ..): of data -/
def dTup (u : TAD) : TD := fun ρ ω q x => u ρ ω (fun ss ω' => match allD ss with | some ds => ds.length ≤ 1000 ∧ q (.d (.tup ds)) ω' | none => False) x
/-- [a, b, ..], a list that will change -/
def dLst (u : TAD) : TD := fun ρ ω q x => u ρ ω (fun ss ω' => ss.length ≤ 1000 ∧ q (.pin ω'.length) (ω' ++ [.lst ss])) x
/-- [a, b, ..], one that stays -/
def dLstD (u : TAD) : TD := fun ρ ω q x => u ρ ω (fun ss ω' => match allD ss with | some ds => ds.length ≤ 1000 ∧ q (.d (.lst ds)) ω' | none => False) x
theorem le_line {n : Nat} (h : n ≤ 1000) : n ≤ sizeLine := Nat.le_of_lt (small1000 h)
section
variable {Φ : Phi} {B : Hp} {α : List Addr} {H : Hp} {σ : L2.St} {ρ : Env} {ω : Sto} {T : List (V × S)}
/-- a new tuple -/
theorem StB.tup (s : StB Φ K B α H σ ρ ω T) {p : Addr} (hp : H p = none) {xs : List V} {ds : List D} (r : Rs K B xs ds) : St Φ K (upd H p (.tup xs)) σ ρ ω ((.ref p, .d (.tup ds)) :: T) := by
  obtain ⟨f, w⟩ := Frame.froze s.fr.bh s.wd hp (.tup xs)
  exact ⟨_, _, (s.step f w).push (.tup upd_same (r.mono f.bb))⟩
theorem StB.lstD (s : StB Φ K B α H σ ρ ω T) {p : Addr} (hp : H p = none) {xs : List V} {ds : List D} (r : Rs K B xs ds) : St Φ K (upd H p (.lst xs)) σ ρ ω ((.ref p, .d (.lst ds)) :: T) := by
  obtain ⟨f, w⟩ := Frame.froze s.fr.bh s.wd hp (.lst xs)
  exact ⟨_, _, (s.step f w).push (.lst upd_same (r.mono f.bb))⟩
theorem StB.lst (s : StB Φ K B α H σ ρ ω T) {p : Addr} (hp : H p = none) {xs : List V} {ss : List S} (r : Paired (RS K α B) xs ss) : St Φ K (upd H p (.lst xs)) σ ρ (ω ++ [.lst ss]) ((.ref p, .pin ω.length) :: T) := by
  obtain ⟨f, w⟩ := Frame.fresh (c := .lst ss) s.fr.bh s.wd hp (.lst xs) ⟨s.fr.bh.free hp, xs, upd_same, paired_mono (fun _ _ h => h.mono (Same.refl _)) r⟩
  exact ⟨_, _, (s.step f w).push ⟨p, by rw [← s.wd.len]; simp, rfl⟩⟩
end
theorem drop_mid {Φ : Phi} {H : Hp} {σ : L2.St} {ρ : Env} {ω : Sto} {T U : List (V × S)} {y : V × S} (s : St Φ K H σ ρ ω (y :: (U ++ T))) : St Φ K H σ ρ ω (y :: T) := s.sub fun p hp => by
  rcases List.mem_cons.mp hp with rfl | hp
  · simp
  · simp [hp]
theorem ref_tup {ta : TA} {u : TAD} (h : RefA K E ta u) : Ref K E (tTup ta) (dTup u) := fun Φ H σ ρ ω T q Q x s hx k hu => h Φ H σ ρ ω T _ _ x s hx (fun ss ω1 vs H1 h l ⟨B, α, s1⟩ => by
  cases e : allD ss with
  | none => simp only [e] at h
  | some ds =>
    simp only [e] at h
    have hl : ss.length = ds.length := by rw [allD_eq e, List.length_map]
    exact ⟨le_line (by omega), fun p hp => k _ _ _ _ h.2 (drop_mid (s1.tup hp (rs_all (St.pair s1 l) e)))⟩) hu
theorem ref_lstD {ta : TA} {u : TAD} (h : RefA K E ta u) : Ref K E (tLst ta) (dLstD u) := fun Φ H σ ρ ω T q Q x s hx k hu => h Φ H σ ρ ω T _ _ x s hx (fun ss ω1 vs H1 h l ⟨B, α, s1⟩ => by
  cases e : allD ss with
  | none => simp only [e] at h
  | some ds =>
    simp only [e] at h
    have hl : ss.length = ds.length := by rw [allD_eq e, List.length_map]
    exact ⟨le_line (by omega), fun p hp => k _ _ _ _ h.2 (drop_mid (s1.lstD hp (rs_all (St.pair s1 l) e)))⟩) hu
theorem ref_lst {ta : TA} {u : TAD} (h : RefA K E ta u) : Ref K E (tLst ta) (dLst u) := fun Φ H σ ρ ω T q Q x s hx k hu => h Φ H σ ρ ω T _ _ x s hx (fun ss ω1 vs H1 h l ⟨B, α, s1⟩ =>
  ⟨le_line (by omega), fun p hp => k _ _ _ _ h.2 (drop_mid (s1.lst hp (St.pair s1 l)))⟩) hu
theorem y_tup {es : List Expr} {u : TAD} {x1} {pos : Pos} (h : PAD X K E es ht u) : PD X K E (.Tuple es x1 pos) (tTup ht) (dTup u) := ⟨pe_tup h.p, ref_tup h.r⟩
theorem y_lst {es : List Expr} {u : TAD} {pos : Pos} (h : PAD X K E es ht u) : PD X K E (.List es pos) (tLst ht) (dLst u) := ⟨pe_lst h.p, ref_lst h.r⟩
theorem y_lstD {es : List Expr} {u : TAD} {pos : Pos} (h : PAD X K E es ht u) : PD X K E (.List es pos) (tLst ht) (dLstD u) := ⟨pe_lst h.p, ref_lstD h.r⟩
/-! ### operations by values -/
/-- what r does of two values, told by data -/
def RefO (K : PySem.W.Frag) (r : R2) (f : S → S → Sto → (S → Sto → Prop) → Prop) : Prop := ∀ (Φ : Phi) (H : Hp) (σ : L2.St) (ρ : Env) (ω : Sto) (T : List (V × S)) (v1 v2 : V) (s1 s2 : S) (q : S → Sto → Prop) (Q : VK), St Φ K H σ ρ ω T → (v1, s1) ∈ T → (v2, s2) ∈ T →
  (∀ s ω' v H', q s ω' → St Φ K H' σ ρ ω' ((v, s) :: T) → Q v H') → f s1 s2 ω q → r v1 v2 H Q
def dOp (f : S → S → Sto → (S → Sto → Prop) → Prop) (t u : TD) : TD := fun ρ ω q x => t ρ ω (fun s1 ω1 => u ρ ω1 (fun s2 ω2 => f s1 s2 ω2 q) x) x
theorem ref_op {r : R2} {f : S → S → Sto → (S → Sto → Prop) → Prop} {ta tb : TE} {t u : TD} (ho : RefO K r f) (h1 : Ref K E ta t) (h2 : Ref K E tb u) : Ref K E (tOp r ta tb) (dOp f t u) := fun Φ H σ ρ ω T q Q x s hx k h =>
  h1 Φ H σ ρ ω T _ _ x s hx (fun s1 ω1 v1 H1 h s' => h2 Φ H1 σ ρ ω1 _ _ _ x s' hx (fun s2 ω2 v2 H2 h s'' => ho Φ H2 σ ρ ω2 _ v1 v2 s1 s2 q Q s'' (by simp) (by simp) (fun s ω' v H' hq hs => k s ω' v H' hq (hs.sub fun p hp => by
    rcases List.mem_cons.mp hp with rfl | hp
    · simp
    · simp [hp])) h) h) h
theorem RefO.or {r r' : R2} {f f' : S → S → Sto → (S → Sto → Prop) → Prop} (h : RefO K r f) (h' : RefO K r' f') : RefO K (fun x y H Q => r x y H Q ∨ r' x y H Q) (fun s1 s2 ω q => f s1 s2 ω q ∨ f' s1 s2 ω q) := fun Φ H σ ρ ω T v1 v2 s1 s2 q Q s m1 m2 k h2 => by
  rcases h2 with h2 | h2
  · exact .inl (h Φ H σ ρ ω T v1 v2 s1 s2 q Q s m1 m2 k h2)
  · exact .inr (h' Φ H σ ρ ω T v1 v2 s1 s2 q Q s m1 m2 k h2)
theorem RefO.imp {r : R2} {f f' : S → S → Sto → (S → Sto → Prop) → Prop} (h : RefO K r f) (g : ∀ s1 s2 ω q, f' s1 s2 ω q → f s1 s2 ω q) : RefO K r f' := fun Φ H σ ρ ω T v1 v2 s1 s2 q Q s m1 m2 k h2 => h Φ H σ ρ ω T v1 v2 s1 s2 q Q s m1 m2 k (g _ _ _ _ h2)
/-- the value of data -/
theorem St.val {Φ : Phi} {H : Hp} {σ : L2.St} {ρ : Env} {ω : Sto} {T : List (V × S)} (s : St Φ K H σ ρ ω T) {v : V} {d : D} (m : (v, S.d d) ∈ T) : ∃ B α, StB Φ K B α H σ ρ ω T ∧ R K B v d := let ⟨B, α, x⟩ := s; ⟨B, α, x, x.tm _ m⟩
end
end Y

set_option Elab.async false
set_option linter.all false
set_option maxRecDepth 100000
set_option maxHeartbeats 2000000
namespace Y
open PySem PySem.Spec PyProof.Rows L2
theorem lineB {n : Nat} (h : n ≤ 1000000) : n ≤ sizeLine := Nat.le_trans h (by rw [sizeLine_eq]; decide)
abbrev FO := S → S → Sto → (S → Sto → Prop) → Prop
section
variable {K : PySem.W.Frag} {X : Cx} {E : XK}
variable {Φ : Phi} {H : Hp} {σ : L2.St} {ρ : Env} {ω : Sto} {T : List (V × S)}
theorem r_int {B : Hp} {v : V} {i : Int} (h : R K B v (.int i)) : v = .int i := by cases h; rfl
theorem r_str {B : Hp} {v : V} {i : Str} (h : R K B v (.str i)) : v = .str i := by cases h; rfl
theorem r_bl {B : Hp} {v : V} {i : Bool} (h : R K B v (.bl i)) : v = .bl i := by cases h; rfl
theorem r_non {B : Hp} {v : V} (h : R K B v .non) : v = .non := by cases h; rfl
theorem r_fn {B : Hp} {v : V} {a : Addr} (h : R K B v (.fn a)) : v = .ref a := by cases h; rfl
theorem r_tup {B : Hp} {v : V} {ds : List D} (h : R K B v (.tup ds)) : ∃ a xs, v = .ref a ∧ B a = some (.tup xs) ∧ Rs K B xs ds := by cases h with | tup h t => exact ⟨_, _, rfl, h, t⟩
theorem r_ktup {B : Hp} {v : V} {ds : List D} (h : R K B v (.ktup ds)) : ∃ a xs, v = .ref a ∧ SqT K B a xs ∧ Rs K B xs ds := by cases h with | ktup h t => exact ⟨_, _, rfl, h, t⟩
theorem r_klst {B : Hp} {v : V} {ds : List D} (h : R K B v (.klst ds)) : ∃ a xs, v = .ref a ∧ SqL K B a xs ∧ Rs K B xs ds := by cases h with | klst h t => exact ⟨_, _, rfl, h, t⟩
theorem r_lst {B : Hp} {v : V} {ds : List D} (h : R K B v (.lst ds)) : ∃ a xs, v = .ref a ∧ B a = some (.lst xs) ∧ Rs K B xs ds := by cases h with | lst h t => exact ⟨_, _, rfl, h, t⟩
/-! ### + - * // % and the bits -/
def intO (g : Int → Int → S) (C : Int → Int → Prop) : FO := fun s1 s2 ω q => match s1, s2 with
  | .d (.int i), .d (.int j) => C i j ∧ q (g i j) ω
  | _, _ => False
theorem refO_int {C : Int → Int → Prop} {g : Int → Int → Int} : RefO K (rI C fun i j => .int (g i j)) (intO (fun i j => .d (.int (g i j))) C) := fun Φ H σ ρ ω T v1 v2 s1 s2 q Q s m1 m2 k h => by
  unfold intO at h
  split at h
  · obtain ⟨B, α, _, r1⟩ := s.val m1
    obtain ⟨_, _, _, r2⟩ := s.val m2
    exact ⟨_, _, r_int r1, r_int r2, h.1, k _ _ _ _ h.2 (s.push fun _ => .int _)⟩
  · exact h.elim
theorem refO_int0 {g : Int → Int → Int} : RefO K (rI0 fun i j => .int (g i j)) (intO (fun i j => .d (.int (g i j))) fun _ _ => True) := fun Φ H σ ρ ω T v1 v2 s1 s2 q Q s m1 m2 k h => by
  obtain ⟨i, j, e1, e2, _, z⟩ := refO_int (C := fun _ _ => True) Φ H σ ρ ω T v1 v2 s1 s2 q Q s m1 m2 k h
  exact ⟨i, j, e1, e2, z⟩
theorem refO_cmp {g : Int → Int → Bool} : RefO K (rI0 fun i j => .bl (g i j)) (intO (fun i j => .d (.bl (g i j))) fun _ _ => True) := fun Φ H σ ρ ω T v1 v2 s1 s2 q Q s m1 m2 k h => by
  unfold intO at h
  split at h
  · obtain ⟨B, α, _, r1⟩ := s.val m1
    obtain ⟨_, _, _, r2⟩ := s.val m2
    exact ⟨_, _, r_int r1, r_int r2, k _ _ _ _ h.2 (s.push fun _ => .bl _)⟩
  · exact h.elim
def strO (g : Str → Str → Bool) : FO := fun s1 s2 ω q => match s1, s2 with
  | .d (.str i), .d (.str j) => q (.d (.bl (g i j))) ω
  | _, _ => False
theorem refO_strcmp {g : Str → Str → Bool} : RefO K (fun x y H Q => ∃ i j, x = .str i ∧ y = .str j ∧ Q (.bl (g i j)) H) (strO g) := fun Φ H σ ρ ω T v1 v2 s1 s2 q Q s m1 m2 k h => by
  unfold strO at h
  split at h
  · obtain ⟨B, α, _, r1⟩ := s.val m1
    obtain ⟨_, _, _, r2⟩ := s.val m2
    exact ⟨_, _, r_str r1, r_str r2, k _ _ _ _ h (s.push fun _ => .bl _)⟩
  · exact h.elim
def addD : FO := fun s1 s2 ω q => match s1, s2 with
  | .d (.int i), .d (.int j) => q (.d (.int (i + j))) ω
  | .d (.str x), .d (.str y) => x.length + y.length ≤ 1000000 ∧ q (.d (.str (x ++ y))) ω
  | .d (.tup a), .d (.tup b) => a.length + b.length ≤ 1000000 ∧ q (.d (.tup (a ++ b))) ω
  | .d (.lst a), .d (.lst b) => a.length + b.length ≤ 1000000 ∧ q (.d (.lst (a ++ b))) ω
  | _, _ => False
def rAddY (K : PySem.W.Frag) : R2 := fun x y H Q => rI0 (fun i j => .int (i + j)) x y H Q ∨ (∃ i j, x = .str i ∧ y = .str j ∧ i.length + j.length ≤ sizeLine ∧ Q (.str (i ++ j)) H) ∨ rCatA K x y H Q ∨ rCat x y H Q
theorem op_addY : OpR X (binaryOp .Add) (rAddY X.K) := op_add.or (op_add_str.or (op_catA.or op_cat))
theorem St.sub1 {Φ : Phi} {H : Hp} {σ : L2.St} {ρ : Env} {ω : Sto} {T : List (V × S)} {p : V × S} (s : St Φ K H σ ρ ω T) (h : p ∈ T) : St Φ K H σ ρ ω (p :: T) := s.sub fun z hz => by
  rcases List.mem_cons.mp hz with rfl | hz
  · exact h
  · exact hz
theorem StB.st (s : StB Φ K B α H σ ρ ω T) : St Φ K H σ ρ ω T := ⟨_, _, s⟩
theorem refO_add : RefO K (rAddY K) addD := fun Φ H σ ρ ω T v1 v2 s1 s2 q Q s m1 m2 k h => by
  unfold addD at h
  obtain ⟨B, α, sb⟩ := s
  split at h
  · exact .inl ⟨_, _, r_int (sb.tm _ m1), r_int (sb.tm _ m2), k _ _ _ _ h (sb.st.push fun _ => .int _)⟩
  · exact .inr (.inl ⟨_, _, r_str (sb.tm _ m1), r_str (sb.tm _ m2), lineB h.1, k _ _ _ _ h.2 (sb.st.push fun _ => .str _)⟩)
  · obtain ⟨a, xs, rfl, ha, ra⟩ := r_tup (sb.tm _ m1)
    obtain ⟨b, ys, rfl, hb, rb⟩ := r_tup (sb.tm _ m2)
    have la := ra.len
    have lb := rb.len
    refine .inr (.inr (.inl ⟨a, b, xs, ys, rfl, rfl, SqT.of (sb.fr.bh _ _ ha), SqT.of (sb.fr.bh _ _ hb), lineB (by omega), fun e => ?_, fun _ e => ?_, fun _ _ p hp => k _ _ _ _ h.2 (sb.tup hp (ra.append rb))⟩))
    · subst e
      cases ra
      exact k _ _ _ _ h.2 (sb.st.sub1 m2)
    · subst e
      cases rb
      rw [List.append_nil] at h
      exact k _ _ _ _ h.2 (sb.st.sub1 m1)
  · obtain ⟨a, xs, rfl, ha, ra⟩ := r_lst (sb.tm _ m1)
    obtain ⟨b, ys, rfl, hb, rb⟩ := r_lst (sb.tm _ m2)
    have la := ra.len
    have lb := rb.len
    exact .inr (.inr (.inr ⟨a, b, xs, ys, rfl, rfl, sb.fr.bh _ _ ha, sb.fr.bh _ _ hb, lineB (by omega), fun p hp => k _ _ _ _ h.2 (sb.lstD hp (ra.append rb))⟩))
  · exact h.elim
section
variable {a b : Expr} {t u : TD} {pos : Pos}
theorem y_op {op : Operator} {r : R2} {f : FO} (ho : OpR X (binaryOp op) r) (hf : RefO K r f) (h1 : PD X K E a h1t t) (h2 : PD X K E b h2t u) : PD X K E (.BinOp a op b pos) (tOp r h1t h2t) (dOp f t u) :=  ⟨pe_op ho h1.p h2.p, ref_op hf h1.r h2.r⟩
theorem y_add (h1 : PD X K E a h1t t) (h2 : PD X K E b h2t u) (hK : X.K = K := by rfl) : PD X K E (.BinOp a .Add b pos) (tOp (rAddY K) h1t h2t) (dOp addD t u) := by
  subst hK
  exact y_op op_addY refO_add h1 h2
abbrev subD : FO := intO (fun i j => .d (.int (i - j))) fun _ _ => True
abbrev mulD : FO := intO (fun i j => .d (.int (i * j))) CMul
abbrev modD : FO := intO (fun i j => .d (.int (i.fmod j))) fun _ j => j ≠ 0
abbrev fdivD : FO := intO (fun i j => .d (.int (i.fdiv j))) CDivN
theorem y_sub (h1 : PD X K E a h1t t) (h2 : PD X K E b h2t u) : PD X K E (.BinOp a .Sub b pos) (tOp (rI0 fun i j => .int (i - j)) h1t h2t) (dOp subD t u) := y_op op_sub refO_int0 h1 h2
theorem y_mul (h1 : PD X K E a h1t t) (h2 : PD X K E b h2t u) : PD X K E (.BinOp a .Mult b pos) (tOp (rI CMul fun i j => .int (i * j)) h1t h2t) (dOp mulD t u) := y_op op_mul refO_int h1 h2
theorem y_mod (h1 : PD X K E a h1t t) (h2 : PD X K E b h2t u) : PD X K E (.BinOp a .Mod b pos) (tOp (rI (fun _ j => j ≠ 0) fun i j => .int (i.fmod j)) h1t h2t) (dOp modD t u) := y_op op_modN refO_int h1 h2
theorem y_fdiv (h1 : PD X K E a h1t t) (h2 : PD X K E b h2t u) : PD X K E (.BinOp a .FloorDiv b pos) (tOp (rI CDivN fun i j => .int (i.fdiv j)) h1t h2t) (dOp fdivD t u) := y_op op_fdivN refO_int h1 h2
abbrev shlD : FO := intO (fun i j => .d (.int (i * 2 ^ j.toNat))) CPow
abbrev shrD : FO := intO (fun i j => .d (.int (i / 2 ^ j.toNat))) fun _ j => 0 ≤ j
abbrev bandD : FO := intO (fun i j => .d (.int (Builtin.bitAnd i j))) fun _ _ => True
abbrev borD : FO := intO (fun i j => .d (.int (Builtin.bitOr i j))) fun _ _ => True
theorem y_shl (h1 : PD X K E a h1t t) (h2 : PD X K E b h2t u) : PD X K E (.BinOp a .LShift b pos) (tOp (rI CPow fun i j => .int (i * 2 ^ j.toNat)) h1t h2t) (dOp shlD t u) := y_op op_shl refO_int h1 h2
theorem y_shr (h1 : PD X K E a h1t t) (h2 : PD X K E b h2t u) : PD X K E (.BinOp a .RShift b pos) (tOp (rI (fun _ j => 0 ≤ j) fun i j => .int (i / 2 ^ j.toNat)) h1t h2t) (dOp shrD t u) := y_op op_shr refO_int h1 h2
theorem y_band (h1 : PD X K E a h1t t) (h2 : PD X K E b h2t u) : PD X K E (.BinOp a .BitAnd b pos) (tOp (rI0 fun i j => .int (Builtin.bitAnd i j)) h1t h2t) (dOp bandD t u) := y_op op_and refO_int0 h1 h2
theorem y_bor (h1 : PD X K E a h1t t) (h2 : PD X K E b h2t u) : PD X K E (.BinOp a .BitOr b pos) (tOp (rI0 fun i j => .int (Builtin.bitOr i j)) h1t h2t) (dOp borD t u) := y_op op_or refO_int0 h1 h2
end
/-! ### plain data as the library's -/
mutual
def toP : D → PyData
  | .non => .none
  | .bl b => .bool b
  | .int i => .int i
  | .str x => .str x
  | .fn _ => .none
  | .tup ds => .tuple (toPs ds)
  | .ktup ds => .tuple (toPs ds)
  | .lst ds => .list (toPs ds)
  | .klst ds => .list (toPs ds)
def toPs : List D → List PyData
  | [] => []
  | d :: ds => toP d :: toPs ds
end
mutual
def pureD : D → Bool
  | .fn _ => false
  | .tup ds => pureDs ds
  | .ktup ds => pureDs ds
  | .lst ds => pureDs ds
  | .klst ds => pureDs ds
  | .non => true
  | .bl _ => true
  | .int _ => true
  | .str _ => true
def pureDs : List D → Bool
  | [] => true
  | d :: ds => pureD d && pureDs ds
end
mutual
theorem r_dp {B H : Hp} (g : Same B H) : ∀ {d : D} {v : V}, pureD d = true → R K B v d → Dp K H v (toP d)
  | .non, _, _, h => by rw [r_non h]; exact .non
  | .bl b, _, _, h => by rw [r_bl h]; exact .bl b
  | .int i, _, _, h => by rw [r_int h]; exact .int i
  | .str x, _, _, h => by rw [r_str h]; exact .str x
  | .fn a, _, p, _ => by simp [pureD] at p
  | .tup ds, _, p, h => by
    obtain ⟨a, xs, rfl, ha, ra⟩ := r_tup h
    exact .tup (SqT.of (g _ _ ha)) (rs_dp g (by simpa [pureD] using p) ra)
  | .ktup ds, _, p, h => by
    obtain ⟨a, xs, rfl, ha, ra⟩ := r_ktup h
    exact .tup (sameT g ha) (rs_dp g (by simpa [pureD] using p) ra)
  | .lst ds, _, p, h => by
    obtain ⟨a, xs, rfl, ha, ra⟩ := r_lst h
    exact .lst (SqL.of (g _ _ ha)) (rs_dp g (by simpa [pureD] using p) ra)
  | .klst ds, _, p, h => by
    obtain ⟨a, xs, rfl, ha, ra⟩ := r_klst h
    exact .lst (g.seq ha) (rs_dp g (by simpa [pureD] using p) ra)
theorem rs_dp {B H : Hp} (g : Same B H) : ∀ {ds : List D} {vs : List V}, pureDs ds = true → Rs K B vs ds → DpAll K H vs (toPs ds)
  | [], _, _, h => by cases h; exact .nil
  | d :: ds, _, p, h => by
    simp only [pureDs, Bool.and_eq_true] at p
    cases h with | cons h t => exact .cons (r_dp g p.1 h) (rs_dp g p.2 t)
end
/-- may be compared -/
def okD (d : D) : Prop := pureD d = true ∧ SeqAt.shaped (toP d) = true
/-- two scalars -/
def scEq : D → D → Option Bool
  | .int i, .int j => some (decide (i = j))
  | .str i, .str j => some (decide (i = j))
  | .bl i, .bl j => some (decide (i = j))
  | .non, .non => some true
  | .int _, .str _ => some false
  | .str _, .int _ => some false
  | .non, .int _ => some false
  | .int _, .non => some false
  | .non, .str _ => some false
  | .str _, .non => some false
  | .non, .bl _ => some false
  | .bl _, .non => some false
  | .bl _, .str _ => some false
  | .str _, .bl _ => some false
  | _, _ => none
theorem scEq_ok {B : Hp} {v w : V} {a b : D} {k : Bool} (h : scEq a b = some k) (r1 : R K B v a) (r2 : R K B w b) : scal v w = true ∧ decide (v = w) = k := by
  unfold scEq at h
  split at h <;> cases h <;> cases r1 <;> cases r2 <;> refine ⟨rfl, ?_⟩ <;> simp
def eqD (neg : Bool) : FO := fun s1 s2 ω q => match s1, s2 with
  | .d a, .d b => match scEq a b with
    | some k => q (.d (.bl (neg ^^ k))) ω
    | none => (okD a ∧ okD b) ∧ q (.d (.bl (neg ^^ PyData.eqv (toP a) (toP b)))) ω
  | _, _ => False
def rEqY (K : PySem.W.Frag) : R2 := fun x y H Q => rEq x y H Q ∨ rEqD K x y H Q
def rNeY (K : PySem.W.Frag) : R2 := fun x y H Q => rNe x y H Q ∨ rNeD K x y H Q
theorem refO_eq : RefO K (rEqY K) (eqD false) := fun Φ H σ ρ ω T v1 v2 s1 s2 q Q s m1 m2 k h => by
  unfold eqD at h
  obtain ⟨B, α, sb⟩ := s
  split at h
  · rename_i a b
    cases e : scEq a b with
    | some c =>
      simp only [e] at h
      obtain ⟨x1, x2⟩ := scEq_ok e (sb.tm _ m1) (sb.tm _ m2)
      refine .inl ⟨x1, ?_⟩
      show Q (.bl (decide (v1 = v2))) H
      rw [x2]
      exact k _ _ _ _ h (sb.st.push fun _ => by simpa using R.bl c)
    | none =>
      simp only [e] at h
      refine .inr ⟨_, _, r_dp sb.fr.bh h.1.1.1 (sb.tm _ m1), r_dp sb.fr.bh h.1.2.1 (sb.tm _ m2), h.1.1.2, h.1.2.2, ?_⟩
      exact k _ _ _ _ h.2 (sb.st.push fun _ => by simpa using R.bl _)
  · exact h.elim
theorem refO_ne : RefO K (rNeY K) (eqD true) := fun Φ H σ ρ ω T v1 v2 s1 s2 q Q s m1 m2 k h => by
  unfold eqD at h
  obtain ⟨B, α, sb⟩ := s
  split at h
  · rename_i a b
    cases e : scEq a b with
    | some c =>
      simp only [e] at h
      obtain ⟨x1, x2⟩ := scEq_ok e (sb.tm _ m1) (sb.tm _ m2)
      refine .inl ⟨x1, ?_⟩
      show Q (.bl (!decide (v1 = v2))) H
      rw [x2]
      exact k _ _ _ _ h (sb.st.push fun _ => by simpa using R.bl (!c))
    | none =>
      simp only [e] at h
      refine .inr ⟨_, _, r_dp sb.fr.bh h.1.1.1 (sb.tm _ m1), r_dp sb.fr.bh h.1.2.1 (sb.tm _ m2), h.1.1.2, h.1.2.2, ?_⟩
      exact k _ _ _ _ h.2 (sb.st.push fun _ => by simpa using R.bl _)
  · exact h.elim
/-! ### order, in, is None -/
def ordD (gi : Int → Int → Bool) (gs : Str → Str → Bool) : FO := fun s1 s2 ω q => match s1, s2 with
  | .d (.int i), .d (.int j) => q (.d (.bl (gi i j))) ω
  | .d (.str i), .d (.str j) => q (.d (.bl (gs i j))) ω
  | _, _ => False
theorem refO_ord {gi : Int → Int → Bool} {gs : Str → Str → Bool} : RefO K (fun x y H Q => rI0 (fun i j => .bl (gi i j)) x y H Q ∨ ∃ i j, x = .str i ∧ y = .str j ∧ Q (.bl (gs i j)) H) (ordD gi gs) := fun Φ H σ ρ ω T v1 v2 s1 s2 q Q s m1 m2 k h => by
  unfold ordD at h
  obtain ⟨B, α, sb⟩ := s
  split at h
  · exact .inl ⟨_, _, r_int (sb.tm _ m1), r_int (sb.tm _ m2), k _ _ _ _ h (sb.st.push fun _ => .bl _)⟩
  · exact .inr ⟨_, _, r_str (sb.tm _ m1), r_str (sb.tm _ m2), k _ _ _ _ h (sb.st.push fun _ => .bl _)⟩
  · exact h.elim
def ltS (x y : Str) : Bool := decide (x.cps.toList < y.cps.toList)
abbrev ltD : FO := ordD (fun i j => decide (i < j)) ltS
abbrev leD : FO := ordD (fun i j => decide (i ≤ j)) (fun x y => !ltS y x)
abbrev gtD : FO := ordD (fun i j => decide (j < i)) (fun x y => ltS y x)
abbrev geD : FO := ordD (fun i j => decide (j ≤ i)) (fun x y => !ltS x y)
def isNon : D → Bool
  | .non => true
  | _ => false
def isND (neg : Bool) : FO := fun s1 s2 ω q => match s1, s2 with
  | .d a, .d .non => q (.d (.bl (neg ^^ isNon a))) ω
  | .pin _, .d .non => q (.d (.bl neg)) ω
  | _, _ => False
theorem non_iff {B : Hp} {v : V} {a : D} (r : R K B v a) : decide (v = .non) = isNon a := by cases r <;> simp [isNon]
theorem refO_isN : RefO K (fun x y H Q => y = .non ∧ Q (.bl (decide (x = .non))) H) (isND false) := fun Φ H σ ρ ω T v1 v2 s1 s2 q Q s m1 m2 k h => by
  unfold isND at h
  obtain ⟨B, α, sb⟩ := s
  split at h
  · refine ⟨r_non (sb.tm _ m2), ?_⟩
    rw [non_iff (sb.tm _ m1)]
    exact k _ _ _ _ h (sb.st.push fun _ => by simpa using R.bl _)
  · obtain ⟨a, _, e⟩ := sb.tm _ m1
    have e : v1 = .ref a := e
    subst e
    exact ⟨r_non (sb.tm _ m2), k _ _ _ _ h (sb.st.push fun _ => by simpa using R.bl _)⟩
  · exact h.elim
theorem refO_notN : RefO K (fun x y H Q => y = .non ∧ Q (.bl (!decide (x = .non))) H) (isND true) := fun Φ H σ ρ ω T v1 v2 s1 s2 q Q s m1 m2 k h => by
  unfold isND at h
  obtain ⟨B, α, sb⟩ := s
  split at h
  · refine ⟨r_non (sb.tm _ m2), ?_⟩
    rw [non_iff (sb.tm _ m1)]
    exact k _ _ _ _ h (sb.st.push fun _ => by simpa using R.bl _)
  · obtain ⟨a, _, e⟩ := sb.tm _ m1
    have e : v1 = .ref a := e
    subst e
    exact ⟨r_non (sb.tm _ m2), k _ _ _ _ h (sb.st.push fun _ => by simpa using R.bl _)⟩
  · exact h.elim
end
end Y

set_option Elab.async false
set_option linter.all false
set_option maxRecDepth 100000
set_option maxHeartbeats 2000000
namespace Y
open PySem PySem.Spec PyProof.Rows L2
section
variable {K : PySem.W.Frag} {X : Cx} {E : XK}
variable {Φ : Phi} {B : Hp} {α : List Addr} {H : Hp} {σ : L2.St} {ρ : Env} {ω : Sto} {T : List (V × S)}
/-! ### what a dict holds -/
def valS {κ : Type} [DecidableEq κ] (kvs : List (κ × S)) (k : κ) : Option S := (kvs.find? fun kv => decide (kv.1 = k)).map (·.2)
def putS {κ : Type} [DecidableEq κ] (kvs : List (κ × S)) (k : κ) (s : S) : List (κ × S) := if kvs.any (fun kv => decide (kv.1 = k)) then kvs.map (fun kv => if kv.1 = k then (kv.1, s) else kv) else kvs ++ [(k, s)]
theorem RK.val {κ : Type} [DecidableEq κ] {k : κ} : ∀ {ys : List (κ × V)} {kvs : List (κ × S)}, RK K α B ys kvs → match valS kvs k with | some s => ∃ v, valV ys k = some v ∧ RS K α B v s | none => valV ys k = none
  | _, _, .nil => rfl
  | p :: ys, q :: kvs, .cons h t => by
    have ih := RK.val (k := k) t
    unfold valS valV at ih ⊢
    rw [List.find?_cons, List.find?_cons, h.1]
    by_cases e : q.1 = k
    · simp only [e, decide_true, Option.map_some]
      exact ⟨p.2, rfl, h.2⟩
    · simp only [e, decide_false]
      exact ih
theorem RK.some {κ : Type} [DecidableEq κ] {k : κ} {ys : List (κ × V)} {kvs : List (κ × S)} {s : S} (r : RK K α B ys kvs) (e : valS kvs k = some s) : ∃ v, valV ys k = some v ∧ RS K α B v s := by
  have := RK.val (k := k) r
  rw [e] at this
  exact this
theorem RK.isSome {κ : Type} [DecidableEq κ] {k : κ} {ys : List (κ × V)} {kvs : List (κ × S)} (r : RK K α B ys kvs) : (valV ys k).isSome = (valS kvs k).isSome := by
  have := RK.val (k := k) r
  cases e : valS kvs k with
  | none => rw [e] at this; rw [this]; rfl
  | some s => rw [e] at this; obtain ⟨v, e2, _⟩ := this; rw [e2]; rfl
theorem RK.len {κ : Type} {ys : List (κ × V)} {kvs : List (κ × S)} (r : RK K α B ys kvs) : ys.length = kvs.length := Paired.length r
theorem RK.any {κ : Type} [DecidableEq κ] {k : κ} : ∀ {ys : List (κ × V)} {kvs : List (κ × S)}, RK K α B ys kvs → ys.any (fun kv => decide (kv.1 = k)) = kvs.any (fun kv => decide (kv.1 = k))
  | _, _, .nil => rfl
  | p :: ys, q :: kvs, .cons h t => by rw [List.any_cons, List.any_cons, h.1, RK.any t]
theorem paired_app {α β : Type} {F : α → β → Prop} : ∀ {l l' : List α} {m m' : List β}, Paired F l m → Paired F l' m' → Paired F (l ++ l') (m ++ m')
  | _, _, _, _, .nil, h => h
  | _, _, _, _, .cons h t, q => .cons h (paired_app t q)
theorem paired_map {α β α' β' : Type} {F : α → β → Prop} {G : α' → β' → Prop} {f : α → α'} {g : β → β'} (h : ∀ a b, F a b → G (f a) (g b)) : ∀ {l : List α} {m : List β}, Paired F l m → Paired G (l.map f) (m.map g)
  | _, _, .nil => .nil
  | _, _, .cons h1 t => .cons (h _ _ h1) (paired_map h t)
theorem RK.put {κ : Type} [DecidableEq κ] {k : κ} {v : V} {s : S} {ys : List (κ × V)} {kvs : List (κ × S)} (r : RK K α B ys kvs) (h : RS K α B v s) : RK K α B (putK ys k v) (putS kvs k s) := by
  unfold putK putS
  rw [r.any]
  split
  · refine paired_map (fun p q hp => ?_) r
    rw [hp.1]
    by_cases e : q.1 = k
    · rw [if_pos e, if_pos e]
      exact ⟨rfl, h⟩
    · rw [if_neg e, if_neg e]
      exact hp
  · exact paired_app r (.cons ⟨rfl, h⟩ .nil)
def keyOf : D → Option Key
  | .int i => some (.inl i)
  | .str x => some (.inr x)
  | _ => none
def keysOf : List D → Option (List Key)
  | [] => some []
  | d :: ds => match keyOf d, keysOf ds with
    | some k, some ks => some (k :: ks)
    | _, _ => none
theorem r_key {v : V} {d : D} {k : Key} (h : keyOf d = some k) (r : R K B v d) : v = kV k := by
  unfold keyOf at h
  split at h <;> cases h <;> cases r <;> rfl
theorem rs_keys : ∀ {ds : List D} {vs : List V} {ks : List Key}, keysOf ds = some ks → Rs K B vs ds → vs = ks.map kV
  | [], _, _, h, r => by cases h; cases r; rfl
  | d :: ds, _, _, h, r => by
    unfold keysOf at h
    split at h
    · rename_i k ks e1 e2
      cases h
      cases r with | cons r t => rw [List.map_cons, r_key e1 r, rs_keys e2 t]
    · cases h
/-- what a dict holds at a key -/
def lookC (c : Cell) (d : D) : Option (Option S) := match c with
  | .dK kvs => (keyOf d).map fun k => valS kvs k
  | .dT kvs => match d with
    | .tup ds => (keysOf ds).map fun k => valS kvs k
    | _ => none
  | _ => none
theorem look_get {a : Addr} {c : Cell} {d : D} {o : Option S} {y : V} (g : Same B H) (hc : CellOk K α B H a c) (r : R K B y d) (h : lookC c d = some o) : ∃ u, DGet H a y u ∧ u.isSome = o.isSome ∧ ∀ s, o = some s → ∃ v, u = some v ∧ RS K α B v s := by
  unfold lookC at h
  split at h
  · rename_i kvs
    obtain ⟨_, ys, e, rk⟩ := hc
    obtain ⟨k, hk, rfl⟩ := Option.map_eq_some_iff.mp h
    rw [r_key hk r]
    exact ⟨_, DGet.k e, rk.isSome, fun s hs => rk.some hs⟩
  · rename_i kvs
    split at h
    · rename_i ds
      obtain ⟨_, ys, e, rk⟩ := hc
      obtain ⟨k, hk, rfl⟩ := Option.map_eq_some_iff.mp h
      obtain ⟨b, xs, rfl, hb, rb⟩ := r_tup r
      rw [rs_keys hk rb] at hb
      exact ⟨_, DGet.t e (g _ _ hb), rk.isSome, fun s hs => rk.some hs⟩
    · cases h
  · cases h
theorem StB.cell (s : StB Φ K B α H σ ρ ω T) {v : V} {j : Nat} (m : (v, S.pin j) ∈ T) {c : Cell} (hc : ω[j]? = some c) : ∃ a, v = .ref a ∧ α[j]? = some a ∧ CellOk K α B H a c := by
  obtain ⟨a, ha, e⟩ := s.tm _ m
  exact ⟨a, e, ha, s.wd.cell j a c ha hc⟩
/-! ### a[b] -/
def rDGet : R2 := fun x y H Q => ∃ a v, x = .ref a ∧ DGet H a y (some v) ∧ Q v H
theorem ix_dict (hu : X.A.units + 1 < cLine) : IxR X rDGet := by
  intro value slice pins s σ H x y v u Q I rx ry h hs
  obtain ⟨a, z, rfl, g, q⟩ := h
  obtain rfl : v = Value.ref a := rx
  have hT := dict_typeIs I g
  have h₂ := d_getItem (Q := EP X pins σ Q) (E := X.xe) hu I g ry fun w' s3 I3 rw' => ⟨z, H, I3, rw', q⟩
  unfold subscriptTail
  refine wpAny_bind ?_
  rw [getitemInPython_of_ne hT.not_modules]
  refine wpAny_bind (wpAny_specialOf hT PySem.F.slot_dict_getitem.lookup ?_)
  have fin : wpAny (model X.prog X.w) X.A (subscripted slice false (.ref a) u) (fun r s₃ => wpAny (model X.prog X.w) X.A (letTemporaryGo value (.ref a) r >>= fun _ => pure r) (EP X pins σ Q) X.xe s₃) X.xe s := by
    rw [hs]
    exact wpAny_operating (wpAny_mono h₂ (fun r s₃ h₃ => wpAny_bind (wpAny_letTemporaryGo (wpAny_pure h₃))) fun _ _ x => x)
  first
    | exact wpAny_pure (wpAny_bind fin)
    | exact wpAny_bind (wpAny_pure (wpAny_bind fin))
    | exact wpAny_bind fin
def rIxY (K : PySem.W.Frag) : R2 := fun x y H Q => rIx K x y H Q ∨ rDGet x y H Q
theorem ix_Y (hu : X.A.units + 1 < cLine) : IxR X (rIxY X.K) := ix_seq.or (ix_dict hu)
def ixD : FO := fun s1 s2 ω q => match s1, s2 with
  | .d (.tup ds), .d (.int i) => match atI ds i with
    | some d => q (.d d) ω
    | none => False
  | .d (.ktup ds), .d (.int i) => match atI ds i with
    | some d => q (.d d) ω
    | none => False
  | .d (.lst ds), .d (.int i) => match atI ds i with
    | some d => q (.d d) ω
    | none => False
  | .d (.str x), .d (.int i) => match atI x.cps.toList i with
    | some c => x.length ≤ 1000000 ∧ q (.d (.str ⟨#[c]⟩)) ω
    | none => False
  | .pin j, .d d => match ω[j]? with
    | some (.lst ss) => match d with
      | .int i => match atI ss i with
        | some s => q s ω
        | none => False
      | _ => False
    | some c => match lookC c d with
      | some (some s) => q s ω
      | _ => False
    | none => False
  | _, _ => False
theorem rs_at {vs : List V} {ds : List D} {i : Int} {d : D} (r : Rs K B vs ds) (h : atI ds i = some d) : ∃ v, atI vs i = some v ∧ R K B v d := by
  unfold atI at h ⊢
  obtain ⟨j, e1, e2⟩ := Option.bind_eq_some_iff.mp h
  obtain ⟨v, e3, r3⟩ := r.get e2
  exact ⟨v, by rw [r.len, e1]; exact e3, r3⟩
theorem paired_get {α β : Type} {F : α → β → Prop} : ∀ {l : List α} {m : List β} {i : Nat} {b : β}, Paired F l m → m[i]? = some b → ∃ a, l[i]? = some a ∧ F a b
  | _, _, i, b, .nil, e => by simp at e
  | _, _, 0, b, .cons h _, e => by simp at e; subst e; exact ⟨_, rfl, h⟩
  | _, _, i + 1, b, .cons _ t, e => by
    obtain ⟨v, a, b⟩ := paired_get (i := i) t (by simpa using e)
    exact ⟨v, by simpa using a, b⟩
theorem pss_at {vs : List V} {ss : List S} {i : Int} {s : S} (r : Paired (RS K α B) vs ss) (h : atI ss i = some s) : ∃ v, atI vs i = some v ∧ RS K α B v s := by
  unfold atI at h ⊢
  obtain ⟨j, e1, e2⟩ := Option.bind_eq_some_iff.mp h
  obtain ⟨v, e3, r3⟩ := paired_get r e2
  exact ⟨v, by rw [Paired.length r, e1]; exact e3, r3⟩
theorem refO_ix : RefO K (rIxY K) ixD := fun Φ H σ ρ ω T v1 v2 s1 s2 q Q s m1 m2 k h => by
  unfold ixD at h
  obtain ⟨B, α, sb⟩ := s
  split at h
  · rename_i ds i
    cases e : atI ds i with
    | none => simp only [e] at h
    | some d =>
      simp only [e] at h
      obtain ⟨a, xs, rfl, ha, ra⟩ := r_tup (sb.tm _ m1)
      obtain ⟨v, ev, rv⟩ := rs_at ra e
      exact .inl (.inr (.inl ⟨a, xs, i, v, rfl, r_int (sb.tm _ m2), SqT.of (sb.fr.bh _ _ ha), ev, k _ _ _ _ h (sb.pushD rv).st⟩))
  · rename_i ds i
    cases e : atI ds i with
    | none => simp only [e] at h
    | some d =>
      simp only [e] at h
      obtain ⟨a, xs, rfl, ha, ra⟩ := r_ktup (sb.tm _ m1)
      obtain ⟨v, ev, rv⟩ := rs_at ra e
      exact .inl (.inr (.inl ⟨a, xs, i, v, rfl, r_int (sb.tm _ m2), sameT sb.fr.bh ha, ev, k _ _ _ _ h (sb.pushD rv).st⟩))
  · rename_i ds i
    cases e : atI ds i with
    | none => simp only [e] at h
    | some d =>
      simp only [e] at h
      obtain ⟨a, xs, rfl, ha, ra⟩ := r_lst (sb.tm _ m1)
      obtain ⟨v, ev, rv⟩ := rs_at ra e
      exact .inl (.inl ⟨a, xs, i, v, rfl, r_int (sb.tm _ m2), SqL.of (sb.fr.bh _ _ ha), ev, k _ _ _ _ h (sb.pushD rv).st⟩)
  · rename_i z i
    cases e : atI z.cps.toList i with
    | none => simp only [e] at h
    | some c =>
      simp only [e] at h
      exact .inl (.inr (.inr ⟨z, i, c, r_str (sb.tm _ m1), r_int (sb.tm _ m2), lineB h.1, e, k _ _ _ _ h.2 (sb.st.push fun _ => .str _)⟩))
  · rename_i j d
    cases ec : ω[j]? with
    | none => simp only [ec] at h
    | some c =>
      obtain ⟨a, rfl, ha, hc⟩ := sb.cell m1 ec
      have dict : ∀ {o : Option S}, lookC c d = some o → (∀ s, o = some s → q s ω) → o.isSome = true → rIxY K (.ref a) v2 H Q := fun {o} hl hq hs => by
        obtain ⟨u, g, _, hu⟩ := look_get sb.fr.bh hc (sb.tm _ m2) hl
        cases o with
        | none => cases hs
        | some s =>
          obtain ⟨v, rfl, rv⟩ := hu s rfl
          exact .inr ⟨a, v, rfl, g, k _ _ _ _ (hq s rfl) (sb.push rv).st⟩
      simp only [ec] at h
      cases c with
      | lst ss =>
        simp only at h
        split at h
        · rename_i i
          cases e : atI ss i with
          | none => simp only [e] at h
          | some s =>
            simp only [e] at h
            obtain ⟨_, xs, ex, rp⟩ := hc
            obtain ⟨v, ev, rv⟩ := pss_at rp e
            exact .inl (.inl ⟨a, xs, i, v, rfl, r_int (sb.tm _ m2), SqL.of ex, ev, k _ _ _ _ h (sb.push rv).st⟩)
        · exact h.elim
      | dK kvs =>
        cases e : lookC (.dK kvs) d with
        | none => simp only [e] at h
        | some o =>
          cases o with
          | none => simp only [e] at h
          | some s => simp only [e] at h; exact dict e (fun s' e' => by cases e'; exact h) rfl
      | dT kvs =>
        cases e : lookC (.dT kvs) d with
        | none => simp only [e] at h
        | some o =>
          cases o with
          | none => simp only [e] at h
          | some s => simp only [e] at h; exact dict e (fun s' e' => by cases e'; exact h) rfl
      | dead => simp only [lookC] at h
      | ins C fs => simp only [lookC] at h
      | tape => simp only [lookC] at h
  · exact h.elim
theorem y_ix {a b : Expr} {t u : TD} {pos : Pos} (hu : X.A.units + 1 < cLine) (h1 : PD X K E a h1t t) (h2 : PD X K E b h2t u) (hs : PlainIx b) (hK : X.K = K := by rfl) : PD X K E (.Subscript a b pos) (tOp (rIxY K) h1t h2t) (dOp ixD t u) := by
  subst hK
  exact ⟨pe_ix (ix_Y hu) h1.p h2.p hs, ref_op refO_ix h1.r h2.r⟩
/-! ### t[i:j] -/
def cutL {β : Type} (xs : List β) (lo hi : Option Int) : List β := (xs.drop (HT.sIx xs.length 0 lo)).take (HT.sIx xs.length xs.length hi - HT.sIx xs.length 0 lo)
theorem Rs.cut {vs : List V} {ds : List D} (r : Rs K B vs ds) (lo hi : Option Int) : Rs K B (cutV vs lo hi) (cutL ds lo hi) := by
  unfold cutV cutL
  rw [r.len]
  exact (r.drop _).take _
abbrev TOD := Env → Sto → (Option Int → Sto → Prop) → XD → Prop
def RefP (K : PySem.W.Frag) (E : XK) (ta : TO) (t : TOD) : Prop := ∀ (Φ : Phi) (H : Hp) (σ : L2.St) (ρ : Env) (ω : Sto) (T : List (V × S)) (q : Option Int → Sto → Prop) (Q : Option Int → Hp → Prop) (x : XD), St Φ K H σ ρ ω T → XOk Φ K x E →
  (∀ o ω' H', q o ω' → St Φ K H' σ ρ ω' T → Q o H') → t ρ ω q x → ta σ H Q
structure POD (X : Cx) (K : PySem.W.Frag) (E : XK) (e : Option Expr) (te : TO) (t : TOD) : Prop where
  p : PO X e te
  r : RefP K E te t
def dNoPart : TOD := fun _ ω q _ => q none ω
def dPart (t : TD) : TOD := fun ρ ω q x => t ρ ω (fun s ω' => match s with | .d (.int i) => q (some i) ω' | _ => False) x
theorem yo_none : POD X K E none (tNoPart) dNoPart := ⟨po_none, fun _ H _ _ ω _ _ _ _ s _ k h => k _ _ _ h s⟩
theorem yo_some {e : Expr} {t : TD} (hh : PD X K E e ht t) : POD X K E (some e) (tPart ht) (dPart t) := ⟨po_some hh.p, fun Φ H σ ρ ω T q Q x s hx k h => hh.r Φ H σ ρ ω T _ _ x s hx (fun s' ω' v H' h st => by
  split at h
  · obtain ⟨_, _, sb⟩ := st
    exact ⟨_, r_int (sb.tm _ (List.mem_cons_self)), k _ _ _ h (sb.st.sub fun p hp => List.mem_cons_of_mem _ hp)⟩
  · exact h.elim) h⟩
def slD (s : S) (lo hi : Option Int) (ω : Sto) (q : S → Sto → Prop) : Prop := match s with
  | .d (.tup ds) => q (.d (.tup (cutL ds lo hi))) ω
  | .d (.lst ds) => q (.d (.lst (cutL ds lo hi))) ω
  | .d (.str x) => x.length ≤ 1000000 ∧ q (.d (.str (cutS x lo hi))) ω
  | .pin j => match ω[j]? with
    | some (.lst ss) => match allD ss with
      | some ds => q (.d (.lst (cutL ds lo hi))) ω
      | none => False
    | _ => False
  | _ => False
def dSl (t : TD) (l h : TOD) : TD := fun ρ ω q x => t ρ ω (fun s ω1 => l ρ ω1 (fun lo ω2 => h ρ ω2 (fun hi ω3 => slD s lo hi ω3 q) x) x) x
def rSlY (K : PySem.W.Frag) : V → Option Int → Option Int → Hp → VK → Prop := fun x lo hi H Q => rSlA K x lo hi H Q ∨ rSlL K x lo hi H Q ∨ rSlS x lo hi H Q
theorem sl_Y : SlR X (rSlY X.K) := sl_tupA.or (sl_list.or sl_str)
theorem cut_whole {β : Type} {xs : List β} {lo hi : Option Int} (h : HT.sIx xs.length 0 lo = 0 ∧ HT.sIx xs.length xs.length hi = xs.length) : cutL xs lo hi = xs := by
  unfold cutL
  rw [h.1, h.2]
  simp
theorem sl_ok {v : V} {s : S} {lo hi : Option Int} {q : S → Sto → Prop} {Q : VK} (sb : StB Φ K B α H σ ρ ω T) (m : (v, s) ∈ T) (k : ∀ s ω' v H', q s ω' → St Φ K H' σ ρ ω' ((v, s) :: T) → Q v H') (h : slD s lo hi ω q) : rSlY K v lo hi H Q := by
  unfold slD at h
  split at h
  · rename_i ds
    obtain ⟨a, xs, rfl, ha, ra⟩ := r_tup (sb.tm _ m)
    refine .inl ⟨a, xs, rfl, SqT.of (sb.fr.bh _ _ ha), fun w => ?_, fun _ p hp => k _ _ _ _ h (sb.tup hp (ra.cut lo hi))⟩
    rw [ra.len] at w
    rw [cut_whole w] at h
    exact k _ _ _ _ h (sb.st.sub1 m)
  · rename_i ds
    obtain ⟨a, xs, rfl, ha, ra⟩ := r_lst (sb.tm _ m)
    exact .inr (.inl ⟨a, xs, rfl, SqL.of (sb.fr.bh _ _ ha), fun p hp => k _ _ _ _ h (sb.lstD hp (ra.cut lo hi))⟩)
  · exact .inr (.inr ⟨_, r_str (sb.tm _ m), lineB h.1, k _ _ _ _ h.2 (sb.st.push fun _ => .str _)⟩)
  · rename_i j
    split at h
    · rename_i ss ec
      cases e : allD ss with
      | none => simp only [e] at h
      | some ds =>
        simp only [e] at h
        obtain ⟨a, rfl, ha, _, xs, ex, rp⟩ := sb.cell m ec
        exact .inr (.inl ⟨a, xs, rfl, SqL.of ex, fun p hp => k _ _ _ _ h (sb.lstD hp ((rs_all rp e).cut lo hi))⟩)
    · exact h.elim
  · exact h.elim
theorem y_slice {e : Expr} {lo hi : Option Expr} {t : TD} {l u : TOD} {p2 pos : Pos} (h0 : PD X K E e ht t) (hl : POD X K E lo hlt l) (hh : POD X K E hi hht u) (hK : X.K = K := by rfl) : PD X K E (.Subscript e (.Slice lo hi none p2) pos) (tSl (rSlY K) ht hlt hht) (dSl t l u) := by
  subst hK
  refine ⟨pe_slice sl_Y h0.p hl.p hh.p, fun Φ H σ ρ ω T q Q x s hx k h => h0.r Φ H σ ρ ω T _ _ x s hx (fun s1 ω1 v1 H1 h st => hl.r Φ H1 σ ρ ω1 _ _ _ x st hx (fun lo ω2 H2 h st2 => hh.r Φ H2 σ ρ ω2 _ _ _ x st2 hx (fun hi ω3 H3 h st3 => ?_) h) h) h⟩
  obtain ⟨B, α, sb⟩ := st3
  exact sl_ok sb (List.mem_cons_self) (fun s' ω' v' H' hq hs => k s' ω' v' H' hq (hs.sub fun p hp => by
    rcases List.mem_cons.mp hp with rfl | hp
    · simp
    · simp [hp])) h
end
end Y

set_option Elab.async false
set_option linter.all false
set_option maxRecDepth 100000
set_option maxHeartbeats 2000000
namespace Y
open PySem PySem.Spec PyProof.Rows L2
section
variable {K : PySem.W.Frag} {X : Cx} {E : XK}
variable {Φ : Phi} {B : Hp} {α : List Addr} {H : Hp} {σ : L2.St} {ρ : Env} {ω : Sto} {T : List (V × S)}
/-! ### in -/
def flatD : D → Bool
  | .non => true
  | .bl _ => true
  | .int _ => true
  | .str _ => true
  | _ => false
def eqF : D → D → Bool
  | .non, .non => true
  | .bl a, .bl b => a == b
  | .bl a, .int b => (if a then 1 else 0) == b
  | .int a, .bl b => a == (if b then 1 else 0)
  | .int a, .int b => a == b
  | .str a, .str b => a == b
  | _, _ => false
theorem flat_V {v : V} {d : D} (r : R K B v d) (h : flatD d = true) : flatV v = true := by cases r <;> first | rfl | (simp [flatD] at h)
theorem eqF_V {v w : V} {a b : D} (r1 : R K B v a) (r2 : R K B w b) (h1 : flatD a = true) (h2 : flatD b = true) : eqV v w = eqF a b := by
  cases r1 <;> first | (simp [flatD] at h1; done) | skip
  all_goals (cases r2 <;> first | (simp [flatD] at h2; done) | rfl)
def memF (x : D) (ds : List D) : Bool := ds.any fun y => eqF y x
def memP (x : D) (ds : List D) : Bool := (toPs ds).any fun y => PyData.eqv y (toP x)
theorem memF_V {v : V} {x : D} (r : R K B v x) (h : flatD x = true) : ∀ {ds : List D} {vs : List V}, Rs K B vs ds → ds.all flatD = true → vs.all flatV = true ∧ inV v vs = memF x ds
  | [], _, .nil, _ => ⟨rfl, rfl⟩
  | d :: ds, _, .cons r1 t, hf => by
    rw [List.all_cons, Bool.and_eq_true] at hf
    obtain ⟨a, b⟩ := memF_V r h t hf.2
    unfold inV memF at b ⊢
    rw [List.all_cons, List.any_cons, List.any_cons, a, b, flat_V r1 hf.1, eqF_V r1 r hf.1 h]
    exact ⟨rfl, rfl⟩
def inStr (x y : Str) : Bool := !(Builtin.Str.occurrences y x 0 y.length 1).isEmpty
def inSq (neg : Bool) (x : D) (ds : List D) (ω : Sto) (q : S → Sto → Prop) : Prop :=
  ((flatD x = true ∧ ds.all flatD = true) ∧ q (.d (.bl (neg ^^ memF x ds))) ω) ∨ ((okD x ∧ okD (.tup ds)) ∧ q (.d (.bl (neg ^^ memP x ds))) ω)
def inD (neg : Bool) : FO := fun s1 s2 ω q => match s1, s2 with
  | .d x, .d (.tup ds) => inSq neg x ds ω q
  | .d x, .d (.ktup ds) => inSq neg x ds ω q
  | .d x, .d (.lst ds) => inSq neg x ds ω q
  | .d (.str x), .d (.str y) => q (.d (.bl (neg ^^ inStr x y))) ω
  | .d x, .pin j => match ω[j]? with
    | some (.lst ss) => match allD ss with
      | some ds => inSq neg x ds ω q
      | none => False
    | some c => match lookC c x with
      | some o => q (.d (.bl (neg ^^ o.isSome))) ω
      | none => False
    | none => False
  | _, _ => False
def rInDT (K : PySem.W.Frag) (neg : Bool) : R2 := fun x y H Q => ∃ d ds, Dp K H x d ∧ Dp K H y (.tuple ds) ∧ SeqAt.shaped d = true ∧ SeqAt.shaped (.tuple ds) = true ∧ Q (.bl (neg ^^ ds.any fun z => PyData.eqv z d)) H
def rInDL (K : PySem.W.Frag) (neg : Bool) : R2 := fun x y H Q => ∃ d ds, Dp K H x d ∧ Dp K H y (.list ds) ∧ SeqAt.shaped d = true ∧ SeqAt.shaped (.tuple ds) = true ∧ Q (.bl (neg ^^ ds.any fun z => PyData.eqv z d)) H
theorem shaped_lt {ds : List PyData} (h : SeqAt.shaped (.tuple ds) = true) : SeqAt.shaped (.list ds) = true := by
  unfold SeqAt.shaped at h ⊢
  simpa [PyData.canLay0, PyData.depth] using h
theorem room_inY {A : Around} {da : PyData} {xs : List PyData} (h : SeqAt.shaped da = true) (hu : A.units + 65 < cLine) : A.units + 1 + min (PyData.depthAll xs) da.depth < cLine := by
  have h1 := SeqAt.depth_of_shaped h
  have h2 : min (PyData.depthAll xs) da.depth ≤ da.depth := Nat.min_le_right _ _
  omega
theorem op_inDT (hu : X.A.units + 65 < cLine) : OpR X (compareOp .In) (rInDT X.K false) := by
  intro pins s σ H x y v u Q I rx ry h
  obtain ⟨d, ds, hd, he, sd, se, q⟩ := h
  obtain ⟨as, r1⟩ := Dp.reads I d x v hd rx
  obtain ⟨bs, r2⟩ := Dp.reads I (.tuple ds) y u he ry
  refine SeqAt.in_tuple_reads r2 r1 ?_ (SeqAt.canLay_of_shaped sd) (room_inY sd hu) ⟨.bl _, H, I, rfl, by simpa using q⟩
  simpa [PyData.canLay0] using SeqAt.canLay_of_shaped se
theorem op_notInDT (hu : X.A.units + 65 < cLine) : OpR X (compareOp .NotIn) (rInDT X.K true) := by
  intro pins s σ H x y v u Q I rx ry h
  obtain ⟨d, ds, hd, he, sd, se, q⟩ := h
  obtain ⟨as, r1⟩ := Dp.reads I d x v hd rx
  obtain ⟨bs, r2⟩ := Dp.reads I (.tuple ds) y u he ry
  refine SeqAt.notIn_tuple_reads r2 r1 ?_ (SeqAt.canLay_of_shaped sd) (room_inY sd hu) ⟨.bl _, H, I, rfl, by simpa using q⟩
  simpa [PyData.canLay0] using SeqAt.canLay_of_shaped se
theorem op_inDL (hu : X.A.units + 65 < cLine) : OpR X (compareOp .In) (rInDL X.K false) := by
  intro pins s σ H x y v u Q I rx ry h
  obtain ⟨d, ds, hd, he, sd, se, q⟩ := h
  exact op_inD hu pins s σ H x y v u Q I rx ry ⟨d, ds, hd, he, sd, shaped_lt se, by simpa using q⟩
theorem op_notInDL (hu : X.A.units + 65 < cLine) : OpR X (compareOp .NotIn) (rInDL X.K true) := by
  intro pins s σ H x y v u Q I rx ry h
  obtain ⟨d, ds, hd, he, sd, se, q⟩ := h
  exact op_notInD hu pins s σ H x y v u Q I rx ry ⟨d, ds, hd, he, sd, shaped_lt se, by simpa using q⟩
def rDIn (neg : Bool) : R2 := fun y x H Q => ∃ a o, x = .ref a ∧ DGet H a y o ∧ Q (.bl (neg ^^ o.isSome)) H
theorem op_dIn (hu : X.A.units + 65 < cLine) : OpR X (compareOp .In) (rDIn false) := by
  intro pins s σ H x y v u Q I rx ry h
  obtain ⟨a, o, rfl, g, q⟩ := h
  obtain rfl : u = Value.ref a := ry
  exact d_in (by omega) I g rx fun s3 I3 => ⟨.bl o.isSome, H, I3, rfl, by simpa using q⟩
theorem op_dNotIn (hu : X.A.units + 65 < cLine) : OpR X (compareOp .NotIn) (rDIn true) := by
  intro pins s σ H x y v u Q I rx ry h
  obtain ⟨a, o, rfl, g, q⟩ := h
  obtain rfl : u = Value.ref a := ry
  exact d_notIn (by omega) I g rx fun s3 I3 => ⟨.bl (!o.isSome), H, I3, rfl, by simpa using q⟩
def rInS (neg : Bool) : R2 := fun x y H Q => ∃ i j, x = .str i ∧ y = .str j ∧ Q (.bl (neg ^^ inStr i j)) H
theorem op_inSt : OpR X (compareOp .In) (rInS false) := by
  intro pins s σ H x y v u Q I rx ry h
  obtain ⟨i, j, e1, e2, q⟩ := h
  exact op_in_str pins s σ H x y v u Q I rx ry ⟨i, j, e1, e2, by simpa [inStr] using q⟩
theorem op_notInSt : OpR X (compareOp .NotIn) (rInS true) := by
  intro pins s σ H x y v u Q I rx ry h
  obtain ⟨i, j, e1, e2, q⟩ := h
  exact op_notIn_str pins s σ H x y v u Q I rx ry ⟨i, j, e1, e2, by simpa [inStr] using q⟩
def rInY (K : PySem.W.Frag) (neg : Bool) : R2 := fun x y H Q => rIn K neg x y H Q ∨ rInDT K neg x y H Q ∨ rInDL K neg x y H Q ∨ rDIn neg x y H Q ∨ rInS neg x y H Q
theorem op_inY (hu : X.A.units + 65 < cLine) : OpR X (compareOp .In) (rInY X.K false) := op_in_seq.or ((op_inDT hu).or ((op_inDL hu).or ((op_dIn hu).or op_inSt)))
theorem op_notInY (hu : X.A.units + 65 < cLine) : OpR X (compareOp .NotIn) (rInY X.K true) := op_notIn_seq.or ((op_notInDT hu).or ((op_notInDL hu).or ((op_dNotIn hu).or op_notInSt)))
theorem nx {neg b : Bool} : (if neg then !b else b) = (neg ^^ b) := by cases neg <;> simp
theorem refO_in {neg : Bool} : RefO K (rInY K neg) (inD neg) := fun Φ H σ ρ ω T v1 v2 s1 s2 q Q s m1 m2 k h => by
  unfold inD at h
  obtain ⟨B, α, sb⟩ := s
  have fin : ∀ {b : Bool}, q (.d (.bl b)) ω → Q (.bl b) H := fun hq => k _ _ _ _ hq (sb.st.push fun _ => .bl _)
  have sq : ∀ {a : Addr} {xs : List V} {x : D} {ds : List D}, R K B v1 x → v2 = .ref a → (SqL K H a xs ∨ SqT K H a xs) → Rs K B xs ds → inSq neg x ds ω q → rInY K neg v1 v2 H Q := fun {a xs x ds} r1 e hs rs hq => by
    subst e
    rcases hq with ⟨⟨f1, f2⟩, hq⟩ | ⟨⟨o1, o2⟩, hq⟩
    · obtain ⟨x1, x2⟩ := memF_V r1 f1 rs f2
      refine .inl ⟨a, xs, rfl, hs, flat_V r1 f1, x1, ?_⟩
      rw [nx, x2]
      exact fin hq
    · have hp : pureDs ds = true := by simpa [pureD] using o2.1
      have da := rs_dp (K := K) sb.fr.bh hp rs
      rcases hs with hs | hs
      · exact .inr (.inr (.inl ⟨_, _, r_dp sb.fr.bh o1.1 r1, .lst hs da, o1.2, by simpa [toP] using o2.2, fin hq⟩))
      · exact .inr (.inl ⟨_, _, r_dp sb.fr.bh o1.1 r1, .tup hs da, o1.2, by simpa [toP] using o2.2, fin hq⟩)
  split at h
  · obtain ⟨a, xs, e, ha, ra⟩ := r_tup (sb.tm _ m2)
    exact sq (sb.tm _ m1) e (.inr (SqT.of (sb.fr.bh _ _ ha))) ra h
  · obtain ⟨a, xs, e, ha, ra⟩ := r_ktup (sb.tm _ m2)
    exact sq (sb.tm _ m1) e (.inr (sameT sb.fr.bh ha)) ra h
  · obtain ⟨a, xs, e, ha, ra⟩ := r_lst (sb.tm _ m2)
    exact sq (sb.tm _ m1) e (.inl (SqL.of (sb.fr.bh _ _ ha))) ra h
  · exact .inr (.inr (.inr (.inr ⟨_, _, r_str (sb.tm _ m1), r_str (sb.tm _ m2), fin h⟩)))
  · rename_i x j
    cases ec : ω[j]? with
    | none => simp only [ec] at h
    | some c =>
      obtain ⟨a, e, ha, hc⟩ := sb.cell m2 ec
      have dict : ∀ {o : Option S}, lookC c x = some o → q (.d (.bl (neg ^^ o.isSome))) ω → rInY K neg v1 v2 H Q := fun {o} hl hq => by
        obtain ⟨u, g, hi, _⟩ := look_get sb.fr.bh hc (sb.tm _ m1) hl
        subst e
        refine .inr (.inr (.inr (.inl ⟨a, u, rfl, g, ?_⟩)))
        rw [hi]
        exact fin hq
      simp only [ec] at h
      cases c with
      | lst ss =>
        cases ed : allD ss with
        | none => simp only [ed] at h
        | some ds =>
          simp only [ed] at h
          obtain ⟨_, xs, ex, rp⟩ := hc
          exact sq (sb.tm _ m1) e (.inl (SqL.of ex)) (rs_all rp ed) h
      | dK kvs =>
        cases el : lookC (.dK kvs) x with
        | none => simp only [el] at h
        | some o => simp only [el] at h; exact dict el h
      | dT kvs =>
        cases el : lookC (.dT kvs) x with
        | none => simp only [el] at h
        | some o => simp only [el] at h; exact dict el h
      | dead => simp only [lookC] at h
      | ins C fs => simp only [lookC] at h
      | tape => simp only [lookC] at h
  · exact h.elim
/-! ### comparisons, as values and as tests -/
def asB (q : Bool → Sto → Prop) : S → Sto → Prop := fun s ω => match s with | .d (.bl b) => q b ω | _ => False
def dTest (t : TD) : TTD := fun ρ ω q x => t ρ ω (asB q) x
theorem asB_ok {q : Bool → Sto → Prop} {s : S} {ω : Sto} {v : V} (h : asB q s ω) (st : St Φ K H σ ρ ω ((v, s) :: T)) : ∃ b, v = .bl b ∧ q b ω ∧ St Φ K H σ ρ ω T := by
  unfold asB at h
  split at h
  · obtain ⟨_, _, sb⟩ := st
    exact ⟨_, r_bl (sb.tm _ List.mem_cons_self), h, sb.st.sub fun p hp => List.mem_cons_of_mem _ hp⟩
  · exact h.elim
theorem ref_test {te : TE} {t : TD} (r : Ref K E te t) : RefT K E (tTest te) (dTest t) := fun Φ H σ ρ ω T q Q x s hx k h => r Φ H σ ρ ω T _ _ x s hx (fun s' ω' v H' h st => by
  obtain ⟨b, rfl, hq, st'⟩ := asB_ok h st
  exact ⟨b, rfl, k _ _ _ hq st'⟩) h
section
variable {a b c : Expr} {t u w : TD} {pos : Pos}
theorem y_cmp {op : CmpOp} {r : R2} {f : FO} (ho : OpR X (compareOp op) r) (hf : RefO K r f) (h1 : PD X K E a h1t t) (h2 : PD X K E b h2t u) (hm : behindInMarks op b = false) : PD X K E (.Compare a [op] [b] pos) (tOp r h1t h2t) (dOp f t u) :=  ⟨pe_cmpR ho h1.p h2.p hm, ref_op hf h1.r h2.r⟩
theorem yt_cmp {op : CmpOp} {r : R2} {f : FO} (ho : OpR X (compareOp op) r) (hf : RefO K r f) (h1 : PD X K E a h1t t) (h2 : PD X K E b h2t u) (hm : behindInMarks op b = false) : PTD X K E (.Compare a [op] [b] pos) (tTest (tOp r h1t h2t)) (dTest (dOp f t u)) :=  ⟨pt_cmpR ho h1.p h2.p hm, ref_test (ref_op hf h1.r h2.r)⟩
theorem op_eqY (hu : X.A.units + 64 < cLine) : OpR X (compareOp .Eq) (rEqY X.K) := op_eq.or (op_eqD hu)
theorem op_neY (hu : X.A.units + 64 < cLine) : OpR X (compareOp .NotEq) (rNeY X.K) := op_ne.or (op_neD hu)
abbrev rOrd (gi : Int → Int → Bool) (gs : Str → Str → Bool) : R2 := fun x y H Q => rI0 (fun i j => .bl (gi i j)) x y H Q ∨ ∃ i j, x = .str i ∧ y = .str j ∧ Q (.bl (gs i j)) H
theorem op_ltY : OpR X (compareOp .Lt) (rOrd (fun i j => decide (i < j)) ltS) := op_lt.or op_lt_str
theorem op_leY : OpR X (compareOp .LtE) (rOrd (fun i j => decide (i ≤ j)) (fun x y => !ltS y x)) := op_le.or op_le_str
theorem op_gtY : OpR X (compareOp .Gt) (rOrd (fun i j => decide (j < i)) (fun x y => ltS y x)) := op_gt.or op_gt_str
theorem op_geY : OpR X (compareOp .GtE) (rOrd (fun i j => decide (j ≤ i)) (fun x y => !ltS x y)) := op_ge.or op_ge_str
end
end
end Y

set_option Elab.async false
set_option linter.all false
set_option maxRecDepth 100000
set_option maxHeartbeats 2000000
namespace Y
open PySem PySem.Spec PyProof.Rows L2
section
variable {K : PySem.W.Frag} {X : Cx} {E : XK}
variable {Φ : Phi} {B : Hp} {α : List Addr} {H : Hp} {σ : L2.St} {ρ : Env} {ω : Sto} {T : List (V × S)}
/-! ### and, or, not, if -/
def dAndT (t u : TTD) : TTD := fun ρ ω q x => t ρ ω (fun b ω1 => if b = true then u ρ ω1 q x else q false ω1) x
def dOrT (t u : TTD) : TTD := fun ρ ω q x => t ρ ω (fun b ω1 => if b = true then q true ω1 else u ρ ω1 q x) x
def dNotT (t : TTD) : TTD := fun ρ ω q x => t ρ ω (fun b ω1 => q (!b) ω1) x
def dAndV (t u : TD) : TD := fun ρ ω q x => t ρ ω (asB fun b ω1 => if b = true then u ρ ω1 q x else q (.d (.bl false)) ω1) x
def dOrV (t u : TD) : TD := fun ρ ω q x => t ρ ω (asB fun b ω1 => if b = true then q (.d (.bl true)) ω1 else u ρ ω1 q x) x
def dNotV (t : TD) : TD := fun ρ ω q x => t ρ ω (asB fun b ω1 => q (.d (.bl (!b))) ω1) x
def dIf (c : TTD) (t u : TD) : TD := fun ρ ω q x => c ρ ω (fun b ω1 => if b = true then t ρ ω1 q x else u ρ ω1 q x) x
theorem refT_and {a b : TT} {t u : TTD} (h1 : RefT K E a t) (h2 : RefT K E b u) : RefT K E (tAnd a b) (dAndT t u) := fun Φ H σ ρ ω T q Q x s hx k h => h1 Φ H σ ρ ω T _ _ x s hx (fun b ω1 H1 h s1 => by
  cases b with
  | true => rw [if_pos rfl] at h ⊢; exact h2 Φ H1 σ ρ ω1 T q Q x s1 hx k h
  | false => rw [if_neg Bool.false_ne_true] at h ⊢; exact k _ _ _ h s1) h
theorem refT_or {a b : TT} {t u : TTD} (h1 : RefT K E a t) (h2 : RefT K E b u) : RefT K E (tOr a b) (dOrT t u) := fun Φ H σ ρ ω T q Q x s hx k h => h1 Φ H σ ρ ω T _ _ x s hx (fun b ω1 H1 h s1 => by
  cases b with
  | true => rw [if_pos rfl] at h ⊢; exact k _ _ _ h s1
  | false => rw [if_neg Bool.false_ne_true] at h ⊢; exact h2 Φ H1 σ ρ ω1 T q Q x s1 hx k h) h
theorem refT_not {a : TT} {t : TTD} (h1 : RefT K E a t) : RefT K E (tNot a) (dNotT t) := fun Φ H σ ρ ω T q Q x s hx k h => h1 Φ H σ ρ ω T _ _ x s hx (fun b ω1 H1 h s1 => k _ _ _ h s1) h
theorem ref_and {a b : TE} {t u : TD} (h1 : Ref K E a t) (h2 : Ref K E b u) : Ref K E (tAndV a b) (dAndV t u) := fun Φ H σ ρ ω T q Q x s hx k h => h1 Φ H σ ρ ω T _ _ x s hx (fun s1 ω1 v H1 h st => by
  obtain ⟨b, rfl, h, st'⟩ := asB_ok h st
  refine ⟨b, rfl, ?_⟩
  cases b with
  | true => rw [if_pos rfl] at h ⊢; exact h2 Φ H1 σ ρ ω1 T q Q x st' hx k h
  | false => rw [if_neg Bool.false_ne_true] at h ⊢; exact k _ _ _ _ h (st'.push fun _ => .bl _)) h
theorem ref_or {a b : TE} {t u : TD} (h1 : Ref K E a t) (h2 : Ref K E b u) : Ref K E (tOrV a b) (dOrV t u) := fun Φ H σ ρ ω T q Q x s hx k h => h1 Φ H σ ρ ω T _ _ x s hx (fun s1 ω1 v H1 h st => by
  obtain ⟨b, rfl, h, st'⟩ := asB_ok h st
  refine ⟨b, rfl, ?_⟩
  cases b with
  | true => rw [if_pos rfl] at h ⊢; exact k _ _ _ _ h (st'.push fun _ => .bl _)
  | false => rw [if_neg Bool.false_ne_true] at h ⊢; exact h2 Φ H1 σ ρ ω1 T q Q x st' hx k h) h
theorem ref_not {a : TE} {t : TD} (h1 : Ref K E a t) : Ref K E (tNotV a) (dNotV t) := fun Φ H σ ρ ω T q Q x s hx k h => h1 Φ H σ ρ ω T _ _ x s hx (fun s1 ω1 v H1 h st => by
  obtain ⟨b, rfl, h, st'⟩ := asB_ok h st
  exact ⟨b, rfl, k _ _ _ _ h (st'.push fun _ => .bl _)⟩) h
theorem ref_if {c : TT} {a b : TE} {d : TTD} {t u : TD} (h0 : RefT K E c d) (h1 : Ref K E a t) (h2 : Ref K E b u) : Ref K E (tIf c a b) (dIf d t u) := fun Φ H σ ρ ω T q Q x s hx k h => h0 Φ H σ ρ ω T _ _ x s hx (fun b ω1 H1 h s1 => by
  cases b with
  | true => rw [if_pos rfl] at h ⊢; exact h1 Φ H1 σ ρ ω1 T q Q x s1 hx k h
  | false => rw [if_neg Bool.false_ne_true] at h ⊢; exact h2 Φ H1 σ ρ ω1 T q Q x s1 hx k h) h
section
variable {a b c : Expr} {rest : List Expr} {t u : TTD} {v w : TD} {pos : Pos}
theorem yw_and1 (h : PTD X K E a ht t) : PWD X K E (.BoolOp .And [a] pos) (ht) t := ⟨pw_and1 h.p, h.r⟩
theorem yw_or1 (h : PTD X K E a ht t) : PWD X K E (.BoolOp .Or [a] pos) (ht) t := ⟨pw_or1 h.p, h.r⟩
theorem yw_and (h1 : PTD X K E a h1t t) (h2 : PWD X K E (.BoolOp .And (b :: rest) pos) h2t u) : PWD X K E (.BoolOp .And (a :: b :: rest) pos) (tAnd h1t h2t) (dAndT t u) := ⟨pw_and h1.p h2.p, refT_and h1.r h2.r⟩
theorem yw_or (h1 : PTD X K E a h1t t) (h2 : PWD X K E (.BoolOp .Or (b :: rest) pos) h2t u) : PWD X K E (.BoolOp .Or (a :: b :: rest) pos) (tOr h1t h2t) (dOrT t u) := ⟨pw_or h1.p h2.p, refT_or h1.r h2.r⟩
theorem yt_w (h : PWD X K E a ht t) : PTD X K E a (ht) t := ⟨h.p.pt, h.r⟩
theorem yt_not (h : PTD X K E a ht t) : PTD X K E (.UnaryOp .Not a pos) (tNot ht) (dNotT t) := ⟨pt_not h.p, refT_not h.r⟩
theorem y_one {op} (h : PD X K E a ht v) : PD X K E (.BoolOp op [a] pos) (ht) v := ⟨pe_one h.p, h.r⟩
theorem y_and (h1 : PD X K E a h1t v) (h2 : PD X K E (.BoolOp .And (b :: rest) pos) h2t w) : PD X K E (.BoolOp .And (a :: b :: rest) pos) (tAndV h1t h2t) (dAndV v w) := ⟨pe_and h1.p h2.p, ref_and h1.r h2.r⟩
theorem y_or (h1 : PD X K E a h1t v) (h2 : PD X K E (.BoolOp .Or (b :: rest) pos) h2t w) : PD X K E (.BoolOp .Or (a :: b :: rest) pos) (tOrV h1t h2t) (dOrV v w) := ⟨pe_or h1.p h2.p, ref_or h1.r h2.r⟩
theorem y_not (h : PD X K E a ht v) : PD X K E (.UnaryOp .Not a pos) (tNotV ht) (dNotV v) := ⟨pe_not h.p, ref_not h.r⟩
theorem y_if (h0 : PTD X K E c h0t t) (h1 : PD X K E a h1t v) (h2 : PD X K E b h2t w) : PD X K E (.IfExp c a b pos) (tIf h0t h1t h2t) (dIf t v w) := ⟨pe_ifExp h0.p h1.p h2.p, ref_if h0.r h1.r h2.r⟩
theorem yt_val (h : PD X K E a ht v) (he : ∀ whole, isTrue a X.env whole = (do let v ← whole; standAt a.pos; holding [v] (truthy v)) := by intro _; rfl) : PTD X K E a (tTest ht) (dTest v) := ⟨pt_val h.p he, ref_test h.r⟩
end
/-- a value's truth -/
def truD (s : S) (ω : Sto) (q : Bool → Sto → Prop) : Prop := match s with
  | .d .non => q false ω
  | .d (.bl b) => q b ω
  | .d (.int i) => q (i != 0) ω
  | .d (.str y) => y.length ≤ 1000000 ∧ q ((y.length : Int) != 0) ω
  | .d (.tup ds) => q (!ds.isEmpty) ω
  | .d (.ktup ds) => q (!ds.isEmpty) ω
  | .d (.lst ds) => q (!ds.isEmpty) ω
  | .pin j => match ω[j]? with
    | some (.lst ss) => q (!ss.isEmpty) ω
    | some (.dK kvs) => q (!kvs.isEmpty) ω
    | _ => False
  | _ => False
def dTru (t : TD) : TTD := fun ρ ω q x => t ρ ω (fun s ω' => truD s ω' q) x
theorem paired_empty {α β : Type} {F : α → β → Prop} {l : List α} {m : List β} (h : Paired F l m) : l.isEmpty = m.isEmpty := by cases h <;> rfl
theorem tru_ok2 {v : V} {s : S} {q : Bool → Sto → Prop} {Q : Bool → Hp → Prop} (sb : StB Φ K B α H σ ρ ω T) (m : (v, s) ∈ T) (k : ∀ b, q b ω → Q b H) (h : truD s ω q) : ∃ b, TruV K v H b ∧ Q b H := by
  unfold truD at h
  split at h
  · obtain rfl : v = .non := r_non (sb.tm _ m)
    exact ⟨_, rfl, k _ h⟩
  · obtain rfl : v = .bl _ := r_bl (sb.tm _ m)
    exact ⟨_, rfl, k _ h⟩
  · obtain rfl : v = .int _ := r_int (sb.tm _ m)
    exact ⟨_, rfl, k _ h⟩
  · obtain rfl : v = .str _ := r_str (sb.tm _ m)
    exact ⟨_, ⟨lineB h.1, rfl⟩, k _ h.2⟩
  · obtain ⟨a, xs, rfl, ha, ra⟩ := r_tup (sb.tm _ m)
    exact ⟨_, .inr (.inl ⟨xs, SqT.of (sb.fr.bh _ _ ha), by rw [paired_empty ra.paired]⟩), k _ h⟩
  · obtain ⟨a, xs, rfl, ha, ra⟩ := r_ktup (sb.tm _ m)
    exact ⟨_, .inr (.inl ⟨xs, sameT sb.fr.bh ha, by rw [paired_empty ra.paired]⟩), k _ h⟩
  · obtain ⟨a, xs, rfl, ha, ra⟩ := r_lst (sb.tm _ m)
    exact ⟨_, .inl ⟨xs, SqL.of (sb.fr.bh _ _ ha), by rw [paired_empty ra.paired]⟩, k _ h⟩
  · split at h
    · rename_i e
      obtain ⟨a, rfl, ha, _, xs, ex, rp⟩ := sb.cell m e
      exact ⟨_, .inl ⟨xs, SqL.of ex, by rw [paired_empty rp]⟩, k _ h⟩
    · rename_i e
      obtain ⟨a, rfl, ha, _, ys, ey, rk⟩ := sb.cell m e
      exact ⟨_, .inr (.inr ⟨ys, ey, by rw [paired_empty rk]⟩), k _ h⟩
    · exact h.elim
  · exact h.elim
def tTruY (K : PySem.W.Frag) (te : TE) : TT := fun σ H Q => te σ H fun x H1 => ∃ k, TruV K x H1 k ∧ Q k H1
theorem yt_tru {e : Expr} {t : TD} (h0 : PD X K E e ht t) (he : ∀ whole, isTrue e X.env whole = (do let v ← whole; standAt e.pos; holding [v] (truthy v)) := by intro _; rfl) (hK : X.K = K := by rfl) : PTD X K E e (tTruY K ht) (dTru t) := by
  subst hK
  exact ⟨pt_truth h0.p he, fun Φ H σ ρ ω T q Q x s hx k h => h0.r Φ H σ ρ ω T _ _ x s hx (fun s1 ω1 v H1 h st => by
  obtain ⟨B, α, sb⟩ := st
  exact tru_ok2 sb List.mem_cons_self (fun b hb => k _ _ _ hb (sb.st.sub fun p hp => List.mem_cons_of_mem _ hp)) h) h⟩
/-! ### a op b op c -/
def dChain (f g : FO) (t u w : TD) : TD := fun ρ ω q x => t ρ ω (fun s1 ω1 => u ρ ω1 (fun s2 ω2 => f s1 s2 ω2 (asB fun b ω3 => if b = true then w ρ ω3 (fun s3 ω4 => g s2 s3 ω4 q) x else q (.d (.bl false)) ω3)) x) x
theorem ref_chain {r r' : R2} {f g : FO} {ta tb tc : TE} {t u w : TD} (hf : RefO K r f) (hg : RefO K r' g) (h1 : Ref K E ta t) (h2 : Ref K E tb u) (h3 : Ref K E tc w) : Ref K E (tChain r r' ta tb tc) (dChain f g t u w) := fun Φ H σ ρ ω T q Q x s hx k h =>
  h1 Φ H σ ρ ω T _ _ x s hx (fun s1 ω1 v1 H1 h st1 => h2 Φ H1 σ ρ ω1 _ _ _ x st1 hx (fun s2 ω2 v2 H2 h st2 => hf Φ H2 σ ρ ω2 _ v1 v2 s1 s2 _ _ st2 (by simp) (by simp) (fun s3 ω3 v3 H3 h st3 => by
    obtain ⟨b, rfl, h, st3'⟩ := asB_ok h st3
    refine ⟨b, rfl, ?_⟩
    have fin : ∀ {y : V × S} {ω' : Sto} {H' : Hp} {U : List (V × S)}, St Φ K H' σ ρ ω' (y :: (U ++ ((v2, s2) :: (v1, s1) :: T))) → St Φ K H' σ ρ ω' (y :: T) := fun st => st.sub fun p hp => by
      rcases List.mem_cons.mp hp with rfl | hp
      · simp
      · simp [hp]
    cases b with
    | true =>
      rw [if_pos rfl] at h ⊢
      exact h3 Φ H3 σ ρ ω3 _ _ _ x st3' hx (fun s4 ω4 v4 H4 h st4 => hg Φ H4 σ ρ ω4 _ v2 v4 s2 s4 q Q st4 (by simp) (by simp) (fun s5 ω5 v5 H5 h st5 => k _ _ _ _ h (fin (U := [(v4, s4)]) st5)) h) h
    | false =>
      rw [if_neg Bool.false_ne_true] at h ⊢
      exact k _ _ _ _ h (fin (U := []) (st3'.push fun _ => .bl _))) h) h) h
theorem y_chain {a b c : Expr} {t u w : TD} {op op' : CmpOp} {r r' : R2} {f g : FO} {pos : Pos} (ho : OpR X (compareOp op) r) (ho' : OpR X (compareOp op') r') (hf : RefO K r f) (hg : RefO K r' g) (h1 : PD X K E a h1t t) (h2 : PD X K E b h2t u) (h3 : PD X K E c h3t w)
    (hm : lastMarks [op, op'] [b, c] = false := by with_unfolding_all rfl) : PD X K E (.Compare a [op, op'] [b, c] pos) (tChain r r' h1t h2t h3t) (dChain f g t u w) :=  ⟨pe_chain ho ho' h1.p h2.p h3.p hm, ref_chain hf hg h1.r h2.r h3.r⟩
theorem yt_chain {a b c : Expr} {t u w : TD} {op op' : CmpOp} {r r' : R2} {f g : FO} {pos : Pos} (ho : OpR X (compareOp op) r) (ho' : OpR X (compareOp op') r') (hf : RefO K r f) (hg : RefO K r' g) (h1 : PD X K E a h1t t) (h2 : PD X K E b h2t u) (h3 : PD X K E c h3t w)
    (hm : lastMarks [op, op'] [b, c] = false := by with_unfolding_all rfl) : PTD X K E (.Compare a [op, op'] [b, c] pos) (tTest (tChain r r' h1t h2t h3t)) (dTest (dChain f g t u w)) :=  ⟨pt_chain ho ho' h1.p h2.p h3.p hm, ref_test (ref_chain hf hg h1.r h2.r h3.r)⟩
/-! ### statements -/
structure EndsD where
  nx : Env → Sto → Prop
  rt : S → Sto → Prop
  bk : Env → Sto → Prop
  ct : Env → Sto → Prop
  x : XD
abbrev TSD := EndsD → Env → Sto → Prop
structure Links (Φ : Phi) (K : PySem.W.Frag) (T : List (V × S)) (E : XK) (En : Ends) (ed : EndsD) : Prop where
  nx : ∀ σ H ρ ω, ed.nx ρ ω → St Φ K H σ ρ ω T → En.nx σ H
  bk : ∀ σ H ρ ω, ed.bk ρ ω → St Φ K H σ ρ ω T → En.bk σ H
  ct : ∀ σ H ρ ω, ed.ct ρ ω → St Φ K H σ ρ ω T → En.ct σ H
  rt : ∀ v σ H ρ s ω, ed.rt s ω → St Φ K H σ ρ ω ((v, s) :: T) → En.rt v H
  x : XOk Φ K ed.x E
def RefS (K : PySem.W.Frag) (E : XK) (ts : TS) (t : TSD) : Prop := ∀ (Φ : Phi) (H : Hp) (σ : L2.St) (ρ : Env) (ω : Sto) (T : List (V × S)) (En : Ends) (ed : EndsD), St Φ K H σ ρ ω T → Links Φ K T E En ed → t ed ρ ω → ts En σ H
structure PSD (X : Cx) (K : PySem.W.Frag) (E : XK) (st : Stmt) (te : TS) (t : TSD) : Prop where
  p : PS X st te
  r : RefS K E te t
structure PSsD (X : Cx) (K : PySem.W.Frag) (E : XK) (st : List Stmt) (te : TS) (t : TSD) : Prop where
  p : PSs X st te
  r : RefS K E te t
def dNext : TSD := fun ed ρ ω => ed.nx ρ ω
def dSeq (t u : TSD) : TSD := fun ed ρ ω => t { ed with nx := u ed } ρ ω
def dRet (t : TD) : TSD := fun ed ρ ω => t ρ ω ed.rt ed.x
def dRetN : TSD := fun ed _ ω => ed.rt (.d .non) ω
def dIfS (c : TTD) (t u : TSD) : TSD := fun ed ρ ω => c ρ ω (fun b ω1 => if b = true then t ed ρ ω1 else u ed ρ ω1) ed.x
def dDrop (t : TD) : TSD := fun ed ρ ω => t ρ ω (fun _ ω' => ed.nx ρ ω') ed.x
def dSet (i : Nat) (t : TD) : TSD := fun ed ρ ω => t ρ ω (fun s ω' => ed.nx (ρ.set i (some s)) ω') ed.x
def dBreak : TSD := fun ed ρ ω => ed.bk ρ ω
def dCont : TSD := fun ed ρ ω => ed.ct ρ ω
def dNever : TSD := fun _ _ _ => False
section
variable {st : Stmt} {rest : List Stmt} {t u : TSD} {e : Expr} {v : TD} {pos : Pos}
theorem ys_nil : PSsD X K E [] (tNext) dNext := ⟨pss_nil, fun Φ H σ ρ ω T En ed s l h => l.nx _ _ _ _ h s⟩
theorem ys_cons (h1 : PSD X K E st h1t t) (h2 : PSsD X K E rest h2t u) : PSsD X K E (st :: rest) (tSeq h1t h2t) (dSeq t u) := ⟨pss_cons h1.p h2.p, fun Φ H σ ρ ω T En ed s l h => h1.r Φ H σ ρ ω T _ { ed with nx := u ed } s ⟨fun σ' H' ρ' ω' h s' => h2.r Φ H' σ' ρ' ω' T En ed s' l h, l.bk, l.ct, l.rt, l.x⟩ h⟩
theorem ys_one (h1 : PSD X K E st h1t t) : PSsD X K E [st] (h1t) t := ⟨pss_one h1.p, h1.r⟩
theorem ys_never {sts : List Stmt} : PSsD X K E sts (tNever) dNever := ⟨pss_never, fun _ _ _ _ _ _ _ _ _ _ h => h.elim⟩
theorem y_never : PSD X K E st (tNever) dNever := ⟨ps_never, fun _ _ _ _ _ _ _ _ _ _ h => h.elim⟩
theorem y_pass : PSD X K E (.Pass pos) (tNext) dNext := ⟨ps_pass, fun Φ H σ ρ ω T En ed s l h => l.nx _ _ _ _ h s⟩
theorem y_break : PSD X K E (.Break pos) (tBreak) dBreak := ⟨ps_break, fun Φ H σ ρ ω T En ed s l h => l.bk _ _ _ _ h s⟩
theorem y_continue : PSD X K E (.Continue pos) (tCont) dCont := ⟨ps_continue, fun Φ H σ ρ ω T En ed s l h => l.ct _ _ _ _ h s⟩
theorem y_ret (h0 : PD X K E e ht v) : PSD X K E (.Return (some e) pos) (tRet ht) (dRet v) := ⟨ps_ret h0.p, fun Φ H σ ρ ω T En ed s l h => h0.r Φ H σ ρ ω T _ _ _ s l.x (fun s' ω' w H' h st => l.rt _ _ _ _ _ _ h st) h⟩
theorem y_retN : PSD X K E (.Return none pos) (tRetN) dRetN := ⟨ps_retN, fun Φ H σ ρ ω T En ed s l h => l.rt _ _ _ _ _ _ h (s.push fun _ => .non)⟩
theorem y_ifS {c : Expr} {a b : List Stmt} {d : TTD} (hc : PTD X K E c hct d) (h1 : PSsD X K E a h1t t) (h2 : PSsD X K E b h2t u) : PSD X K E (.If c a b pos) (tIfS hct h1t h2t) (dIfS d t u) := ⟨ps_if hc.p h1.p h2.p, fun Φ H σ ρ ω T En ed s l h => hc.r Φ H σ ρ ω T _ _ _ s l.x (fun b ω1 H1 h s1 => by
  cases b with
  | true => rw [if_pos rfl] at h ⊢; exact h1.r Φ H1 σ ρ ω1 T En ed s1 l h
  | false => rw [if_neg Bool.false_ne_true] at h ⊢; exact h2.r Φ H1 σ ρ ω1 T En ed s1 l h) h⟩
theorem y_expr (h0 : PD X K E e ht v) (hs : swapsWith e none pos.line X.env = pure false := by rfl) : PSD X K E (.Expr e pos) (tDrop ht) (dDrop v) := ⟨ps_expr h0.p hs, fun Φ H σ ρ ω T En ed s l h => h0.r Φ H σ ρ ω T _ _ _ s l.x (fun s' ω' w H' h st => l.nx _ _ _ _ h (st.sub fun p hp => List.mem_cons_of_mem _ hp)) h⟩
theorem y_doc {x j pos pos'} : PSD X K E (.Expr (.Constant (.str x) j pos) pos') (tNext) dNext := ⟨ps_doc, fun Φ H σ ρ ω T En ed s l h => l.nx _ _ _ _ h s⟩
theorem StB.store (s : StB Φ K B α H σ ρ ω T) {v : V} {y : S} (r : RS K α B v y) (i : Nat) : StB Φ K B α H (σ.set i (some v)) (ρ.set i (some y)) ω T := ⟨s.fr, s.wd, by
  refine ⟨by rw [List.length_set, List.length_set]; exact s.sl.1, fun j z hz => ?_⟩
  rw [List.getElem?_set] at hz
  split at hz
  · rename_i e
    subst e
    split at hz
    · rename_i hl
      cases hz
      exact ⟨v, by rw [List.getElem?_set_self (by rw [s.sl.1]; exact hl)], r⟩
    · cases hz
  · rename_i e
    obtain ⟨w, e1, r1⟩ := s.sl.2 j z hz
    exact ⟨w, by rw [List.getElem?_set_ne e]; exact e1, r1⟩, s.tm⟩
theorem St.store {v : V} {y : S} (s : St Φ K H σ ρ ω ((v, y) :: T)) (i : Nat) : St Φ K H (σ.set i (some v)) (ρ.set i (some y)) ω T := let ⟨B, α, x⟩ := s; ⟨B, α, (x.store (x.tm (v, y) List.mem_cons_self) i).sub fun p hp => List.mem_cons_of_mem _ hp⟩
theorem y_set {i : Nat} {x : Str} {pos' : Pos} (hN : X.N.Nodup) (hi : X.N[i]? = some x) (h0 : PD X K E e ht v) (hx : Loc X.env.scope x := by first | exact Or.inl rfl | exact Or.inr rfl) (hs : swapsWith e (some (.Name x pos')) pos.line X.env = pure false := by rfl)
    (hf : X.fn x = true ∨ X.env.scope.names.lookup x = some .local := by first | exact .inl rfl | exact .inr rfl | assumption) : PSD X K E (.Assign [.Name x pos'] e pos) (tAsg ht (gName i)) (dSet i v) :=
  ⟨ps_set hN hi hx h0.p hs hf, fun Φ H σ ρ ω T En ed s l h => h0.r Φ H σ ρ ω T _ _ _ s l.x (fun s' ω' w H' h st => l.nx _ _ _ _ h (st.store i)) h⟩
end
end
end Y

set_option Elab.async false
set_option linter.all false
set_option maxRecDepth 100000
set_option maxHeartbeats 2000000
namespace Y
open PySem PySem.Spec PyProof.Rows L2
section
variable {K : PySem.W.Frag} {X : Cx} {E : XK}
variable {Φ : Phi} {B : Hp} {α : List Addr} {H : Hp} {σ : L2.St} {ρ : Env} {ω : Sto} {T : List (V × S)}
/-! ### targets -/
abbrev TGD := S → Env → Sto → (Env → Sto → Prop) → Prop
abbrev TGsD := List D → Env → Sto → (Env → Sto → Prop) → Prop
def RefG (K : PySem.W.Frag) (g : TG) (gd : TGD) : Prop := ∀ (Φ : Phi) (H : Hp) (σ : L2.St) (ρ : Env) (ω : Sto) (T : List (V × S)) (v : V) (s : S) (q : Env → Sto → Prop) (Q : L2.St → Hp → Prop), St Φ K H σ ρ ω T → (v, s) ∈ T →
  (∀ σ' H' ρ' ω', q ρ' ω' → St Φ K H' σ' ρ' ω' T → Q σ' H') → gd s ρ ω q → g v σ H Q
def RefGs (K : PySem.W.Frag) (g : TGs) (gd : TGsD) : Prop := ∀ (Φ : Phi) (B : Hp) (α : List Addr) (H : Hp) (σ : L2.St) (ρ : Env) (ω : Sto) (T : List (V × S)) (vs : List V) (ds : List D) (q : Env → Sto → Prop) (Q : L2.St → Hp → Prop), StB Φ K B α H σ ρ ω T → Rs K B vs ds →
  (∀ σ' H' ρ' ω', q ρ' ω' → St Φ K H' σ' ρ' ω' T → Q σ' H') → gd ds ρ ω q → g vs σ H Q
structure PGD (X : Cx) (K : PySem.W.Frag) (e : Expr) (g : TG) (gd : TGD) : Prop where
  p : PG X e g
  r : RefG K g gd
structure PGsD (X : Cx) (K : PySem.W.Frag) (es : List Expr) (g : TGs) (gd : TGsD) : Prop where
  p : PGs X es g
  r : RefGs K g gd
def dgName (i : Nat) : TGD := fun s ρ ω q => q (ρ.set i (some s)) ω
def dgNil : TGsD := fun ds ρ ω q => ds = [] ∧ q ρ ω
def dgCons (g : TGD) (u : TGsD) : TGsD := fun ds ρ ω q => match ds with | d :: r => g (.d d) ρ ω (fun ρ1 ω1 => u r ρ1 ω1 q) | [] => False
def dgTup (n : Nat) (u : TGsD) : TGD := fun s ρ ω q => match s with | .d (.tup ds) => ds.length = n ∧ u ds ρ ω q | _ => False
theorem yg_name {i : Nat} {x : Str} {pos : Pos} (hN : X.N.Nodup) (hi : X.N[i]? = some x) (hx : Loc X.env.scope x := by first | exact Or.inl rfl | exact Or.inr rfl) (hf : X.fn x = true ∨ X.env.scope.names.lookup x = some .local := by first | exact .inl rfl | exact .inr rfl | assumption) : PGD X K (.Name x pos) (gName i) (dgName i) :=
  ⟨pg_name hN hi hx hf, fun Φ H σ ρ ω T v s q Q st m k h => k _ _ _ _ h ((st.sub1 m).store i)⟩
theorem ygs_nil : PGsD X K [] gNil dgNil := ⟨pgs_nil, fun Φ B α H σ ρ ω T vs ds q Q st r k h => by
  obtain ⟨rfl, h⟩ := h
  cases r
  exact ⟨rfl, k _ _ _ _ h st.st⟩⟩
/-- a name ahead of others -/
theorem ygs_cons {e : Expr} {es : List Expr} {i : Nat} {u : TGsD} {g2 : TGs} (h1 : PGD X K e (gName i) (dgName i)) (h2 : PGsD X K es g2 u) (hs : (assignEach (e :: es) X.env).map (·.2) = assign e X.env :: (assignEach es X.env).map (·.2) := by rfl) : PGsD X K (e :: es) (gCons (gName i) g2) (dgCons (dgName i) u) :=
  ⟨pgs_cons h1.p h2.p hs, fun Φ B α H σ ρ ω T vs ds q Q st r k h => by
    cases r with
    | nil => exact h.elim
    | cons r t => exact ⟨_, _, rfl, h2.r Φ B α H _ _ ω T _ _ q Q (st.store (y := .d _) r i) t k h⟩⟩
theorem yg_tup {es : List Expr} {kk : Nat} {t : TGs} {u : TGsD} {n : Nat} {pos : Pos} (hc : X.calm = true) (h0 : PGsD X K es t u) (hn : (assignEach es X.env).length = n := by rfl) (hst : (assignEach es X.env).findIdx? (·.1) = none := by rfl) (hK : X.K = K := by rfl) : PGD X K (.Tuple es kk pos) (gTup K n t) (dgTup n u) := by
  subst hK
  refine ⟨pg_tup hc h0.p hn hst, fun Φ H σ ρ ω T v s q Q st m k h => ?_⟩
  unfold dgTup at h
  split at h
  · obtain ⟨B, α, sb⟩ := st
    obtain ⟨a, xs, rfl, ha, ra⟩ := r_tup (sb.tm _ m)
    exact ⟨a, xs, rfl, SqT.of (sb.fr.bh _ _ ha), ra.len.trans h.1, h0.r Φ B α H σ ρ ω T _ _ q Q sb ra k h.2⟩
  · exact h.elim
theorem y_asg {tg e : Expr} {g : TG} {gd : TGD} {v : TD} {pos : Pos} (h0 : PD X K E e ht v) (hg : PGD X K tg g gd) (hs : swapsWithSole [tg] e pos.line X.env = pure false := by rfl) (hw : swappedStores [tg] e X.env = pure none := by rfl)
    (h1 : (assignEach [tg] X.env).map (·.2) = [assign tg X.env] := by rfl) : PSD X K E (.Assign [tg] e pos) (tAsg ht g) (fun ed ρ ω => v ρ ω (fun s ω' => gd s ρ ω' ed.nx) ed.x) :=
  ⟨ps_asg h0.p hg.p hs hw h1, fun Φ H σ ρ ω T En ed s l h => h0.r Φ H σ ρ ω T _ _ _ s l.x (fun s' ω' w H' h st => hg.r Φ H' σ ρ ω' _ w s' _ _ st List.mem_cons_self (fun σ2 H2 ρ2 ω2 h st2 => l.nx _ _ _ _ h (st2.sub fun p hp => List.mem_cons_of_mem _ hp)) h) h⟩
/-! ### what is walked -/
def ItD (K : PySem.W.Frag) (J : It) (T0 : List (V × S)) (P : Sto → Prop) (is : List S) : Prop := ∃ (G : Hp → Prop) (Yd : Nat → Hp → V → Hp → Prop), Walk J is.length G Yd ∧ ∀ (Φ : Phi) (H : Hp) (σ : L2.St) (ρ : Env) (ω : Sto) (T : List (V × S)), St Φ K H σ ρ ω T → (∀ p ∈ T0, p ∈ T) → P ω →
  G H ∧ ∀ i x H', i < is.length → Yd i H x H' → ∃ s, is[i]? = some s ∧ St Φ K H' σ ρ ω ((x, s) :: T)
abbrev TID := Env → Sto → (List S → (Sto → Prop) → Sto → Prop) → XD → Prop
def RefI (K : PySem.W.Frag) (E : XK) (wi : TI) (t : TID) : Prop := ∀ (Φ : Phi) (H : Hp) (σ : L2.St) (ρ : Env) (ω : Sto) (T : List (V × S)) (q : List S → (Sto → Prop) → Sto → Prop) (Rr : It → Hp → Prop) (x : XD), St Φ K H σ ρ ω T → XOk Φ K x E →
  (∀ is P ω' J H' T0, q is P ω' → St Φ K H' σ ρ ω' (T0 ++ T) → ItD K J T0 P is → Rr J H') → t ρ ω q x → wi σ H Rr
structure PID (X : Cx) (K : PySem.W.Frag) (E : XK) (tg iter : Expr) (wi : TI) (t : TID) : Prop where
  p : PI X tg iter wi
  r : RefI K E wi t
def strS (z : Str) : List S := z.cps.toList.map fun c => .d (.str ⟨#[c]⟩)
/-- a list, a tuple, a text, as it stands -/
def seqD (s : S) (ω : Sto) (q : List S → (Sto → Prop) → Sto → Prop) : Prop := match s with
  | .d (.tup ds) => q (ds.map .d) (fun _ => True) ω
  | .d (.ktup ds) => q (ds.map .d) (fun _ => True) ω
  | .d (.lst ds) => q (ds.map .d) (fun _ => True) ω
  | .d (.klst ds) => q (ds.map .d) (fun _ => True) ω
  | .d (.str z) => q (strS z) (fun _ => True) ω
  | .pin j => match ω[j]? with
    | some (.lst ss) => q ss (fun ω' => ω'[j]? = some (.lst ss)) ω
    | _ => False
  | _ => False
def dSeqI (t : TD) : TID := fun ρ ω q x => t ρ ω (fun s ω' => seqD s ω' q) x
def iSeq (K : PySem.W.Frag) (tl : TE) : TI := fun σ H Rr => tl σ H fun x H1 => (∃ a, x = .ref a ∧ (∃ xs, SqL K H1 a xs) ∧ Rr (Itl K a) H1) ∨ (∃ a, x = .ref a ∧ (∃ xs, SqT K H1 a xs) ∧ Rr (Itt K a) H1) ∨ ∃ z, x = .str z ∧ Rr (Its z) H1
theorem pi_seq {tg l : Expr} {tl : TE} (hl : PE X l tl) : PI X tg l (iSeq X.K tl) := by
  refine ⟨fun pins s σ H Rr I h => ?_⟩
  refine thn (hl.run pins s σ H _ I h) fun v s1 ⟨x, H1, I1, r1, q1⟩ => ?_
  rcases q1 with ⟨a, e, ⟨xs, hq⟩, q⟩ | ⟨a, e, ⟨xs, hq⟩, q⟩ | ⟨z, e, q⟩
  · subst e
    cases r1
    obtain ⟨its, rv, p, hz⟩ := I1.list hq
    refine wpAny_pyIter_list p.isList ?_
    refine ⟨s1.heap.objs.size, [s1.heap.objs.size], _, _, H1, rfl, I1.kept (t' := s1.toks) fun b o e => Heap.get?_push_of_some _ e, turn_list a _, ⟨_, Heap.get?_push_size _ rfl, rfl, rfl⟩, fun b hb => ?_, q⟩
    have e : b = s1.heap.objs.size := by simpa using hb
    subst e
    exact I1.fpOk (Nat.le_refl _) (I1.hok.fresh (Nat.le_refl _))
  · subst e
    cases r1
    obtain ⟨its, rv, p, hz⟩ := I1.tuple hq
    refine wpAny_pyIter_tuple (show s1.heap.IsTuple a its.toArray from p) ?_
    refine ⟨s1.heap.objs.size, [s1.heap.objs.size], _, _, H1, rfl, I1.kept (t' := s1.toks) fun b o e => Heap.get?_push_of_some _ e, turn_tuple a _, ⟨_, Heap.get?_push_size _ rfl, rfl, rfl⟩, fun b hb => ?_, q⟩
    have e : b = s1.heap.objs.size := by simpa using hb
    subst e
    exact I1.fpOk (Nat.le_refl _) (I1.hok.fresh (Nat.le_refl _))
  · subst e
    obtain ⟨t, rfl⟩ := r1
    cases ha : z.cps.all (· < 128)
    · exact wpAny_pyIter_wide ha (pi_one (tk := s1.toks) I1 _ (turn_str _ z t "str_iterator" (.inr rfl)) ⟨_, Heap.get?_push_size _ rfl, rfl, rfl⟩ q)
    · exact wpAny_pyIter_ascii ha (pi_one (tk := s1.toks) I1 _ (turn_str _ z t "str_ascii_iterator" (.inl rfl)) ⟨_, Heap.get?_push_size _ rfl, rfl, rfl⟩ q)
theorem St.head {v : V} {s : S} (st : St Φ K H σ ρ ω T) (m : (v, s) ∈ T) : St Φ K H σ ρ ω ([(v, s)] ++ T) := st.sub1 m
theorem walk_l {a : Addr} {n : Nat} : Walk (Itl K a) n (fun H => ∃ xs, SqL K H a xs ∧ xs.length = n) (Itl K a).yld :=
  ⟨fun i H hi ⟨xs, h, e⟩ => ⟨xs, xs[i]'(by omega), h, List.getElem?_eq_getElem (by omega)⟩, fun H ⟨xs, h, e⟩ => ⟨xs, h, by omega⟩, fun _ _ _ _ _ _ y => y⟩
theorem walk_t {a : Addr} {n : Nat} : Walk (Itt K a) n (fun H => ∃ xs, SqT K H a xs ∧ xs.length = n) (Itt K a).yld :=
  ⟨fun i H hi ⟨xs, h, e⟩ => ⟨xs, xs[i]'(by omega), h, List.getElem?_eq_getElem (by omega)⟩, fun H ⟨xs, h, e⟩ => ⟨xs, h, by omega⟩, fun _ _ _ _ _ _ y => y⟩
theorem ds_get {ds : List D} {i : Nat} (hi : i < (ds.map S.d).length) : ∃ d, ds[i]? = some d ∧ (ds.map S.d)[i]? = some (.d d) := by
  rw [List.length_map] at hi
  exact ⟨ds[i], List.getElem?_eq_getElem hi, by rw [List.getElem?_map, List.getElem?_eq_getElem hi]; rfl⟩
theorem it_tup {a : Addr} {ds : List D} : ItD K (Itt K a) [(.ref a, .d (.tup ds))] (fun _ => True) (ds.map .d) := ⟨_, _, walk_t, fun Φ H σ ρ ω T st m _ => by
  obtain ⟨B, α, sb⟩ := st
  obtain ⟨a', xs, e, ha, ra⟩ := r_tup (sb.tm (.ref a, .d (.tup ds)) (m _ (by simp)))
  cases e
  have hs := SqT.of (K := K) (sb.fr.bh _ _ ha)
  refine ⟨⟨xs, hs, by rw [List.length_map]; exact ra.len⟩, fun i x H' hi y => ?_⟩
  obtain ⟨rfl, y⟩ := y
  obtain ⟨d, e1, e2⟩ := ds_get hi
  obtain ⟨v, ev, rv⟩ := ra.get e1
  obtain rfl : x = v := Option.some.inj ((y xs hs).symm.trans ev)
  exact ⟨_, e2, (sb.pushD rv).st⟩⟩
theorem it_ktup {a : Addr} {ds : List D} : ItD K (Itt K a) [(.ref a, .d (.ktup ds))] (fun _ => True) (ds.map .d) := ⟨_, _, walk_t, fun Φ H σ ρ ω T st m _ => by
  obtain ⟨B, α, sb⟩ := st
  obtain ⟨a', xs, e, ha, ra⟩ := r_ktup (sb.tm (.ref a, .d (.ktup ds)) (m _ (by simp)))
  cases e
  have hs := sameT sb.fr.bh ha
  refine ⟨⟨xs, hs, by rw [List.length_map]; exact ra.len⟩, fun i x H' hi y => ?_⟩
  obtain ⟨rfl, y⟩ := y
  obtain ⟨d, e1, e2⟩ := ds_get hi
  obtain ⟨v, ev, rv⟩ := ra.get e1
  obtain rfl : x = v := Option.some.inj ((y xs hs).symm.trans ev)
  exact ⟨_, e2, (sb.pushD rv).st⟩⟩
theorem it_lst {a : Addr} {ds : List D} : ItD K (Itl K a) [(.ref a, .d (.lst ds))] (fun _ => True) (ds.map .d) := ⟨_, _, walk_l, fun Φ H σ ρ ω T st m _ => by
  obtain ⟨B, α, sb⟩ := st
  obtain ⟨a', xs, e, ha, ra⟩ := r_lst (sb.tm (.ref a, .d (.lst ds)) (m _ (by simp)))
  cases e
  have hs := SqL.of (K := K) (sb.fr.bh _ _ ha)
  refine ⟨⟨xs, hs, by rw [List.length_map]; exact ra.len⟩, fun i x H' hi y => ?_⟩
  obtain ⟨rfl, y⟩ := y
  obtain ⟨d, e1, e2⟩ := ds_get hi
  obtain ⟨v, ev, rv⟩ := ra.get e1
  obtain rfl : x = v := Option.some.inj ((y xs hs).symm.trans ev)
  exact ⟨_, e2, (sb.pushD rv).st⟩⟩
theorem it_klst {a : Addr} {ds : List D} : ItD K (Itl K a) [(.ref a, .d (.klst ds))] (fun _ => True) (ds.map .d) := ⟨_, _, walk_l, fun Φ H σ ρ ω T st m _ => by
  obtain ⟨B, α, sb⟩ := st
  obtain ⟨a', xs, e, ha, ra⟩ := r_klst (sb.tm (.ref a, .d (.klst ds)) (m _ (by simp)))
  cases e
  have hs := sb.fr.bh.seq ha
  refine ⟨⟨xs, hs, by rw [List.length_map]; exact ra.len⟩, fun i x H' hi y => ?_⟩
  obtain ⟨rfl, y⟩ := y
  obtain ⟨d, e1, e2⟩ := ds_get hi
  obtain ⟨v, ev, rv⟩ := ra.get e1
  obtain rfl : x = v := Option.some.inj ((y xs hs).symm.trans ev)
  exact ⟨_, e2, (sb.pushD rv).st⟩⟩
theorem it_pin {a : Addr} {j : Nat} {ss : List S} : ItD K (Itl K a) [(.ref a, .pin j)] (fun ω => ω[j]? = some (.lst ss)) ss := ⟨_, _, walk_l, fun Φ H σ ρ ω T st m hp => by
  obtain ⟨B, α, sb⟩ := st
  obtain ⟨a', e, ha, _, xs, ex, rp⟩ := sb.cell (m (.ref a, .pin j) (by simp)) hp
  cases e
  have hs := SqL.of (K := K) ex
  refine ⟨⟨xs, hs, Paired.length rp⟩, fun i x H' hi y => ?_⟩
  obtain ⟨rfl, y⟩ := y
  have e2 : ss[i]? = some ss[i] := List.getElem?_eq_getElem hi
  obtain ⟨v, ev, rv⟩ := paired_get rp e2
  obtain rfl : x = v := Option.some.inj ((y xs hs).symm.trans ev)
  exact ⟨_, e2, (sb.push rv).st⟩⟩
theorem it_str {z : Str} : ItD K (Its z) [] (fun _ => True) (strS z) := by
  have hl : (strS z).length = z.cps.size := by simp [strS]
  refine ⟨fun _ => True, _, hl ▸ walk_str, fun Φ H σ ρ ω T st m _ => ⟨True.intro, fun i x H' hi y => ?_⟩⟩
  obtain ⟨rfl, c, hc, rfl⟩ := y
  refine ⟨.d (.str ⟨#[c]⟩), ?_, st.push fun _ => .str _⟩
  unfold strS
  rw [List.getElem?_map, Array.getElem?_toList, hc]
  rfl
theorem refI_seq {tl : TE} {t : TD} (h0 : Ref K E tl t) : RefI K E (iSeq K tl) (dSeqI t) := fun Φ H σ ρ ω T q Rr x s hx k h => h0 Φ H σ ρ ω T _ _ x s hx (fun s1 ω1 v H1 h st => by
  unfold seqD at h
  obtain ⟨B, α, sb⟩ := st
  split at h
  · rename_i ds
    obtain ⟨a, xs, e, ha, ra⟩ := r_tup (sb.tm _ List.mem_cons_self)
    have e : v = .ref a := e
    subst e
    exact .inr (.inl ⟨a, rfl, ⟨xs, SqT.of (sb.fr.bh _ _ ha)⟩, k _ _ _ _ _ [_] h sb.st it_tup⟩)
  · rename_i ds
    obtain ⟨a, xs, e, ha, ra⟩ := r_ktup (sb.tm _ List.mem_cons_self)
    have e : v = .ref a := e
    subst e
    exact .inr (.inl ⟨a, rfl, ⟨xs, sameT sb.fr.bh ha⟩, k _ _ _ _ _ [_] h sb.st it_ktup⟩)
  · rename_i ds
    obtain ⟨a, xs, e, ha, ra⟩ := r_lst (sb.tm _ List.mem_cons_self)
    have e : v = .ref a := e
    subst e
    exact .inl ⟨a, rfl, ⟨xs, SqL.of (sb.fr.bh _ _ ha)⟩, k _ _ _ _ _ [_] h sb.st it_lst⟩
  · rename_i ds
    obtain ⟨a, xs, e, ha, ra⟩ := r_klst (sb.tm _ List.mem_cons_self)
    have e : v = .ref a := e
    subst e
    exact .inl ⟨a, rfl, ⟨xs, sb.fr.bh.seq ha⟩, k _ _ _ _ _ [_] h sb.st it_klst⟩
  · rename_i z
    have e : v = .str z := r_str (sb.tm _ List.mem_cons_self)
    subst e
    exact .inr (.inr ⟨z, rfl, k _ _ _ _ _ [] h (sb.st.sub fun p hp => List.mem_cons_of_mem _ hp) it_str⟩)
  · rename_i j
    split at h
    · rename_i ss ec
      obtain ⟨a, e, ha, _, xs, ex, rp⟩ := sb.cell List.mem_cons_self ec
      subst e
      exact .inl ⟨a, rfl, ⟨xs, SqL.of ex⟩, k _ _ _ _ _ [_] h sb.st it_pin⟩
    · exact h.elim
  · exact h.elim) h
theorem yi_seq {tg l : Expr} {t : TD} (h0 : PD X K E l ht t) (hK : X.K = K := by rfl) : PID X K E tg l (iSeq K ht) (dSeqI t) := by
  subst hK
  exact ⟨pi_seq h0.p, refI_seq h0.r⟩
/-! ### ranges -/
def rngS (lo : Int) (n : Nat) : List S := (List.range n).map fun (i : Nat) => .d (.int (lo + i))
theorem it_rng {lo : Int} {n : Nat} : ItD K (Itr lo n) [] (fun _ => True) (rngS lo n) := by
  have hl : (rngS lo n).length = n := by simp [rngS]
  refine ⟨fun _ => True, YFn fun i => .int (lo + i), by rw [hl]; exact walk_range, fun Φ H σ ρ ω T st m _ => ⟨True.intro, fun i x H' hi y => ?_⟩⟩
  obtain ⟨rfl, rfl⟩ := y
  refine ⟨.d (.int (lo + i)), ?_, st.push fun _ => .int _⟩
  rw [hl] at hi
  simp [rngS, hi]
def int62 (i : Int) : Prop := -(2 ^ 62) ≤ i ∧ i < 2 ^ 62
def dRng1 (u : TAD) : TID := fun ρ ω q x => u ρ ω (fun ss ω' => match ss with | [.d (.int j)] => int62 j ∧ q (rngS 0 j.toNat) (fun _ => True) ω' | _ => False) x
def dRng2 (u : TAD) : TID := fun ρ ω q x => u ρ ω (fun ss ω' => match ss with | [.d (.int i), .d (.int j)] => (int62 i ∧ int62 j) ∧ q (rngS i (j - i).toNat) (fun _ => True) ω' | _ => False) x
theorem yi_range1 {tg a : Expr} {u : TAD} {p pos : Pos} (hm : X.mg "range" = none) (h0 : PAD X K E [a] ht u) (hg : Gl X "range" := by rfl) (hs : starEach [a] X.env = [(false, eval a X.env)] := by rfl) : PID X K E tg (.Call (.Name "range" p) [a] [] pos) (iRng1 ht) (dRng1 u) :=
  ⟨pi_range1 hg hm h0.p hs, fun Φ H σ ρ ω T q Rr x s hx k h => h0.r Φ H σ ρ ω T _ _ x s hx (fun ss ω1 vs H1 h l st => by
    split at h
    · match vs, l with
      | [v], _ =>
        obtain ⟨B, α, sb⟩ := st
        exact ⟨_, congrArg (fun z => [z]) (r_int (show R K B v (.int _) from sb.tm (v, .d (.int _)) (by simp))), h.1.1, h.1.2, k _ _ _ _ _ [] h.2 (sb.st.sub fun p hp => by simp at hp; simp [hp]) it_rng⟩
    · exact h.elim) h⟩
theorem yi_range2 {tg a b : Expr} {u : TAD} {p pos : Pos} (hm : X.mg "range" = none) (h0 : PAD X K E [a, b] ht u) (hg : Gl X "range" := by rfl) (hs : starEach [a, b] X.env = [(false, eval a X.env), (false, eval b X.env)] := by rfl) (hs2 : starEach [b] X.env = [(false, eval b X.env)] := by rfl) : PID X K E tg (.Call (.Name "range" p) [a, b] [] pos) (iRng2 ht) (dRng2 u) :=
  ⟨pi_range2 hg hm h0.p hs hs2, fun Φ H σ ρ ω T q Rr x s hx k h => h0.r Φ H σ ρ ω T _ _ x s hx (fun ss ω1 vs H1 h l st => by
    split at h
    · rename_i i j
      match vs, l with
      | [v, w], _ =>
        obtain ⟨B, α, sb⟩ := st
        exact ⟨i, j, by rw [r_int (show R K B v (.int i) from sb.tm (v, .d (.int i)) (by simp)), r_int (show R K B w (.int j) from sb.tm (w, .d (.int j)) (by simp))], ⟨h.1.1.1, h.1.1.2, h.1.2.1, h.1.2.2⟩, k _ _ _ _ _ [] h.2 (sb.st.sub fun p hp => by simp at hp; simp [hp]) it_rng⟩
    · exact h.elim) h⟩
/-! ### for, while -/
def forR (g : TGD) (body : TSD) (ed : EndsD) (P : Sto → Prop) : List S → Env → Sto → Prop
  | [], ρ, ω => ed.nx ρ ω
  | s :: r, ρ, ω => g s ρ ω (fun ρ1 ω1 => body { ed with nx := fun ρ' ω' => P ω' ∧ forR g body ed P r ρ' ω', ct := fun ρ' ω' => P ω' ∧ forR g body ed P r ρ' ω', bk := ed.nx } ρ1 ω1)
def dFor (it : TID) (g : TGD) (body : TSD) : TSD := fun ed ρ ω => it ρ ω (fun is P ω' => P ω' ∧ forR g body ed P is ρ ω') ed.x
theorem refS_for {wi : TI} {g : TG} {tb : TS} {it : TID} {gd : TGD} {body : TSD} (h1 : RefI K E wi it) (h2 : RefG K g gd) (h3 : RefS K E tb body) : RefS K E (tFor wi g tb) (dFor it gd body) := fun Φ H σ ρ ω T En ed s l h => h1 Φ H σ ρ ω T _ _ _ s l.x (fun is P ω1 J H1 T0 h st ⟨G, Yd, hw, hI⟩ => by
  refine for_it hw (fun i σ H => i ≤ is.length ∧ ∃ ρ ω, St Φ K H σ ρ ω (T0 ++ T) ∧ P ω ∧ forR gd body ed P (is.drop i) ρ ω) ⟨Nat.zero_le _, ρ, ω1, st, h.1, by simpa using h.2⟩ (fun i σ H _ ⟨_, ρ, ω, st, hp, _⟩ => (hI Φ H σ ρ ω _ st (fun p hp => List.mem_append_left _ hp) hp).1) (fun i x σ H H' hi ⟨_, ρ, ω, st, hp, hf⟩ hy => ?_) (fun σ H ⟨_, ρ, ω, st, hp, hf⟩ => ?_)
  · obtain ⟨y, hy, st'⟩ := (hI Φ H σ ρ ω _ st (fun p hp => List.mem_append_left _ hp) hp).2 i x H' hi hy
    have e : is.drop i = y :: is.drop (i + 1) := by
      obtain ⟨hn, e⟩ := List.getElem?_eq_some_iff.mp hy
      rw [List.drop_eq_getElem_cons hn, e]
    rw [e] at hf
    refine h2 Φ H' σ ρ ω _ x y _ _ st' List.mem_cons_self (fun σ2 H2 ρ2 ω2 hb st2 => ?_) hf
    refine h3 Φ H2 σ2 ρ2 ω2 (T0 ++ T) _ { ed with nx := fun ρ' ω' => P ω' ∧ forR gd body ed P (is.drop (i + 1)) ρ' ω', ct := fun ρ' ω' => P ω' ∧ forR gd body ed P (is.drop (i + 1)) ρ' ω', bk := ed.nx } (st2.sub fun p hp => List.mem_cons_of_mem _ hp) ⟨fun σ3 H3 ρ3 ω3 h st3 => ⟨hi, ρ3, ω3, st3, h.1, h.2⟩, fun σ3 H3 ρ3 ω3 h st3 => l.nx _ _ _ _ h (st3.sub fun p hp => List.mem_append_right _ hp), fun σ3 H3 ρ3 ω3 h st3 => ⟨hi, ρ3, ω3, st3, h.1, h.2⟩, fun v σ3 H3 ρ3 s ω3 h st3 => l.rt _ _ _ _ _ _ h (st3.sub fun p hp => ?_), l.x⟩ hb
    rcases List.mem_cons.mp hp with rfl | hp
    · simp
    · simp [hp]
  · rw [List.drop_length] at hf
    exact l.nx _ _ _ _ hf (st.sub fun p hp => List.mem_append_right _ hp)) h
theorem y_for {tg iter : Expr} {body : List Stmt} {wi : TI} {g : TG} {tb : TS} {it : TID} {gd : TGD} {bd : TSD} {pos : Pos} (hp : PassesOwn (model X.prog X.w) X.A X.env X.xe) (hc : X.calm = true) (h1 : PID X K E tg iter wi it) (h2 : PGD X K tg g gd) (h3 : PSsD X K E body tb bd) (hs : ∀ x, foldedSetIterable iter X.env x = pure x := by intro _; rfl) : PSD X K E (.For tg iter body [] pos) (tFor wi g tb) (dFor it gd bd) :=
  ⟨ps_for hp hc h1.p h2.p h3.p hs, refS_for h1.r h2.r h3.r⟩
def whR (c : TTD) (body : TSD) (ed : EndsD) : Nat → Env → Sto → Prop
  | 0, _, _ => False
  | n + 1, ρ, ω => c ρ ω (fun b ω1 => if b = true then body { ed with nx := whR c body ed n, ct := whR c body ed n, bk := ed.nx } ρ ω1 else ed.nx ρ ω1) ed.x
def dWhile (c : TTD) (body : TSD) : TSD := fun ed ρ ω => ∃ n, whR c body ed n ρ ω
theorem refS_while {tc : TT} {tb : TS} {c : TTD} {body : TSD} (h1 : RefT K E tc c) (h3 : RefS K E tb body) : RefS K E (tWhile tc tb) (dWhile c body) := fun Φ H σ ρ ω T En ed s l ⟨n, h⟩ => by
  refine ⟨fun m σ H => ∃ ρ ω, St Φ K H σ ρ ω T ∧ whR c body ed m ρ ω, ⟨n, ρ, ω, s, h⟩, fun m σ H ⟨ρ, ω, st, h⟩ => ?_⟩
  cases m with
  | zero => exact h.elim
  | succ m =>
    refine h1 Φ H σ ρ ω T _ _ _ st l.x (fun b ω1 H1 h st1 => ?_) h
    cases b with
    | true =>
      rw [if_pos rfl] at h ⊢
      refine ⟨fun σ' H' => ∃ ρ ω, St Φ K H' σ' ρ ω T ∧ whR c body ed m ρ ω, fun σ' H' h => ⟨m, by omega, h⟩, ?_⟩
      exact h3 Φ H1 σ ρ ω1 T _ { ed with nx := whR c body ed m, ct := whR c body ed m, bk := ed.nx } st1 ⟨fun σ3 H3 ρ3 ω3 h st3 => ⟨ρ3, ω3, st3, h⟩, fun σ3 H3 ρ3 ω3 h st3 => l.nx _ _ _ _ h st3, fun σ3 H3 ρ3 ω3 h st3 => ⟨ρ3, ω3, st3, h⟩, l.rt, l.x⟩ h
    | false =>
      rw [if_neg Bool.false_ne_true] at h ⊢
      exact l.nx _ _ _ _ h st1
theorem y_while {c : Expr} {body : List Stmt} {tc : TT} {tb : TS} {cd : TTD} {bd : TSD} {pos : Pos} (hp : PassesOwn (model X.prog X.w) X.A X.env X.xe) (h1 : PTD X K E c tc cd) (h3 : PSsD X K E body tb bd) : PSD X K E (.While c body [] pos) (tWhile tc tb) (dWhile cd bd) := ⟨ps_while hp h1.p h3.p, refS_while h1.r h3.r⟩
end
end Y

set_option Elab.async false
set_option linter.all false
set_option maxRecDepth 100000
set_option maxHeartbeats 2000000
namespace Y
open PySem PySem.Spec PyProof.Rows L2
section
variable {K : PySem.W.Frag} {X : Cx} {E : XK}
variable {Φ : Phi} {B : Hp} {α : List Addr} {H : Hp} {σ : L2.St} {ρ : Env} {ω : Sto} {T : List (V × S)}
/-! ### a slot is forgotten -/
def wipeD (ρ : Env) : List Nat → Env
  | [] => ρ
  | v :: vs => (wipeD ρ vs).set v none
theorem set_wipe (σ : L2.St) (i : Nat) (x : Option V) : ∀ vs : List Nat, (wipe (σ.set i x) vs).set i none = (wipe σ vs).set i none
  | [] => by simp [wipe]
  | v :: vs => by
    unfold wipe
    by_cases e : i = v
    · subst e
      simpa using set_wipe σ i x vs
    · rw [List.set_comm _ _ (Ne.symm e), set_wipe σ i x vs, List.set_comm _ _ e]
theorem wipe_set {σ : L2.St} {i : Nat} {x : Option V} : ∀ {vs : List Nat}, i ∈ vs → wipe (σ.set i x) vs = wipe σ vs
  | v :: vs, h => by
    unfold wipe
    by_cases e : i = v
    · subst e; exact set_wipe σ i x vs
    · rw [wipe_set ((List.mem_cons.mp h).resolve_left e)]
theorem wipe_idem {σ : L2.St} : ∀ {vs us : List Nat}, (∀ v ∈ vs, v ∈ us) → wipe (wipe σ vs) us = wipe σ us
  | [], _, _ => rfl
  | v :: vs, us, h => by
    show wipe ((wipe σ vs).set v none) us = _
    rw [wipe_set (h v (by simp)), wipe_idem fun u hu => h u (by simp [hu])]
theorem Slots.wipe (h : Slots K α B σ ρ) : ∀ vs : List Nat, Slots K α B (wipe σ vs) (wipeD ρ vs)
  | [] => h
  | v :: vs => by
    have ih := Slots.wipe h vs
    refine ⟨by unfold L2.wipe wipeD; rw [List.length_set, List.length_set]; exact ih.1, fun i s e => ?_⟩
    unfold wipeD at e
    rw [List.getElem?_set] at e
    split at e
    · split at e <;> cases e
    · rename_i ne
      obtain ⟨w, e1, r⟩ := ih.2 i s e
      exact ⟨w, by unfold L2.wipe; rw [List.getElem?_set_ne ne]; exact e1, r⟩
theorem Slots.widen (h : Slots K α B σ ρ) (σ' : L2.St) (ρ' : Env) (h2 : Slots K α B σ' ρ') : True := True.intro
/-- a target that stores nothing else -/
def GO (g : TG) (vs : List Nat) : Prop := ∀ v τ H (Q Q' : L2.St → Hp → Prop), g v τ H Q → (∀ σ2 H2, wipe σ2 vs = wipe τ vs → Q σ2 H2 → Q' σ2 H2) → g v τ H Q'
def GOs (g : TGs) (vs : List Nat) : Prop := ∀ xs τ H (Q Q' : L2.St → Hp → Prop), g xs τ H Q → (∀ σ2 H2, wipe σ2 vs = wipe τ vs → Q σ2 H2 → Q' σ2 H2) → g xs τ H Q'
theorem go_name {i : Nat} {vs : List Nat} (h : i ∈ vs := by decide) : GO (gName i) vs := fun v τ H Q Q' q m => m _ _ (wipe_set h) q
theorem gos_nil {vs : List Nat} : GOs gNil vs := fun xs τ H Q Q' q m => ⟨q.1, m _ _ rfl q.2⟩
theorem gos_cons {i : Nat} {g : TGs} {vs : List Nat} (h2 : GOs g vs) (h : i ∈ vs := by decide) : GOs (gCons (gName i) g) vs := fun xs τ H Q Q' q m => by
  obtain ⟨v, r, e, q⟩ := q
  exact ⟨v, r, e, h2 r (τ.set i (some v)) H Q Q' q fun σ2 H2 e2 => m _ _ (e2.trans (wipe_set h))⟩
theorem go_tup {n : Nat} {g : TGs} {vs : List Nat} (h : GOs g vs) : GO (gTup K n g) vs := fun v τ H Q Q' q m => by
  obtain ⟨a, xs, e, hs, hl, q⟩ := q
  exact ⟨a, xs, e, hs, hl, h xs τ H Q Q' q m⟩
/-! ### what is new becomes known -/
theorem StB.adopt (s : StB Φ K B α H σ ρ ω T) {p : Addr} {xs : List V} {ds : List D} (e : H p = some (.lst xs)) (na : p ∉ α) (nb : B p = none) (nf : Φ.H p = none) (r : Rs K B xs ds) : St Φ K H σ ρ ω ((.ref p, .d (.lst ds)) :: T) := by
  have gB : Same B (upd B p (.lst xs)) := fun b u q => by rw [upd_ne (ne_of_none q nb)]; exact q
  have st : StB Φ K (upd B p (.lst xs)) α H σ ρ ω T := by
    refine ⟨⟨s.fr.bb.trans gB, fun b u q => ?_, s.fr.hh, fun a u q => ?_, s.fr.pre⟩, ⟨s.wd.nd, s.wd.len, s.wd.tr, fun j a c e1 e2 => ?_⟩, s.sl.mono gB ⟨[], by simp⟩, fun q hq => ?_⟩
    · by_cases z : b = p
      · subst z; rw [upd_same] at q; cases q; exact e
      · rw [upd_ne z] at q; exact s.fr.bh b u q
    · by_cases z : a = p
      · subst z; exact .inr (.inl nf)
      · rw [upd_ne z] at q; exact s.fr.fr a u q
    · have ne : a ≠ p := fun z => na (z ▸ List.mem_of_getElem? e1)
      have := (s.wd.cell j a c e1 e2).mono (β := []) gB (fun z => by rw [upd_ne ne]; exact z) (H' := H) rfl
      simpa using this
    · have := (s.tm q hq).mono (β := []) gB
      simpa using this
  exact (st.pushD (.lst upd_same (r.mono gB))).st
theorem StB.adoptP (s : StB Φ K B α H σ ρ ω T) {p : Addr} {xs : List V} {ss : List S} (e : H p = some (.lst xs)) (na : p ∉ α) (nb : B p = none) (nf : Φ.H p = none) (r : Paired (RS K α B) xs ss) : St Φ K H σ ρ (ω ++ [.lst ss]) ((.ref p, .pin ω.length) :: T) := by
  obtain ⟨β, eβ, nβ⟩ := s.fr.pre
  have st : StB Φ K B (α ++ [p]) H σ ρ (ω ++ [.lst ss]) T := by
    refine ⟨⟨s.fr.bb, s.fr.bh, s.fr.hh, s.fr.fr, β ++ [p], by rw [eβ, List.append_assoc], fun a m => ?_⟩, ⟨?_, by simp [s.wd.len], fun a m => ?_, fun j a c e1 e2 => ?_⟩, s.sl.mono (Same.refl B) ⟨[p], rfl⟩, fun q hq => (s.tm q hq).mono (Same.refl B)⟩
    · rcases List.mem_append.mp m with m | m
      · exact nβ a m
      · rw [List.mem_singleton.mp m]; exact .inl nf
    · rw [List.nodup_append]
      exact ⟨s.wd.nd, by simp, fun a ha b hb => by rw [List.mem_singleton.mp hb]; exact fun z => na (z ▸ ha)⟩
    · rcases List.mem_append.mp m with m | m
      · exact s.wd.tr a m
      · rw [List.mem_singleton.mp m]; exact ⟨_, e⟩
    · by_cases hj : j < α.length
      · rw [List.getElem?_append_left hj] at e1
        rw [List.getElem?_append_left (by rw [← s.wd.len]; exact hj)] at e2
        exact (s.wd.cell j a c e1 e2).mono (Same.refl B) id rfl
      · have hl : j < (α ++ [p]).length := (List.getElem?_eq_some_iff.mp e1).1
        have : j = α.length := by simp at hl; omega
        subst this
        rw [List.getElem?_append_right (Nat.le_refl _)] at e1
        rw [s.wd.len, List.getElem?_append_right (Nat.le_refl _)] at e2
        simp at e1 e2
        subst e1 e2
        exact ⟨nb, xs, e, paired_mono (fun _ _ h => h.mono (Same.refl B)) r⟩
  exact (st.push (x := .pin ω.length) ⟨p, by rw [← s.wd.len]; simp, rfl⟩).st
/-! ### [e for x in xs if t] -/
def lcR (gd : TGD) (td : TTD) (ed : TD) (ρ : Env) (P : Sto → Prop) (x : XD) (fin : List S → Sto → Prop) : List S → List S → Sto → Prop
  | [], acc, ω => fin acc ω
  | s :: r, acc, ω => gd s ρ ω (fun ρ1 ω1 => td ρ1 ω1 (fun b ω2 => if b = true then ed ρ1 ω2 (fun y ω3 => acc.length < 1000000 ∧ P ω3 ∧ lcR gd td ed ρ P x fin r (acc ++ [y]) ω3) x else P ω2 ∧ lcR gd td ed ρ P x fin r acc ω2) x)
def dLc (it : TID) (gd : TGD) (td : TTD) (ed : TD) (vs : List Nat) (fin : (S → Sto → Prop) → List S → Sto → Prop) : TD := fun ρ ω q x => it ρ ω (fun is P ω1 => P ω1 ∧ lcR gd td ed (wipeD ρ vs) P x (fin q) is [] ω1) x
def finD (q : S → Sto → Prop) (acc : List S) (ω : Sto) : Prop := match allD acc with | some ds => q (.d (.lst ds)) ω | none => False
def finP (q : S → Sto → Prop) (acc : List S) (ω : Sto) : Prop := q (.pin ω.length) (ω ++ [.lst acc])
def FinOk (K : PySem.W.Frag) (fin : (S → Sto → Prop) → List S → Sto → Prop) : Prop := ∀ (Φ : Phi) (B H : Hp) (α : List Addr) (σ : L2.St) (ρ : Env) (ω : Sto) (T : List (V × S)) (p : Addr) (xs : List V) (acc : List S) (q : S → Sto → Prop) (Q : VK), StB Φ K B α H σ ρ ω T → H p = some (.lst xs) → p ∉ α → B p = none → Φ.H p = none → Paired (RS K α B) xs acc →
  (∀ s ω' v H', q s ω' → St Φ K H' σ ρ ω' ((v, s) :: T) → Q v H') → fin q acc ω → Q (.ref p) H
theorem finD_ok : FinOk K finD := fun Φ B H α σ ρ ω T p xs acc q Q sb e na nb nf r k h => by
  unfold finD at h
  cases ea : allD acc with
  | none => simp only [ea] at h
  | some ds =>
    simp only [ea] at h
    exact k _ _ _ _ h (sb.adopt e na nb nf (rs_all r ea))
theorem finP_ok : FinOk K finP := fun Φ B H α σ ρ ω T p xs acc q Q sb e na nb nf r k h => k _ _ _ _ h (sb.adoptP e na nb nf r)
theorem StB.slots (s : StB Φ K B α H σ ρ ω T) {σ' : L2.St} {ρ' : Env} (h : Slots K α B σ' ρ') : StB Φ K B α H σ' ρ' ω T := ⟨s.fr, s.wd, h, s.tm⟩
/-- within a frame, what is outside of it -/
theorem Frame.out {B1 H1 B2 H2 : Hp} {α1 α2 : List Addr} (f : Frame ⟨B1, H1, α1⟩ B2 H2 α2) {p : Addr} {o : HO} (e : H1 p = some o) (na : p ∉ α1) (nb : B1 p = none) : H2 p = some o ∧ p ∉ α2 ∧ B2 p = none := by
  obtain ⟨β, eβ, nβ⟩ := f.pre
  refine ⟨f.hh p o na e, fun m => ?_, ?_⟩
  · have eβ : α2 = α1 ++ β := eβ
    rw [eβ] at m
    rcases List.mem_append.mp m with m | m
    · exact na m
    · rcases nβ p m with q | q
      · have q : H1 p = none := q
        rw [e] at q; cases q
      · exact na q
  · cases z : B2 p with
    | none => rfl
    | some u =>
      exfalso
      rcases f.fr p u z with ⟨w, q⟩ | q | q
      · have q : B1 p = some w := q
        rw [nb] at q; cases q
      · have q : H1 p = none := q
        rw [e] at q; cases q
      · exact na q
theorem ref_lc {wi : TI} {g : TG} {tt : TT} {te : TE} {it : TID} {gd : TGD} {td : TTD} {ed : TD} {vs : List Nat} {fin : (S → Sto → Prop) → List S → Sto → Prop} (hf : FinOk K fin) (h1 : RefI K E wi it) (h2 : RefG K g gd) (go : GO g vs) (h3 : RefT K E tt td) (h4 : Ref K E te ed) : Ref K E (tLc wi g tt te vs) (dLc it gd td ed vs fin) := fun Φ H σ ρ ω T q Q x s hx k h => h1 Φ H σ ρ ω T _ _ x s hx (fun is P ω1 J H1 T0 h st ⟨G, Yd, hw, hI⟩ => by
  intro D hD
  obtain ⟨hp, h⟩ := h
  obtain ⟨B, α, sb⟩ := st
  have nfD : Φ.H D = none ∨ D ∈ Φ.α := by
    by_cases m : D ∈ Φ.α
    · exact .inr m
    · cases z : Φ.H D with
      | none => exact .inl rfl
      | some o => rw [sb.fr.hh D o m z] at hD; cases hD
  have nD : Φ.H D = none := by
    rcases nfD with z | z
    · exact z
    · obtain ⟨β, eβ, _⟩ := sb.fr.pre
      obtain ⟨o, e⟩ := sb.wd.tr D (by rw [eβ]; simp [z])
      rw [hD] at e; cases e
  refine lc_it hw (fun i H2 => ∃ acc xs ω B α, StB Φ K B α H2 σ ρ ω (T0 ++ T) ∧ D ∉ α ∧ B D = none ∧ H2 D = some (.lst xs) ∧ Paired (RS K α B) xs acc ∧ P ω ∧ lcR gd td ed (wipeD ρ vs) P x (fin q) (is.drop i) acc ω) ?_ (fun i H2 _ ⟨acc, xs, ω, B, α, sb, _, _, _, _, hp, _⟩ => (hI Φ H2 σ ρ ω _ sb.st (fun p hp => List.mem_append_left _ hp) hp).1) (fun i y H2 H3 hi ⟨acc, xs, ω, B, α, sb, na, nb, eD, rp, hp, hl⟩ hy => ?_) (fun H2 ⟨acc, xs, ω, B, α, sb, na, nb, eD, rp, hp, hl⟩ => ?_)
  · have nm := sb.wd.fresh hD
    have nb := sb.fr.bh.free hD
    have gH : Same H1 (upd H1 D (.lst [])) := fun b u q => by rw [upd_ne (ne_of_none q hD)]; exact q
    refine ⟨[], [], ω1, B, α, ⟨⟨sb.fr.bb, sb.fr.bh.trans gH, fun b o m z => gH _ _ (sb.fr.hh b o m z), sb.fr.fr, sb.fr.pre⟩, ⟨sb.wd.nd, sb.wd.len, fun a m => let ⟨o, e⟩ := sb.wd.tr a m; ⟨o, gH _ _ e⟩, fun j a c e1 e2 => ?_⟩, sb.sl, sb.tm⟩, nm, nb, upd_same, .nil, hp, by simpa using h⟩
    have ne : a ≠ D := fun z => nm (z ▸ List.mem_of_getElem? e1)
    have := (sb.wd.cell j a c e1 e2).mono (β := []) (Same.refl B) id (H' := upd H1 D (.lst [])) (by rw [upd_ne ne])
    simpa using this
  · -- one turn
    have sb0 : StB ⟨B, H2, α⟩ K B α H2 (wipe σ vs) (wipeD ρ vs) ω (T0 ++ T) := ⟨Frame.refl sb.fr.bh, sb.wd, sb.sl.wipe vs, sb.tm⟩
    have hx2 : XOk ⟨B, H2, α⟩ K x E := hx.step sb.fr
    obtain ⟨y1, hy1, st1⟩ := (hI _ H2 _ _ ω _ sb0.st (fun p hp => List.mem_append_left _ hp) hp).2 i y H3 hi hy
    have e : is.drop i = y1 :: is.drop (i + 1) := by
      obtain ⟨hn, e⟩ := List.getElem?_eq_some_iff.mp hy1
      rw [List.drop_eq_getElem_cons hn, e]
    rw [e] at hl
    -- back in the outer frame
    have back : ∀ {B' H' : Hp} {α' : List Addr} {ω' : Sto} {σ' : L2.St} {ρ' : Env} {U : List (V × S)}, StB ⟨B, H2, α⟩ K B' α' H' σ' ρ' ω' (U ++ (T0 ++ T)) → StB Φ K B' α' H' σ ρ ω' (T0 ++ T) ∧ D ∉ α' ∧ B' D = none ∧ H' D = some (.lst xs) ∧ Paired (RS K α' B') xs acc := fun {B' H' α' ω' σ' ρ' U} s' => by
      obtain ⟨x1, x2, x3⟩ := s'.fr.out eD na nb
      obtain ⟨β, eβ, _⟩ := s'.fr.pre
      have eβ : α' = α ++ β := eβ
      exact ⟨⟨sb.fr.trans s'.fr, s'.wd, sb.sl.mono s'.fr.bb ⟨β, eβ⟩, fun p hp => s'.tm p (List.mem_append_right _ hp)⟩, x2, x3, x1, by subst eβ; exact paired_mono (fun _ _ h => h.mono s'.fr.bb) rp⟩
    refine go y (wipe σ vs) H3 _ _ (h2 _ H3 _ _ ω _ y y1 _ (fun σ2 H4 => wipe σ2 vs = wipe (wipe σ vs) vs → tt σ2 H4 fun b H5 => if b = true then te σ2 H5 fun z H6 => ∃ acc, H6 D = some (.lst acc) ∧ acc.length < sizeLine ∧ (fun i H2 => ∃ acc xs ω B α, StB Φ K B α H2 σ ρ ω (T0 ++ T) ∧ D ∉ α ∧ B D = none ∧ H2 D = some (.lst xs) ∧ Paired (RS K α B) xs acc ∧ P ω ∧ lcR gd td ed (wipeD ρ vs) P x (fin q) (is.drop i) acc ω) (i + 1) (upd H6 D (.lst (acc ++ [z]))) else (fun i H2 => ∃ acc xs ω B α, StB Φ K B α H2 σ ρ ω (T0 ++ T) ∧ D ∉ α ∧ B D = none ∧ H2 D = some (.lst xs) ∧ Paired (RS K α B) xs acc ∧ P ω ∧ lcR gd td ed (wipeD ρ vs) P x (fin q) (is.drop i) acc ω) (i + 1) H5) st1 List.mem_cons_self (fun σ2 H4 ρ2 ω2 hl st2 hw2 => ?_) hl) ?_
    rotate_left
    · have w2 : wipe (wipe σ vs) vs = wipe σ vs := wipe_idem fun _ h => h
      exact fun σ2 H4 a b => ⟨a.trans w2, b a⟩
    · refine h3 _ H4 σ2 ρ2 ω2 _ _ _ x st2 hx2 (fun b ω3 H5 hl st3 => ?_) hl
      cases b with
      | true =>
        rw [if_pos rfl] at hl ⊢
        refine h4 _ H5 σ2 ρ2 ω3 _ _ _ x st3 hx2 (fun z ω4 zv H6 hl st4 => ?_) hl
        obtain ⟨hn, hP, hl⟩ := hl
        obtain ⟨B', α', sb4⟩ := st4
        obtain ⟨sb5, na5, nb5, eD5, rp5⟩ := back (U := [(zv, z), (y, y1)]) sb4
        have hz := sb4.tm (zv, z) List.mem_cons_self
        refine ⟨xs, eD5, Nat.lt_of_lt_of_le (by rw [Paired.length rp5]; exact hn) (lineB (Nat.le_refl _)), acc ++ [z], xs ++ [zv], ω4, B', α', ?_, na5, nb5, upd_same, paired_app rp5 (.cons hz .nil), hP, hl⟩
        have gne : ∀ b o, B' b = some o → (upd H6 D (.lst (xs ++ [zv]))) b = some o := fun b o q => by rw [upd_ne (ne_of_none q nb5)]; exact sb5.fr.bh b o q
        refine ⟨⟨sb5.fr.bb, gne, fun b o m q => ?_, sb5.fr.fr, sb5.fr.pre⟩, ⟨sb5.wd.nd, sb5.wd.len, fun a m => ?_, fun j a c e1 e2 => ?_⟩, sb5.sl, sb5.tm⟩
        · rw [upd_ne (ne_of_none q nD)]
          exact sb5.fr.hh b o m q
        · obtain ⟨o, e⟩ := sb5.wd.tr a m
          exact ⟨o, by rw [upd_ne (show a ≠ D from fun z => na5 (by rw [← z]; exact m))]; exact e⟩
        · have ne : a ≠ D := fun z => na5 (z ▸ List.mem_of_getElem? e1)
          have := (sb5.wd.cell j a c e1 e2).mono (β := []) (Same.refl B') id (H' := upd H6 D (.lst (xs ++ [zv]))) (by rw [upd_ne ne])
          simpa using this
      | false =>
        rw [if_neg Bool.false_ne_true] at hl ⊢
        obtain ⟨B', α', sb4⟩ := st3
        obtain ⟨sb5, na5, nb5, eD5, rp5⟩ := back (U := [(y, y1)]) sb4
        exact ⟨acc, xs, ω3, B', α', sb5, na5, nb5, eD5, rp5, hl.1, hl.2⟩
  · rw [List.drop_length] at hl
    exact hf Φ B H2 α σ ρ ω (T0 ++ T) D xs acc q Q sb eD na nb nD rp (fun s ω' v H' hq hs => k s ω' v H' hq (hs.sub fun p hp => by
      rcases List.mem_cons.mp hp with rfl | hp
      · simp
      · simp [hp])) hl) h
end
end Y

set_option Elab.async false
set_option linter.all false
set_option maxRecDepth 100000
set_option maxHeartbeats 2000000
namespace Y
open PySem PySem.Spec PyProof.Rows L2
section
variable {K : PySem.W.Frag} {X : Cx} {E : XK}
variable {Φ : Phi} {B : Hp} {α : List Addr} {H : Hp} {σ : L2.St} {ρ : Env} {ω : Sto} {T : List (V × S)}
/-! ### comprehensions as rules -/
structure PTsD (X : Cx) (K : PySem.W.Frag) (E : XK) (es : List Expr) (tt : TT) (t : TTD) : Prop where
  p : PTs X es tt
  r : RefT K E tt t
def dYes : TTD := fun _ ω q _ => q true ω
theorem yts_nil : PTsD X K E [] tYes dYes := ⟨pts_nil, fun Φ H σ ρ ω T q Q x s _ k h => k _ _ _ h s⟩
theorem yts_one {c : Expr} {t : TTD} (h : PTD X K E c ht t) : PTsD X K E [c] ht t := ⟨pts_one h.p, h.r⟩
section
variable {elt tg iter : Expr} {ifs : List Expr} {scope : Scope} {own : List (Str × Nat)} {pos : Pos} {wi : TI} {g : TG} {tt : TT} {te : TE} {it : TID} {gd : TGD} {td : TTD} {ed : TD}
theorem y_lcD (hc : X.calm = true) (hN : X.N.Nodup) (h1 : PID X K E tg iter wi it) (ok : BlkOk X.N X.env.scope scope own) (go : GO g (own.map (·.2)))
    (hg : ∀ (s : Shared) (H : Hp) (C : Addr) (cl : List (Str × Addr)) (fp : List Addr), PGD (X.blk s H scope (compEnvC scope cl C X.env) fp) K tg g gd) (ht : ∀ (s : Shared) (H : Hp) (C : Addr) (cl : List (Str × Addr)) (fp : List Addr), PTsD (X.blk s H scope (compEnvC scope cl C X.env) fp) K E ifs tt td)
    (he : ∀ (s : Shared) (H : Hp) (C : Addr) (cl : List (Str × Addr)) (fp : List Addr), PD (X.blk s H scope (compEnvC scope cl C X.env) fp) K E elt te ed) (hs : ∀ x, foldedSetIterable iter X.env x = pure x := by intro _; rfl) :
    PD X K E (.ListComp elt [⟨tg, iter, ifs, 0⟩] scope pos) (tLc wi g tt te (own.map (·.2))) (dLc it gd td ed (own.map (·.2)) finD) :=
  ⟨pe_lc hc hN h1.p ok (fun s H C cl fp => (hg s H C cl fp).p) (fun s H C cl fp => (ht s H C cl fp).p) (fun s H C cl fp => (he s H C cl fp).p) hs,
    ref_lc finD_ok h1.r (hg {} (fun _ => none) 0 [] []).r go (ht {} (fun _ => none) 0 [] []).r (he {} (fun _ => none) 0 [] []).r⟩
theorem y_lcP (hc : X.calm = true) (hN : X.N.Nodup) (h1 : PID X K E tg iter wi it) (ok : BlkOk X.N X.env.scope scope own) (go : GO g (own.map (·.2)))
    (hg : ∀ (s : Shared) (H : Hp) (C : Addr) (cl : List (Str × Addr)) (fp : List Addr), PGD (X.blk s H scope (compEnvC scope cl C X.env) fp) K tg g gd) (ht : ∀ (s : Shared) (H : Hp) (C : Addr) (cl : List (Str × Addr)) (fp : List Addr), PTsD (X.blk s H scope (compEnvC scope cl C X.env) fp) K E ifs tt td)
    (he : ∀ (s : Shared) (H : Hp) (C : Addr) (cl : List (Str × Addr)) (fp : List Addr), PD (X.blk s H scope (compEnvC scope cl C X.env) fp) K E elt te ed) (hs : ∀ x, foldedSetIterable iter X.env x = pure x := by intro _; rfl) :
    PD X K E (.ListComp elt [⟨tg, iter, ifs, 0⟩] scope pos) (tLc wi g tt te (own.map (·.2))) (dLc it gd td ed (own.map (·.2)) finP) :=
  ⟨pe_lc hc hN h1.p ok (fun s H C cl fp => (hg s H C cl fp).p) (fun s H C cl fp => (ht s H C cl fp).p) (fun s H C cl fp => (he s H C cl fp).p) hs,
    ref_lc finP_ok h1.r (hg {} (fun _ => none) 0 [] []).r go (ht {} (fun _ => none) 0 [] []).r (he {} (fun _ => none) 0 [] []).r⟩
/-- y = [..] -/
theorem y_setLc {fin : (S → Sto → Prop) → List S → Sto → Prop} (hf : FinOk K fin) {i : Nat} {y : Str} {py spos : Pos} (hc : X.calm = true) (hN : X.N.Nodup) (hy : X.N[i]? = some y) (hyl : X.env.scope.names.lookup y = some .local)
    (hsw : swapsWith (.ListComp elt [⟨tg, iter, ifs, 0⟩] scope pos) (some (.Name y py)) spos.line X.env = pure true) (h1 : PID X K E tg iter wi it) (ok : BlkOk X.N X.env.scope scope own) (go : GO g (own.map (·.2)))
    (hg : ∀ (s : Shared) (H : Hp) (C : Addr) (cl : List (Str × Addr)) (fp : List Addr), PGD (X.blk s H scope (compEnvC scope cl C X.env) fp) K tg g gd) (ht : ∀ (s : Shared) (H : Hp) (C : Addr) (cl : List (Str × Addr)) (fp : List Addr), PTsD (X.blk s H scope (compEnvC scope cl C X.env) fp) K E ifs tt td)
    (he : ∀ (s : Shared) (H : Hp) (C : Addr) (cl : List (Str × Addr)) (fp : List Addr), PD (X.blk s H scope (compEnvC scope cl C X.env) fp) K E elt te ed) (hs : ∀ x, foldedSetIterable iter X.env x = pure x := by intro _; rfl) :
    PSD X K E (.Assign [.Name y py] (.ListComp elt [⟨tg, iter, ifs, 0⟩] scope pos) spos) (tAsg (tLc wi g tt te (own.map (·.2))) (gName i)) (dSet i (dLc it gd td ed (own.map (·.2)) fin)) :=
  ⟨ps_setLc hc hN hy hyl hsw h1.p ok (fun s H C cl fp => (hg s H C cl fp).p) (fun s H C cl fp => (ht s H C cl fp).p) (fun s H C cl fp => (he s H C cl fp).p) hs,
    fun Φ H σ ρ ω T En ed s l h => ref_lc hf h1.r (hg {} (fun _ => none) 0 [] []).r go (ht {} (fun _ => none) 0 [] []).r (he {} (fun _ => none) 0 [] []).r Φ H σ ρ ω T _ _ _ s l.x (fun s' ω' w H' h st => l.nx _ _ _ _ h (st.store i)) h⟩
end
/-! ### what a def promises, told by data -/
abbrev CP := List D → (D → Prop) → Prop
abbrev CPX := List D → (D → Prop) → XD → Prop
def spPX (K : PySem.W.Frag) (C : CPX) : Sp := fun vs H Q E => ∃ B ds q x, Same B H ∧ Rs K B vs ds ∧ C ds q x ∧ (∀ d v H' B', q d → Frame ⟨B, H, []⟩ B' H' [] → R K B' v d → Q v H') ∧ XOk ⟨B, H, []⟩ K x E
def spP (K : PySem.W.Frag) (C : CP) : Sp := spPX K fun ds q x => C ds q ∧ ∀ e, ¬ x e
abbrev CG := List S → Sto → (S → Sto → Prop) → Prop
abbrev CGX := List S → Sto → (S → Sto → Prop) → XD → Prop
def spGX (K : PySem.W.Frag) (G : CGX) : Sp := fun vs H Q E => ∃ B α ω ss q x, Same B H ∧ Wld K B H α ω ∧ Paired (RS K α B) vs ss ∧ G ss ω q x ∧ (∀ s ω' v H' B' α', q s ω' → Frame ⟨B, H, α⟩ B' H' α' → Wld K B' H' α' ω' → RS K α' B' v s → Q v H') ∧ XOk ⟨B, H, α⟩ K x E
def spG (K : PySem.W.Frag) (G : CG) : Sp := spGX K fun ss ω q x => G ss ω q ∧ ∀ e, ¬ x e
/-- all pins stay -/
theorem Frame.nil {H' B' : Hp} {α' : List Addr} (f : Frame ⟨B, H, []⟩ B' H' α') : Frame ⟨B, H, []⟩ B' H' [] := ⟨f.bb, f.bh, f.hh, f.fr, [], rfl, by simp⟩
theorem StB.pureStep (s : StB Φ K B α H σ ρ ω T) {B' H' : Hp} (f : Frame ⟨B, H, []⟩ B' H' []) : StB Φ K B' α H' σ ρ ω T := by
  refine s.step ⟨f.bb, f.bh, fun b o _ h => f.hh b o (by simp) h, fun a o h => ?_, [], by simp, by simp⟩ ⟨s.wd.nd, s.wd.len, fun a m => ?_, fun j a c e1 e2 => ?_⟩
  · rcases f.fr a o h with z | z | z
    · exact .inl z
    · exact .inr (.inl z)
    · simp at z
  · obtain ⟨o, e⟩ := s.wd.tr a m
    exact ⟨o, f.hh a o (by simp) e⟩
  · obtain ⟨o, e⟩ := s.wd.tr a (List.mem_of_getElem? e1)
    have eh : H' a = H a := by rw [e]; exact f.hh a o (by simp) e
    have := (s.wd.cell j a c e1 e2).mono (β := []) f.bb (fun nb => ?_) eh
    · simpa using this
    · cases z : B' a with
      | none => rfl
      | some u =>
        exfalso
        rcases f.fr a u z with ⟨w, q⟩ | q | q
        · have q : B a = some w := q
          have nb : B a = none := nb
          rw [nb] at q; cases q
        · have q : H a = none := q
          rw [e] at q; cases q
        · simp at q
theorem XOk.pure {x : XD} (hx : XOk Φ K x E) (f : Frame Φ B H α) (tr : ∀ a ∈ α, ∃ o, H a = some o) : XOk ⟨B, H, []⟩ K x E := fun C fs h B' H' α' g => by
  have w := hx.step f C fs h B' H' α ⟨g.bb, g.bh, fun b o _ q => g.hh b o (by simp) q, fun a o q => by
    rcases g.fr a o q with w | w | w
    · exact .inl w
    · exact .inr (.inl w)
    · simp at w, [], by simp, by simp⟩
  refine ⟨w.1, fun n d ys e1 e2 e3 e4 e5 => w.2 n d ys e1 e2 e3 (fun m => ?_) e5⟩
  obtain ⟨o, e⟩ := tr d m
  have e3 : H d = none := e3
  rw [e] at e3
  cases e3
/-! ### a call -/
def allDk (ss : List S) (k : List D → Prop) : Prop := match allD ss with | some ds => k ds | none => False
def dCallX (C : CPX) (u : TAD) : TD := fun ρ ω q x => u ρ ω (fun ss ω1 => allDk ss fun ds => C ds (fun d => q (.d d) ω1) x) x
def dCall (C : CP) (u : TAD) : TD := fun ρ ω q x => u ρ ω (fun ss ω1 => allDk ss fun ds => C ds (fun d => q (.d d) ω1)) x
theorem ref_callX {ta : TA} {C : CPX} {u : TAD} (h0 : RefA K E ta u) : Ref K E (tCall (spPX K C) [] E ta) (dCallX C u) := fun Φ H σ ρ ω T q Q x s hx k h => h0 Φ H σ ρ ω T _ _ x s hx (fun ss ω1 vs H1 h l ⟨B, α, sb⟩ => by
  unfold allDk at h
  cases e : allD ss with
  | none => simp only [e] at h
  | some ds =>
    simp only [e] at h
    rw [List.append_nil]
    exact ⟨B, ds, _, x, sb.fr.bh, rs_all (St.pair sb l) e, h, fun d v H' B' hq f r => k _ _ _ _ hq (drop_mid ((sb.pureStep f).pushD r).st), hx.pure sb.fr sb.wd.tr⟩) h
theorem ref_call {ta : TA} {C : CP} {u : TAD} (h0 : RefA K E ta u) : Ref K E (tCall (spP K C) [] E0 ta) (dCall C u) := fun Φ H σ ρ ω T q Q x s hx k h => h0 Φ H σ ρ ω T _ _ x s hx (fun ss ω1 vs H1 h l ⟨B, α, sb⟩ => by
  unfold allDk at h
  cases e : allD ss with
  | none => simp only [e] at h
  | some ds =>
    simp only [e] at h
    rw [List.append_nil]
    exact ⟨B, ds, _, fun _ => False, sb.fr.bh, rs_all (St.pair sb l) e, ⟨h, fun _ z => z⟩, fun d v H' B' hq f r => k _ _ _ _ hq (drop_mid ((sb.pureStep f).pushD r).st), .never⟩) h
def dCallGX (G : CGX) (u : TAD) : TD := fun ρ ω q x => u ρ ω (fun ss ω1 => G ss ω1 q x) x
def dCallG (G : CG) (u : TAD) : TD := fun ρ ω q x => u ρ ω (fun ss ω1 => G ss ω1 q) x
theorem ref_callGX {ta : TA} {G : CGX} {u : TAD} (h0 : RefA K E ta u) : Ref K E (tCall (spGX K G) [] E ta) (dCallGX G u) := fun Φ H σ ρ ω T q Q x s hx k h => h0 Φ H σ ρ ω T _ _ x s hx (fun ss ω1 vs H1 h l ⟨B, α, sb⟩ => by
  rw [List.append_nil]
  exact ⟨B, α, ω1, ss, q, x, sb.fr.bh, sb.wd, St.pair sb l, h, fun s ω' v H' B' α' hq f w r => k _ _ _ _ hq (drop_mid ((sb.step f w).push r).st), hx.step sb.fr⟩) h
theorem ref_callG {ta : TA} {G : CG} {u : TAD} (h0 : RefA K E ta u) : Ref K E (tCall (spG K G) [] E0 ta) (dCallG G u) := fun Φ H σ ρ ω T q Q x s hx k h => h0 Φ H σ ρ ω T _ _ x s hx (fun ss ω1 vs H1 h l ⟨B, α, sb⟩ => by
  rw [List.append_nil]
  exact ⟨B, α, ω1, ss, q, fun _ => False, sb.fr.bh, sb.wd, St.pair sb l, ⟨h, fun _ z => z⟩, fun s ω' v H' B' α' hq f w r => k _ _ _ _ hq (drop_mid ((sb.step f w).push r).st), .never⟩) h
section
variable {CX : CXT} {k : Nat} {f : Addr} {fd : FuncData} {ps : List Str} {x : Str} {e : Expr} {es : List Expr} {p pos : Pos} {u : TAD}
theorem y_call {C : CP} (F : FnOk X.prog X.w K X.mg X.base CX0 k f fd ps (spP K C)) (hr : Room k X.A) (hm : X.mg x = some (.ref f)) (hk : PySem.W.keepIn K (.ref f) = true) (hb : Binds K fd ps []) (ha : PAD X K E (e :: es) ht u) (hg : Gl X x := by rfl) (hdb : (x == ("__debug__" : Str)) = false := by decide)
    (he : starEach (e :: es) X.env = (false, eval e X.env) :: starEach es X.env := by rfl) (hpl : (backTo pos (starEach es X.env)).any (·.1) = false := by rfl) (hK : X.K = K := by rfl) : PD X K E (.Call (.Name x p) (e :: es) [] pos) (tCall (spP K C) [] E0 ht) (dCall C u) := by
  subst hK
  exact ⟨pe_call F hr hg hm hk hb .nil pass0 ha.p hdb he hpl, ref_call ha.r⟩
theorem y_callX {C : CPX} (F : FnOk X.prog X.w K X.mg X.base CX k f fd ps (spPX K C)) (hr : Room k X.A) (hm : X.mg x = some (.ref f)) (hk : PySem.W.keepIn K (.ref f) = true) (hb : Binds K fd ps []) (hx : Passes CX X E) (ha : PAD X K E (e :: es) ht u) (hg : Gl X x := by rfl) (hdb : (x == ("__debug__" : Str)) = false := by decide)
    (he : starEach (e :: es) X.env = (false, eval e X.env) :: starEach es X.env := by rfl) (hpl : (backTo pos (starEach es X.env)).any (·.1) = false := by rfl) (hK : X.K = K := by rfl) : PD X K E (.Call (.Name x p) (e :: es) [] pos) (tCall (spPX K C) [] E ht) (dCallX C u) := by
  subst hK
  exact ⟨pe_call F hr hg hm hk hb .nil hx ha.p hdb he hpl, ref_callX ha.r⟩
theorem y_callG {G : CG} (F : FnOk X.prog X.w K X.mg X.base CX0 k f fd ps (spG K G)) (hr : Room k X.A) (hm : X.mg x = some (.ref f)) (hk : PySem.W.keepIn K (.ref f) = true) (hb : Binds K fd ps []) (ha : PAD X K E (e :: es) ht u) (hg : Gl X x := by rfl) (hdb : (x == ("__debug__" : Str)) = false := by decide)
    (he : starEach (e :: es) X.env = (false, eval e X.env) :: starEach es X.env := by rfl) (hpl : (backTo pos (starEach es X.env)).any (·.1) = false := by rfl) (hK : X.K = K := by rfl) : PD X K E (.Call (.Name x p) (e :: es) [] pos) (tCall (spG K G) [] E0 ht) (dCallG G u) := by
  subst hK
  exact ⟨pe_call F hr hg hm hk hb .nil pass0 ha.p hdb he hpl, ref_callG ha.r⟩
theorem y_callGX {G : CGX} (F : FnOk X.prog X.w K X.mg X.base CX k f fd ps (spGX K G)) (hr : Room k X.A) (hm : X.mg x = some (.ref f)) (hk : PySem.W.keepIn K (.ref f) = true) (hb : Binds K fd ps []) (hx : Passes CX X E) (ha : PAD X K E (e :: es) ht u) (hg : Gl X x := by rfl) (hdb : (x == ("__debug__" : Str)) = false := by decide)
    (he : starEach (e :: es) X.env = (false, eval e X.env) :: starEach es X.env := by rfl) (hpl : (backTo pos (starEach es X.env)).any (·.1) = false := by rfl) (hK : X.K = K := by rfl) : PD X K E (.Call (.Name x p) (e :: es) [] pos) (tCall (spGX K G) [] E ht) (dCallGX G u) := by
  subst hK
  exact ⟨pe_call F hr hg hm hk hb .nil hx ha.p hdb he hpl, ref_callGX ha.r⟩
end
end
/-! ### a def -/
def startD (N : List Str) (ss : List S) : Env := ss.map some ++ List.replicate (N.length - ss.length) none
/-- what a pure def's body is to reach -/
def rtP (q : D → Prop) (s : S) (ω : Sto) : Prop := match s with
  | .d d => q d
  | .pin j => match ω[j]? with
    | some (.lst ss) => allDk ss fun ds => q (.lst ds)
    | _ => False
def endsP (q : D → Prop) (x : XD) : EndsD := ⟨fun _ _ => q .non, rtP q, fun _ _ => False, fun _ _ => False, x⟩
section
variable {P : Program} {w : World} {K : PySem.W.Frag} {mg : Str → Option Value} {base : Heap} {x qual : Str} {st : Stmt} {f : Addr} {fd : FuncData} {N ps : List Str} {k : Nat}
theorem slots_start {B : Hp} {α : List Addr} {vs : List V} {ss : List S} (r : Paired (RS K α B) vs ss) : Slots K α B (L2.start N vs) (startD N ss) := by
  have hl := Paired.length r
  unfold L2.start startD
  refine ⟨by simp [hl], fun i s e => ?_⟩
  by_cases hi : i < ss.length
  · rw [List.getElem?_append_left (by simpa using hi), List.getElem?_map] at e
    rw [List.getElem?_append_left (by simpa [hl] using hi), List.getElem?_map]
    cases es : ss[i]? with
    | none => rw [es] at e; cases e
    | some z =>
      rw [es] at e
      cases e
      obtain ⟨v, ev, rv⟩ := paired_get r es
      exact ⟨v, by rw [ev]; rfl, rv⟩
  · rw [List.getElem?_append_right (by simpa using hi)] at e
    rw [List.getElem?_replicate] at e
    split at e <;> cases e
theorem rs_pairS {B : Hp} : ∀ {vs : List V} {ds : List D}, Rs K B vs ds → Paired (RS K [] B) vs (ds.map .d)
  | _, _, .nil => .nil
  | _, _, .cons h t => .cons h (rs_pairS t)
theorem links_pure {B H : Hp} {E : XK} {Q : VK} {q : D → Prop} {x : XD} (hq : ∀ d v H' B', q d → Frame ⟨B, H, []⟩ B' H' [] → R K B' v d → Q v H') (hx : XOk ⟨B, H, []⟩ K x E) : Links ⟨B, H, []⟩ K [] E { nx := fun _ H' => Q .non H', rt := Q } (endsP q x) where
  nx := fun σ H' ρ ω h ⟨B', α', s⟩ => hq _ _ _ _ h s.fr.nil .non
  bk := fun _ _ _ _ h _ => h
  ct := fun _ _ _ _ h _ => h
  rt := fun v σ H' ρ s ω h ⟨B', α', st⟩ => by
    have h : rtP q s ω := h
    unfold rtP at h
    split at h
    · exact hq _ _ _ _ h st.fr.nil (st.tm (v, .d _) List.mem_cons_self)
    · split at h
      · rename_i ss ec
        unfold allDk at h
        cases e : allD ss with
        | none => simp only [e] at h
        | some ds =>
          simp only [e] at h
          obtain ⟨a, ha, ev⟩ := st.tm _ List.mem_cons_self
          have ev : v = .ref a := ev
          subst ev
          obtain ⟨B2, f2, w2, r2⟩ := Frame.stop st.fr.bh st.wd ha ec e
          exact hq _ _ _ _ h (st.fr.trans f2).nil r2
      · exact h.elim
  x := hx
theorem fnPX {C : CPX} (F : Fun K x qual st f fd) (Sc : FnScope N ps (defScope st)) (hlen : ∀ ds q x, C ds q x → ds.length = ps.length)
    (hbody : ∀ (cdv : Value) (A : Around) (outer : List PySem.Env) (s : Shared) (H : Hp) (E : XK) (ds : List D) (q : D → Prop) (x : XD), Room k (A.deeper (envOfC qual (defScope st) s.heap.objs.size f cdv)) → C ds q x →
      ∃ ts td, PSsD (cxOf (L2.CX P w) P w K mg base N qual (defScope st) f cdv A outer s H E) K E (defBody st) ts td ∧ td (endsP q x) (startD N (ds.map .d)) []) : FnOk P w K mg base (L2.CX P w) (k + 1) f fd ps (spPX K C) := by
  refine F.okX Sc (fun vs H Q E h => ?_) (fun cdv A outer s H vs Q E hr h => ?_)
  · obtain ⟨B, ds, q, x, _, r, hc, _⟩ := h
    rw [r.len]
    exact hlen _ _ _ hc
  · obtain ⟨B, ds, q, x, g, r, hc, hq, hx⟩ := h
    obtain ⟨ts, td, T, ht⟩ := hbody cdv A outer s H E ds q x hr hc
    have sb : StB ⟨B, H, []⟩ K B [] H (L2.start N vs) (startD N (ds.map .d)) [] [] := ⟨Frame.refl g, ⟨List.nodup_nil, rfl, by simp, fun j a c e => by simp at e⟩, slots_start (rs_pairS r), by simp⟩
    exact ⟨ts, T.p, T.r _ H _ _ [] [] _ (endsP q x) sb.st (links_pure hq hx) ht⟩
theorem fnP {C : CP} (F : Fun K x qual st f fd) (Sc : FnScope N ps (defScope st)) (hlen : ∀ ds q, C ds q → ds.length = ps.length)
    (hbody : ∀ (cdv : Value) (A : Around) (outer : List PySem.Env) (s : Shared) (H : Hp) (E : XK) (ds : List D) (q : D → Prop), Room k (A.deeper (envOfC qual (defScope st) s.heap.objs.size f cdv)) → C ds q →
      ∃ ts td, PSsD (cxOf CX0 P w K mg base N qual (defScope st) f cdv A outer s H E).nox K E0 (defBody st) ts td ∧ td (endsP q fun _ => False) (startD N (ds.map .d)) []) : FnOk P w K mg base CX0 (k + 1) f fd ps (spP K C) := by
  refine F.ok Sc (fun vs H Q E h => ?_) (fun cdv A outer s H vs Q E hr h => ?_)
  · obtain ⟨B, ds, q, x, _, r, hc, _⟩ := h
    rw [r.len]
    exact hlen _ _ hc.1
  · obtain ⟨B, ds, q, x, g, r, hc, hq, hx⟩ := h
    obtain ⟨ts, td, T, ht⟩ := hbody cdv A outer s H E ds q hr hc.1
    have sb : StB ⟨B, H, []⟩ K B [] H (L2.start N vs) (startD N (ds.map .d)) [] [] := ⟨Frame.refl g, ⟨List.nodup_nil, rfl, by simp, fun j a c e => by simp at e⟩, slots_start (rs_pairS r), by simp⟩
    exact ⟨ts, T.p, T.r _ H _ _ [] [] _ (endsP q fun _ => False) sb.st (links_pure hq .never) ht⟩
def endsG (q : S → Sto → Prop) (x : XD) : EndsD := ⟨fun _ ω => q (.d .non) ω, q, fun _ _ => False, fun _ _ => False, x⟩
theorem links_g {B H : Hp} {α : List Addr} {E : XK} {Q : VK} {q : S → Sto → Prop} {x : XD} (hq : ∀ s ω' v H' B' α', q s ω' → Frame ⟨B, H, α⟩ B' H' α' → Wld K B' H' α' ω' → RS K α' B' v s → Q v H') (hx : XOk ⟨B, H, α⟩ K x E) : Links ⟨B, H, α⟩ K [] E { nx := fun _ H' => Q .non H', rt := Q } (endsG q x) where
  nx := fun σ H' ρ ω h ⟨B', α', s⟩ => hq _ _ _ _ _ _ h s.fr s.wd R.non
  bk := fun _ _ _ _ h _ => h
  ct := fun _ _ _ _ h _ => h
  rt := fun v σ H' ρ s ω h ⟨B', α', st⟩ => hq _ _ _ _ _ _ h st.fr st.wd (st.tm (v, s) List.mem_cons_self)
  x := hx
theorem fnGX {G : CGX} (F : Fun K x qual st f fd) (Sc : FnScope N ps (defScope st)) (hlen : ∀ ss ω q x, G ss ω q x → ss.length = ps.length)
    (hbody : ∀ (cdv : Value) (A : Around) (outer : List PySem.Env) (s : Shared) (H : Hp) (E : XK) (ss : List S) (ω : Sto) (q : S → Sto → Prop) (x : XD), Room k (A.deeper (envOfC qual (defScope st) s.heap.objs.size f cdv)) → G ss ω q x →
      ∃ ts td, PSsD (cxOf (L2.CX P w) P w K mg base N qual (defScope st) f cdv A outer s H E) K E (defBody st) ts td ∧ td (endsG q x) (startD N ss) ω) : FnOk P w K mg base (L2.CX P w) (k + 1) f fd ps (spGX K G) := by
  refine F.okX Sc (fun vs H Q E h => ?_) (fun cdv A outer s H vs Q E hr h => ?_)
  · obtain ⟨B, α, ω, ss, q, x, _, _, r, hc, _⟩ := h
    rw [Paired.length r]
    exact hlen _ _ _ _ hc
  · obtain ⟨B, α, ω, ss, q, x, g, w, r, hc, hq, hx⟩ := h
    obtain ⟨ts, td, T, ht⟩ := hbody cdv A outer s H E ss ω q x hr hc
    have sb : StB ⟨B, H, α⟩ K B α H (L2.start N vs) (startD N ss) ω [] := ⟨Frame.refl g, w, slots_start r, by simp⟩
    exact ⟨ts, T.p, T.r _ H _ _ ω [] _ (endsG q x) sb.st (links_g hq hx) ht⟩
theorem fnG {G : CG} (F : Fun K x qual st f fd) (Sc : FnScope N ps (defScope st)) (hlen : ∀ ss ω q, G ss ω q → ss.length = ps.length)
    (hbody : ∀ (cdv : Value) (A : Around) (outer : List PySem.Env) (s : Shared) (H : Hp) (E : XK) (ss : List S) (ω : Sto) (q : S → Sto → Prop), Room k (A.deeper (envOfC qual (defScope st) s.heap.objs.size f cdv)) → G ss ω q →
      ∃ ts td, PSsD (cxOf CX0 P w K mg base N qual (defScope st) f cdv A outer s H E).nox K E0 (defBody st) ts td ∧ td (endsG q fun _ => False) (startD N ss) ω) : FnOk P w K mg base CX0 (k + 1) f fd ps (spG K G) := by
  refine F.ok Sc (fun vs H Q E h => ?_) (fun cdv A outer s H vs Q E hr h => ?_)
  · obtain ⟨B, α, ω, ss, q, x, _, _, r, hc, _⟩ := h
    rw [Paired.length r]
    exact hlen _ _ _ hc.1
  · obtain ⟨B, α, ω, ss, q, x, g, w, r, hc, hq, hx⟩ := h
    obtain ⟨ts, td, T, ht⟩ := hbody cdv A outer s H E ss ω q hr hc.1
    have sb : StB ⟨B, H, α⟩ K B α H (L2.start N vs) (startD N ss) ω [] := ⟨Frame.refl g, w, slots_start r, by simp⟩
    exact ⟨ts, T.p, T.r _ H _ _ ω [] _ (endsG q fun _ => False) sb.st (links_g hq .never) ht⟩
end
end Y

set_option Elab.async false
set_option linter.all false
set_option maxRecDepth 100000
set_option maxHeartbeats 2000000
namespace Y
open PySem PySem.Spec PyProof.Rows L2
/-- names of the language that the text does not store -/
structure Bu (mg : Str → Option Value) : Prop where
  abs : mg "abs" = none
  int : mg "int" = none
  len : mg "len" = none
  isinstance : mg "isinstance" = none
  bool : mg "bool" = none
  str : mg "str" = none
  tuple : mg "tuple" = none
  list : mg "list" = none
  dict : mg "dict" = none
  range : mg "range" = none
  all : mg "all" = none
  any : mg "any" = none
  sum : mg "sum" = none
  max : mg "max" = none
  min : mg "min" = none
  sorted : mg "sorted" = none
  set : mg "set" = none
  reversed : mg "reversed" = none
  zip : mg "zip" = none
  enumerate : mg "enumerate" = none
section
variable {K : PySem.W.Frag} {X : Cx} {E : XK}
variable {Φ : Phi} {B : Hp} {α : List Addr} {H : Hp} {σ : L2.St} {ρ : Env} {ω : Sto} {T : List (V × S)}
abbrev CB := List S → Sto → (S → Sto → Prop) → Prop
def RefC (K : PySem.W.Frag) (r : List V → Hp → VK → Prop) (f : CB) : Prop := ∀ (Φ : Phi) (B : Hp) (α : List Addr) (H : Hp) (σ : L2.St) (ρ : Env) (ω : Sto) (T : List (V × S)) (vs : List V) (ss : List S) (q : S → Sto → Prop) (Q : VK), StB Φ K B α H σ ρ ω T → Paired (RS K α B) vs ss → (∀ p ∈ vs.zip ss, p ∈ T) →
  (∀ s ω' v H', q s ω' → St Φ K H' σ ρ ω' ((v, s) :: T) → Q v H') → f ss ω q → r vs H Q
def dB (f : CB) (u : TAD) : TD := fun ρ ω q x => u ρ ω (fun ss ω1 => f ss ω1 q) x
theorem ref_b {r : List V → Hp → VK → Prop} {f : CB} {ta : TA} {u : TAD} (hf : RefC K r f) (h0 : RefA K E ta u) : Ref K E (tCB r ta) (dB f u) := fun Φ H σ ρ ω T q Q x s hx k h => h0 Φ H σ ρ ω T _ _ x s hx (fun ss ω1 vs H1 h l ⟨B, α, sb⟩ => hf Φ B α H1 σ ρ ω1 _ vs ss q Q sb (St.pair sb l) (fun p hp => List.mem_append_left _ hp) (fun s ω' v H' hq st => k _ _ _ _ hq (drop_mid st)) h) h
section
variable {x : Str} {p pos : Pos} {e : Expr} {es : List Expr} {u : TAD} {id T : String} {r : List V → Hp → VK → Prop} {f : CB}
theorem y_blt (hc : CallR X (.builtin id) r) (hf : RefC K r f) (hm : X.mg x = none) (hv : bootBuiltins x = some (.builtin id)) (ha : PAD X K E (e :: es) ht u) (hg : Gl X x := by rfl) (hn : x ≠ "__name__" := by decide) (hdb : (x == ("__debug__" : Str)) = false := by decide)
    (he : starEach (e :: es) X.env = (false, eval e X.env) :: starEach es X.env := by rfl) (hpl : (backTo pos (starEach es X.env)).any (·.1) = false := by rfl) : PD X K E (.Call (.Name x p) (e :: es) [] pos) (tCB r ht) (dB f u) := ⟨pe_callB hc hg hm hv ha.p hn hdb he hpl, ref_b hf ha.r⟩
theorem y_bty (hc : CallR X (.type T) r) (hf : RefC K r f) (hm : X.mg x = none) (hv : bootBuiltins x = some (.type T)) (ha : PAD X K E (e :: es) ht u) (hg : Gl X x := by rfl) (hn : x ≠ "__name__" := by decide) (hdb : (x == ("__debug__" : Str)) = false := by decide)
    (he : starEach (e :: es) X.env = (false, eval e X.env) :: starEach es X.env := by rfl) (hpl : (backTo pos (starEach es X.env)).any (·.1) = false := by rfl) : PD X K E (.Call (.Name x p) (e :: es) [] pos) (tCB r ht) (dB f u) := ⟨pe_callTy hc hg hm hv ha.p hn hdb he hpl, ref_b hf ha.r⟩
end
theorem pair1 {F : V → S → Prop} {vs : List V} {s : S} (h : Paired F vs [s]) : ∃ v, vs = [v] ∧ F v s := by
  cases h with | cons h t => cases t; exact ⟨_, rfl, h⟩
theorem pair2 {F : V → S → Prop} {vs : List V} {s s' : S} (h : Paired F vs [s, s']) : ∃ v w, vs = [v, w] ∧ F v s ∧ F w s' := by
  cases h with | cons h t => cases t with | cons h2 t => cases t; exact ⟨_, _, rfl, h, h2⟩
/-! ### len -/
def lenD : CB := fun ss ω q => match ss with
  | [.d (.tup ds)] => q (.d (.int ds.length)) ω
  | [.d (.ktup ds)] => q (.d (.int ds.length)) ω
  | [.d (.lst ds)] => q (.d (.int ds.length)) ω
  | [.d (.str x)] => x.length ≤ 1000000 ∧ q (.d (.int x.length)) ω
  | [.pin j] => match ω[j]? with
    | some (.lst ss) => q (.d (.int ss.length)) ω
    | some (.dK kvs) => q (.d (.int kvs.length)) ω
    | _ => False
  | _ => False
def rLenY (K : PySem.W.Frag) : List V → Hp → VK → Prop := fun xs H Q => (∃ x n, xs = [x] ∧ LenV K x H n ∧ Q (.int n) H) ∨ ∃ a kvs, xs = [V.ref a] ∧ H a = some (.dK kvs) ∧ Q (.int kvs.length) H
theorem call_lenY : CallR X (.builtin "len") (rLenY X.K) := call_len.or call_lenD
theorem pin_of {v : V} {j : Nat} {c : Cell} (sb : StB Φ K B α H σ ρ ω T) (r : RS K α B v (.pin j)) (e : ω[j]? = some c) : ∃ a, v = .ref a ∧ α[j]? = some a ∧ CellOk K α B H a c := by
  obtain ⟨a, ha, ev⟩ := r
  exact ⟨a, ev, ha, sb.wd.cell j a c ha e⟩
theorem refC_len : RefC K (rLenY K) lenD := fun Φ B α H σ ρ ω T vs ss q Q sb rr m k h => by
  unfold lenD at h
  split at h
  · obtain ⟨v, rfl, r⟩ := pair1 rr
    obtain ⟨a, xs, rfl, ha, ra⟩ := r_tup r
    exact .inl ⟨_, _, rfl, .inr ⟨xs, SqT.of (sb.fr.bh _ _ ha), rfl⟩, k _ _ _ _ h (sb.st.push fun _ => by rw [ra.len]; exact .int _)⟩
  · obtain ⟨v, rfl, r⟩ := pair1 rr
    obtain ⟨a, xs, rfl, ha, ra⟩ := r_ktup r
    exact .inl ⟨_, _, rfl, .inr ⟨xs, sameT sb.fr.bh ha, rfl⟩, k _ _ _ _ h (sb.st.push fun _ => by rw [ra.len]; exact .int _)⟩
  · obtain ⟨v, rfl, r⟩ := pair1 rr
    obtain ⟨a, xs, rfl, ha, ra⟩ := r_lst r
    exact .inl ⟨_, _, rfl, .inl ⟨xs, SqL.of (sb.fr.bh _ _ ha), rfl⟩, k _ _ _ _ h (sb.st.push fun _ => by rw [ra.len]; exact .int _)⟩
  · obtain ⟨v, rfl, r⟩ := pair1 rr
    obtain rfl := r_str r
    exact .inl ⟨_, _, rfl, ⟨lineB h.1, rfl⟩, k _ _ _ _ h.2 (sb.st.push fun _ => .int _)⟩
  · obtain ⟨v, rfl, r⟩ := pair1 rr
    split at h
    · rename_i e
      obtain ⟨a, rfl, ha, _, xs, ex, rp⟩ := pin_of sb r e
      exact .inl ⟨_, _, rfl, .inl ⟨xs, SqL.of ex, rfl⟩, k _ _ _ _ h (sb.st.push fun _ => by rw [Paired.length rp]; exact .int _)⟩
    · rename_i e
      obtain ⟨a, rfl, ha, _, ys, ey, rk⟩ := pin_of sb r e
      exact .inr ⟨a, ys, rfl, ey, k _ _ _ _ h (sb.st.push fun _ => by rw [rk.len]; exact .int _)⟩
    · exact h.elim
  · exact h.elim
theorem y_len {p pos : Pos} {e : Expr} {u : TAD} (b : Bu X.mg) (ha : PAD X K E [e] ht u) (hg : Gl X "len" := by rfl) (he : starEach [e] X.env = (false, eval e X.env) :: starEach [] X.env := by rfl) (hK : X.K = K := by rfl) : PD X K E (.Call (.Name "len" p) [e] [] pos) (tCB (rLenY K) ht) (dB lenD u) := by
  subst hK
  exact y_blt call_lenY refC_len b.len PySem.boot_len ha hg (he := he) (hpl := rfl)
/-! ### isinstance -/
def tyS (s : S) (ω : Sto) : Option String := match s with
  | .d .non => some "NoneType"
  | .d (.bl _) => some "bool"
  | .d (.int _) => some "int"
  | .d (.str _) => some "str"
  | .d (.tup _) => some "tuple"
  | .d (.ktup _) => some "tuple"
  | .d (.lst _) => some "list"
  | .pin j => match ω[j]? with
    | some (.lst _) => some "list"
    | some (.dK _) => some "dict"
    | some (.dT _) => some "dict"
    | _ => none
  | _ => none
def kitS (a T : String) : Bool := a == T || (a == "bool" && T == "int")
theorem kit_tab : ∀ a ∈ (["NoneType", "bool", "int", "str", "tuple", "list", "dict"] : List String), ∀ T ∈ (["bool", "int", "str", "tuple", "list", "dict"] : List String), kitB a T = some (kitS a T) := by decide +kernel
theorem tyS_ok {v : V} {s : S} {a : String} (sb : StB Φ K B α H σ ρ ω T) (r : RS K α B v s) (h : tyS s ω = some a) : TyX K H v (.type a) ∧ a ∈ (["NoneType", "bool", "int", "str", "tuple", "list", "dict"] : List String) := by
  have tt : ∀ {a xs}, SqT K H a xs → TyX K H (.ref a) (.type "tuple") := fun h => by
    rcases h with (h | ⟨o, h⟩) | ⟨o, _, _, h, c, _⟩
    · exact .base (.tup h)
    · exact .fTuple h
    · exact .kTuple h c
  unfold tyS at h
  split at h
  · cases h; rw [show v = .non from r_non r]; exact ⟨.base .non, by simp⟩
  · cases h; rw [show v = .bl _ from r_bl r]; exact ⟨.base (.bl _), by simp⟩
  · cases h; rw [show v = .int _ from r_int r]; exact ⟨.base (.int _), by simp⟩
  · cases h; rw [show v = .str _ from r_str r]; exact ⟨.base (.str _), by simp⟩
  · cases h; obtain ⟨a, xs, e, ha, ra⟩ := r_tup r; subst e; exact ⟨tt (SqT.of (sb.fr.bh _ _ ha)), by simp⟩
  · cases h; obtain ⟨a, xs, e, ha, ra⟩ := r_ktup r; subst e; exact ⟨tt (sameT sb.fr.bh ha), by simp⟩
  · cases h; obtain ⟨a, xs, e, ha, ra⟩ := r_lst r; subst e; exact ⟨.base (.lst (sb.fr.bh _ _ ha)), by simp⟩
  · split at h
    · rename_i e
      cases h
      obtain ⟨a, rfl, ha, _, xs, ex, rp⟩ := pin_of sb r e
      exact ⟨.base (.lst ex), by simp⟩
    · rename_i e
      cases h
      obtain ⟨a, rfl, ha, _, xs, ex, rp⟩ := pin_of sb r e
      exact ⟨.base (.dK ex), by simp⟩
    · rename_i e
      cases h
      obtain ⟨a, rfl, ha, _, xs, ex, rp⟩ := pin_of sb r e
      exact ⟨.base (.dT ex), by simp⟩
    · cases h
  · cases h
def tIsiY (K : PySem.W.Frag) (te : TE) (T : String) : TE := fun σ H Q => te σ H fun x H1 => rIsi K [x, .ty T] H1 Q
def dIsi (T : String) (t : TD) : TD := fun ρ ω q x => t ρ ω (fun s ω1 => match tyS s ω1 with | some a => q (.d (.bl (kitS a T))) ω1 | none => False) x
theorem y_isi {e : Expr} {t : TD} {n : Str} {T : String} {p1 p2 p3 : Pos} (b : Bu X.mg) (h0 : PD X K E e ht t) (mT : X.mg n = none) (bT : bootBuiltins n = some (.type T)) (hT : T ∈ (["bool", "int", "str", "tuple", "list", "dict"] : List String) := by simp) (gi : Gl X "isinstance" := by rfl) (gT : Gl X n := by rfl) (hn : n ≠ "__name__" := by decide)
    (hd : (n == ("__debug__" : Str)) = false := by decide) (hs1 : starEach (e :: [.Name n p2]) X.env = (false, eval e X.env) :: starEach [.Name n p2] X.env := by rfl) (hs2 : starEach [.Name n p2] X.env = (false, eval (.Name n p2) X.env) :: starEach [] X.env := by rfl)
    (hpl : (backTo p3 (starEach [.Name n p2] X.env)).any (·.1) = false := by rfl) (hK : X.K = K := by rfl) : PD X K E (.Call (.Name "isinstance" p1) [e, .Name n p2] [] p3) (tIsiY K ht T) (dIsi T t) := by
  subst hK
  refine ⟨pe_callB (X := X) (p := p1) (pos := p3) call_isi gi b.isinstance (by decide +kernel) (pa_cons h0.p (pa_cons (pe_bltn (v := .ty T) (pos := p2) gT mT bT rfl hn hd) pa_nil hs2) hs1) (he := hs1) (hpl := hpl), fun Φ H σ ρ ω T' q Q x s hx k h => h0.r Φ H σ ρ ω T' _ _ x s hx (fun s1 ω1 v H1 h ⟨B, α, sb⟩ => ?_) h⟩
  cases e1 : tyS s1 ω1 with
  | none => simp only [e1] at h
  | some a =>
    simp only [e1] at h
    obtain ⟨x1, x2⟩ := tyS_ok sb (sb.tm (v, s1) List.mem_cons_self) e1
    refine ⟨v, .ty T, .type a, .type T, kitS a T, rfl, .ty T, x1, kit_ty (kit_tab a x2 T hT), k _ _ _ _ h (drop_mid (U := [(v, s1)]) (St.push (d := .bl (kitS a T)) (v := .bl (kitS a T)) sb.st fun _ => .bl _))⟩
/-! ### all, any, sum -/
def allB : List D → Option (List Bool)
  | [] => some []
  | .bl b :: ds => (allB ds).map (b :: ·)
  | _ :: _ => none
def allI : List D → Option (List Int)
  | [] => some []
  | .int b :: ds => (allI ds).map (b :: ·)
  | _ :: _ => none
theorem rs_bls {B : Hp} : ∀ {ds : List D} {vs : List V} {bs : List Bool}, Rs K B vs ds → allB ds = some bs → vs = bs.map V.bl
  | [], _, _, .nil, h => by cases h; rfl
  | d :: ds, _, bs, .cons r t, h => by
    unfold allB at h
    split at h
    · rename_i e; cases e
    · rename_i e
      cases e
      obtain ⟨cs, h1, rfl⟩ := Option.map_eq_some_iff.mp h
      rw [r_bl r, rs_bls t h1]
      rfl
    · cases h
theorem rs_ints {B : Hp} : ∀ {ds : List D} {vs : List V} {bs : List Int}, Rs K B vs ds → allI ds = some bs → vs = bs.map V.int
  | [], _, _, .nil, h => by cases h; rfl
  | d :: ds, _, bs, .cons r t, h => by
    unfold allI at h
    split at h
    · rename_i e; cases e
    · rename_i e
      cases e
      obtain ⟨cs, h1, rfl⟩ := Option.map_eq_some_iff.mp h
      rw [r_int r, rs_ints t h1]
      rfl
    · cases h
def lstOf (s : S) (ω : Sto) (k : List D → Prop) : Prop := match s with
  | .d (.lst ds) => k ds
  | .pin j => match ω[j]? with
    | some (.lst ss) => allDk ss k
    | _ => False
  | _ => False
theorem lst_of {v : V} {s : S} {k : List D → Prop} (sb : StB Φ K B α H σ ρ ω T) (r : RS K α B v s) (h : lstOf s ω k) : ∃ a xs ds, v = .ref a ∧ H a = some (.lst xs) ∧ Rs K B xs ds ∧ k ds := by
  unfold lstOf at h
  split at h
  · obtain ⟨a, xs, e, ha, ra⟩ := r_lst r
    exact ⟨a, xs, _, e, sb.fr.bh _ _ ha, ra, h⟩
  · split at h
    · rename_i e
      obtain ⟨a, rfl, ha, _, xs, ex, rp⟩ := pin_of sb r e
      unfold allDk at h
      split at h
      · rename_i e2
        exact ⟨a, xs, _, rfl, ex, rs_all rp e2, h⟩
      · exact h.elim
    · exact h.elim
  · exact h.elim
def boolsD (g : List Bool → Bool) : CB := fun ss ω q => match ss with
  | [s] => lstOf s ω fun ds => match allB ds with | some bs => q (.d (.bl (g bs))) ω | none => False
  | _ => False
theorem refC_bools {g : List Bool → Bool} : RefC K (fun vs H Q => ∃ (a : Addr) (bs : List Bool), vs = [V.ref a] ∧ SqL K H a (bs.map V.bl) ∧ Q (.bl (g bs)) H) (boolsD g) := fun Φ B α H σ ρ ω T vs ss q Q sb rr m k h => by
  unfold boolsD at h
  split at h
  · obtain ⟨v, rfl, r⟩ := pair1 rr
    obtain ⟨a, xs, ds, rfl, ex, rs, h⟩ := lst_of sb r h
    cases e : allB ds with
    | none => simp only [e] at h
    | some bs =>
      simp only [e] at h
      rw [rs_bls rs e] at ex
      exact ⟨a, bs, rfl, SqL.of ex, k _ _ _ _ h (sb.st.push fun _ => .bl _)⟩
  · exact h.elim
def sumD : CB := fun ss ω q => match ss with
  | [s] => lstOf s ω fun ds => match allI ds with | some bs => q (.d (.int bs.sum)) ω | none => False
  | _ => False
theorem refC_sum : RefC K (rSum K) sumD := fun Φ B α H σ ρ ω T vs ss q Q sb rr m k h => by
  unfold sumD at h
  split at h
  · obtain ⟨v, rfl, r⟩ := pair1 rr
    obtain ⟨a, xs, ds, rfl, ex, rs, h⟩ := lst_of sb r h
    cases e : allI ds with
    | none => simp only [e] at h
    | some bs =>
      simp only [e] at h
      rw [rs_ints rs e] at ex
      exact ⟨a, bs, rfl, SqL.of ex, k _ _ _ _ h (sb.st.push fun _ => .int _)⟩
  · exact h.elim
section
variable {p pos : Pos} {e : Expr} {u : TAD}
theorem y_all (b : Bu X.mg) (hc : X.calm = true) (ha : PAD X K E [e] ht u) (hg : Gl X "all" := by rfl) (he : starEach [e] X.env = (false, eval e X.env) :: starEach [] X.env := by rfl) (hK : X.K = K := by rfl) : PD X K E (.Call (.Name "all" p) [e] [] pos) (tCB (rAll K) ht) (dB (boolsD fun bs => bs.all id) u) := by
  subst hK
  exact y_blt (cr_all hc) refC_bools b.all (by decide +kernel) ha hg (he := he) (hpl := rfl)
theorem y_any (b : Bu X.mg) (hc : X.calm = true) (ha : PAD X K E [e] ht u) (hg : Gl X "any" := by rfl) (he : starEach [e] X.env = (false, eval e X.env) :: starEach [] X.env := by rfl) (hK : X.K = K := by rfl) : PD X K E (.Call (.Name "any" p) [e] [] pos) (tCB (rAny K) ht) (dB (boolsD fun bs => bs.any id) u) := by
  subst hK
  exact y_blt (cr_any hc) refC_bools b.any (by decide +kernel) ha hg (he := he) (hpl := rfl)
theorem y_sum (b : Bu X.mg) (hc : X.calm = true) (ha : PAD X K E [e] ht u) (hg : Gl X "sum" := by rfl) (he : starEach [e] X.env = (false, eval e X.env) :: starEach [] X.env := by rfl) (hK : X.K = K := by rfl) : PD X K E (.Call (.Name "sum" p) [e] [] pos) (tCB (rSum K) ht) (dB sumD u) := by
  subst hK
  exact y_blt (cr_sum hc) refC_sum b.sum (by decide +kernel) ha hg (he := he) (hpl := rfl)
/-! ### tuple(x), list(x) -/
def tupD : CB := fun ss ω q => match ss with
  | [.d (.tup ds)] => q (.d (.tup ds)) ω
  | [s] => lstOf s ω fun ds => q (.d (.tup ds)) ω
  | _ => False
theorem refC_tup : RefC K (fun xs H Q => ∃ p ys, xs = [.ref p] ∧ ((SqL K H p ys ∧ ∀ l, H l = none → Q (.ref l) (upd H l (.tup ys))) ∨ (SqT K H p ys ∧ Q (.ref p) H))) tupD := fun Φ B α H σ ρ ω T vs ss q Q sb rr m k h => by
  unfold tupD at h
  split at h
  · obtain ⟨v, rfl, r⟩ := pair1 rr
    obtain ⟨a, xs, rfl, ha, ra⟩ := r_tup r
    exact ⟨a, xs, rfl, .inr ⟨SqT.of (sb.fr.bh _ _ ha), k _ _ _ _ h (sb.pushD r).st⟩⟩
  · obtain ⟨v, rfl, r⟩ := pair1 rr
    obtain ⟨a, xs, ds, rfl, ex, rs, h⟩ := lst_of sb r h
    exact ⟨a, xs, rfl, .inl ⟨SqL.of ex, fun l hl => k _ _ _ _ h (sb.tup hl rs)⟩⟩
  · exact h.elim
def sqOf (s : S) (ω : Sto) (k : List D → Prop) : Prop := match s with
  | .d (.tup ds) => k ds
  | .d (.ktup ds) => k ds
  | s => lstOf s ω k
theorem sq_of {v : V} {s : S} {k : List D → Prop} (sb : StB Φ K B α H σ ρ ω T) (r : RS K α B v s) (h : sqOf s ω k) : ∃ a xs ds, v = .ref a ∧ (SqL K H a xs ∨ SqT K H a xs) ∧ Rs K B xs ds ∧ k ds := by
  unfold sqOf at h
  split at h
  · obtain ⟨a, xs, e, ha, ra⟩ := r_tup r
    exact ⟨a, xs, _, e, .inr (SqT.of (sb.fr.bh _ _ ha)), ra, h⟩
  · obtain ⟨a, xs, e, ha, ra⟩ := r_ktup r
    exact ⟨a, xs, _, e, .inr (sameT sb.fr.bh ha), ra, h⟩
  · obtain ⟨a, xs, ds, e, ex, rs, h⟩ := lst_of sb r h
    exact ⟨a, xs, ds, e, .inl (SqL.of ex), rs, h⟩
def listD : CB := fun ss ω q => match ss with
  | [s] => sqOf s ω fun ds => q (.d (.lst ds)) ω
  | _ => False
def listP : CB := fun ss ω q => match ss with
  | [s] => sqOf s ω fun ds => q (.pin ω.length) (ω ++ [.lst (ds.map .d)])
  | _ => False
abbrev rListY (K : PySem.W.Frag) : List V → Hp → VK → Prop := fun xs H Q => ∃ p ys, xs = [.ref p] ∧ (SqL K H p ys ∨ SqT K H p ys) ∧ ∀ l, H l = none → Q (.ref l) (upd H l (.lst ys))
theorem rs_pairA {vs : List V} {ds : List D} (r : Rs K B vs ds) : Paired (RS K α B) vs (ds.map .d) := by
  have h := r.paired
  clear r
  induction h with
  | nil => exact .nil
  | cons h t ih => exact .cons h ih
theorem refC_listD : RefC K (rListY K) listD := fun Φ B α H σ ρ ω T vs ss q Q sb rr m k h => by
  unfold listD at h
  split at h
  · obtain ⟨v, rfl, r⟩ := pair1 rr
    obtain ⟨a, xs, ds, rfl, ex, rs, h⟩ := sq_of sb r h
    exact ⟨a, xs, rfl, ex, fun l hl => k _ _ _ _ h (sb.lstD hl rs)⟩
  · exact h.elim
theorem refC_listP : RefC K (rListY K) listP := fun Φ B α H σ ρ ω T vs ss q Q sb rr m k h => by
  unfold listP at h
  split at h
  · obtain ⟨v, rfl, r⟩ := pair1 rr
    obtain ⟨a, xs, ds, rfl, ex, rs, h⟩ := sq_of sb r h
    exact ⟨a, xs, rfl, ex, fun l hl => k _ _ _ _ h (sb.lst hl (rs_pairA rs))⟩
  · exact h.elim
abbrev rTupY (K : PySem.W.Frag) : List V → Hp → VK → Prop := fun xs H Q => ∃ p ys, xs = [.ref p] ∧ ((SqL K H p ys ∧ ∀ l, H l = none → Q (.ref l) (upd H l (.tup ys))) ∨ (SqT K H p ys ∧ Q (.ref p) H))
theorem y_tupC (b : Bu X.mg) (ha : PAD X K E [e] ht u) (hg : Gl X "tuple" := by rfl) (he : starEach [e] X.env = (false, eval e X.env) :: starEach [] X.env := by rfl) (hK : X.K = K := by rfl) : PD X K E (.Call (.Name "tuple" p) [e] [] pos) (tCB (rTupY K) ht) (dB tupD u) := by
  subst hK
  exact y_bty call_tuple_of refC_tup b.tuple (by decide +kernel) ha hg (he := he) (hpl := rfl)
theorem y_listD (b : Bu X.mg) (ha : PAD X K E [e] ht u) (hg : Gl X "list" := by rfl) (he : starEach [e] X.env = (false, eval e X.env) :: starEach [] X.env := by rfl) (hK : X.K = K := by rfl) : PD X K E (.Call (.Name "list" p) [e] [] pos) (tCB (rListY K) ht) (dB listD u) := by
  subst hK
  exact y_bty call_list_of refC_listD b.list (by decide +kernel) ha hg (he := he) (hpl := rfl)
theorem y_listP (b : Bu X.mg) (ha : PAD X K E [e] ht u) (hg : Gl X "list" := by rfl) (he : starEach [e] X.env = (false, eval e X.env) :: starEach [] X.env := by rfl) (hK : X.K = K := by rfl) : PD X K E (.Call (.Name "list" p) [e] [] pos) (tCB (rListY K) ht) (dB listP u) := by
  subst hK
  exact y_bty call_list_of refC_listP b.list (by decide +kernel) ha hg (he := he) (hpl := rfl)
/-! ### int(x), abs(x) -/
def intD : CB := fun ss ω q => match ss with
  | [.d (.int i)] => q (.d (.int i)) ω
  | [.d (.bl i)] => q (.d (.int (b2i i))) ω
  | _ => False
def absD : CB := fun ss ω q => match ss with
  | [.d (.int i)] => q (.d (.int (if i < 0 then -i else i))) ω
  | _ => False
end
end
end Y

set_option Elab.async false
set_option linter.all false
set_option maxRecDepth 100000
set_option maxHeartbeats 2000000
/-! xs.extend(a tuple) -/
namespace XE
open PySem PySem.Spec PyProof.Rows L2
theorem ext_tup (l : Addr) (items : Array Value) (n : Nat) (b : Addr) (items2 : Array Value) (n2 : Nat) (d2 : Option Addr) (sl2 : Array (Option Value)) (hs0 : ¬(!items.isEmpty && Builtin.List.listTooLong (items.size + items2.size)) = true) (hs1 : items.size ≤ sizeLine) (hs2 : items.size + items2.size ≤ sizeLine + 1) :
    Meets (Builtin.«list.extend» ⟨[.ref l, .ref b], []⟩) (fun _ R s => s.heap.get? l = some { cls := .type "list", dict := none, data := .seq items n, slots := #[] } ∧ s.heap.get? b = some { cls := .type "tuple", dict := d2, data := .seq items2 n2, slots := sl2 } ∧ R (.ok (.ret Value.none)) { s with heap := s.heap.update l (Obj.mapSeq fun x => x ++ items2) }) :=
  .of_wp fun prog w A R s h => by
    obtain ⟨hp, g, d, tk, os⟩ := s
    obtain ⟨hl, hb, h⟩ := h
    have q1 := AutoSeq1.idx_int
    have q2 := AutoSeq1.sub_tuple_tuple
    have q3 := AutoSeq1.sub_list_list
    have q4 := AutoSeq1.sub_tuple_list
    have q5 := AutoSeq1.sub_list_tuple
    have hz' : (items ++ items2).size ≤ sizeLine + 1 := by rw [Array.size_append]; exact hs2
    wp_walk using (wpAny_updateSeq hl rfl (hz := hs1) (_hz' := hz')), AutoSeq1.wpAny_loadPart' hl, AutoSeq1.wpAny_loadPart' hb; exact ⟨_, rfl, h⟩
end XE
namespace L2
open PySem PySem.Spec PyProof.Rows
section
variable {X : Cx}
/-- xs.extend(t), t a tuple -/
def rExtendT (K : PySem.W.Frag) : V → List V → Hp → VK → Prop := fun x vs H Q => ∃ l b xs zs, x = .ref l ∧ vs = [.ref b] ∧ H l = some (.lst xs) ∧ SqT K H b zs ∧ xs.length + zs.length ≤ sizeLine ∧ Q .non (upd H l (.lst (xs ++ zs)))
theorem mt_extendT : MtM X "list.extend" (rExtendT X.K) := by
  intro pins s σ H x vs v us Q I rx rv h
  obtain ⟨l, b, xs, zs, rfl, rfl, hH, hB, hz, q⟩ := h
  cases rx
  obtain ⟨u, rfl, ru⟩ := rv.one
  cases ru
  obtain ⟨z, its, n, r, hl, e⟩ := I.lstM hH
  obtain ⟨its2, r2, ⟨⟨oc, od, odt, osl⟩, e2, hc, n2, hd⟩, z2⟩ := I.tuple hB
  dsimp only at hc hd
  subst hc hd
  have hl2 := r2.length
  have hsz : its.toArray.size + its2.toArray.size ≤ sizeLine := by rw [List.size_toArray, List.size_toArray]; omega
  have hlong : ¬ (!its.toArray.isEmpty && Builtin.List.listTooLong (its.toArray.size + its2.toArray.size)) = true := by
    rw [notLongL hsz, Bool.and_false]
    exact Bool.false_ne_true
  refine call_meets F.slot_list_extend ⟨_, e, rfl⟩ F.entry_list_extend (F.args_list_extend_2 _ _)
    (XE.ext_tup l its.toArray n b its2.toArray n2 od osl hlong (by rw [List.size_toArray]; omega) (by omega)) ⟨e, e2, ?_⟩
  refine ⟨.non, _, I.lset (t' := s.toks) (its' := its ++ its2) hH e (by simp) (r.append r2) ?_, rfl, q⟩
  rw [List.length_append]
  omega
end
end L2

set_option Elab.async false
set_option linter.all false
set_option maxRecDepth 100000
set_option maxHeartbeats 2000000
namespace Y
open PySem PySem.Spec PyProof.Rows L2
/-! ### defs by name -/
structure Dfn (K : PySem.W.Frag) (mg : Str → Option Value) (x : Str) (ps : List Str) (st : Stmt) : Prop where
  ex : ∃ f fd, Fun K x x st f fd ∧ mg x = some (.ref f) ∧ Binds K fd ps []
structure Cal (P : Program) (w : World) (K : PySem.W.Frag) (mg : Str → Option Value) (base : Heap) (CX : CXT) (k : Nat) (x : Str) (ps : List Str) (sp : Sp) : Prop where
  ex : ∃ f fd, FnOk P w K mg base CX k f fd ps sp ∧ mg x = some (.ref f) ∧ PySem.W.keepIn K (.ref f) = true ∧ Binds K fd ps []
section
variable {P : Program} {w : World} {K : PySem.W.Frag} {mg : Str → Option Value} {base : Heap} {CX : CXT} {j k : Nat} {x : Str} {ps N : List Str} {sp sp' : Sp} {st : Stmt}
theorem Cal.mono (c : Cal P w K mg base CX j x ps sp) (h : j ≤ k) : Cal P w K mg base CX k x ps sp := let ⟨f, fd, F, r⟩ := c.ex; ⟨f, fd, F.mono h, r⟩
theorem Cal.imp (c : Cal P w K mg base CX k x ps sp) (h : ∀ vs H Q E, sp' vs H Q E → sp vs H Q E) : Cal P w K mg base CX k x ps sp' := let ⟨f, fd, F, r⟩ := c.ex; ⟨f, fd, F.imp h, r⟩
theorem calP {C : CP} (Dn : Dfn K mg x ps st) (Sc : FnScope N ps (defScope st)) (hlen : ∀ ds q, C ds q → ds.length = ps.length)
    (hbody : ∀ (f : Addr) (cdv : Value) (A : Around) (outer : List PySem.Env) (s : Shared) (H : Hp) (E : XK) (ds : List D) (q : D → Prop), Room k (A.deeper (envOfC x (defScope st) s.heap.objs.size f cdv)) → C ds q →
      ∃ ts td, PSsD (cxOf CX0 P w K mg base N x (defScope st) f cdv A outer s H E).nox K E0 (defBody st) ts td ∧ td (endsP q fun _ => False) (startD N (ds.map .d)) []) : Cal P w K mg base CX0 (k + 1) x ps (spP K C) := by
  obtain ⟨f, fd, F, m, b⟩ := Dn.ex
  exact ⟨f, fd, fnP F Sc hlen (hbody f), m, F.kp, b⟩
theorem calPX {C : CPX} (Dn : Dfn K mg x ps st) (Sc : FnScope N ps (defScope st)) (hlen : ∀ ds q x, C ds q x → ds.length = ps.length)
    (hbody : ∀ (f : Addr) (cdv : Value) (A : Around) (outer : List PySem.Env) (s : Shared) (H : Hp) (E : XK) (ds : List D) (q : D → Prop) (xd : XD), Room k (A.deeper (envOfC x (defScope st) s.heap.objs.size f cdv)) → C ds q xd →
      ∃ ts td, PSsD (cxOf (L2.CX P w) P w K mg base N x (defScope st) f cdv A outer s H E) K E (defBody st) ts td ∧ td (endsP q xd) (startD N (ds.map .d)) []) : Cal P w K mg base (L2.CX P w) (k + 1) x ps (spPX K C) := by
  obtain ⟨f, fd, F, m, b⟩ := Dn.ex
  exact ⟨f, fd, fnPX F Sc hlen (hbody f), m, F.kp, b⟩
theorem calG {G : CG} (Dn : Dfn K mg x ps st) (Sc : FnScope N ps (defScope st)) (hlen : ∀ ss ω q, G ss ω q → ss.length = ps.length)
    (hbody : ∀ (f : Addr) (cdv : Value) (A : Around) (outer : List PySem.Env) (s : Shared) (H : Hp) (E : XK) (ss : List S) (ω : Sto) (q : S → Sto → Prop), Room k (A.deeper (envOfC x (defScope st) s.heap.objs.size f cdv)) → G ss ω q →
      ∃ ts td, PSsD (cxOf CX0 P w K mg base N x (defScope st) f cdv A outer s H E).nox K E0 (defBody st) ts td ∧ td (endsG q fun _ => False) (startD N ss) ω) : Cal P w K mg base CX0 (k + 1) x ps (spG K G) := by
  obtain ⟨f, fd, F, m, b⟩ := Dn.ex
  exact ⟨f, fd, fnG F Sc hlen (hbody f), m, F.kp, b⟩
theorem calGX {G : CGX} (Dn : Dfn K mg x ps st) (Sc : FnScope N ps (defScope st)) (hlen : ∀ ss ω q x, G ss ω q x → ss.length = ps.length)
    (hbody : ∀ (f : Addr) (cdv : Value) (A : Around) (outer : List PySem.Env) (s : Shared) (H : Hp) (E : XK) (ss : List S) (ω : Sto) (q : S → Sto → Prop) (xd : XD), Room k (A.deeper (envOfC x (defScope st) s.heap.objs.size f cdv)) → G ss ω q xd →
      ∃ ts td, PSsD (cxOf (L2.CX P w) P w K mg base N x (defScope st) f cdv A outer s H E) K E (defBody st) ts td ∧ td (endsG q xd) (startD N ss) ω) : Cal P w K mg base (L2.CX P w) (k + 1) x ps (spGX K G) := by
  obtain ⟨f, fd, F, m, b⟩ := Dn.ex
  exact ⟨f, fd, fnGX F Sc hlen (hbody f), m, F.kp, b⟩
/-- where nothing holds, nothing is to be shown -/
theorem cal_none (Dn : Dfn K mg x ps st) (h : ∀ vs H Q E, ¬ sp vs H Q E) : Cal P w K mg base CX k x ps sp := by
  obtain ⟨f, fd, F, m, b⟩ := Dn.ex
  exact ⟨f, fd, ⟨fun vs H Q E z => absurd z (h vs H Q E), fun A outer s H args us vs Q E _ _ _ _ z => absurd z (h vs H Q E)⟩, m, F.kp, b⟩
theorem cal_noP {C : CP} (Dn : Dfn K mg x ps st) (h : ∀ ds q, ¬ C ds q) : Cal P w K mg base CX0 k x ps (spP K C) := cal_none Dn fun vs H Q E ⟨_, ds, q, _, _, _, c, _⟩ => h ds q c.1
theorem cal_noG {G : CG} (Dn : Dfn K mg x ps st) (h : ∀ ss ω q, ¬ G ss ω q) : Cal P w K mg base CX0 k x ps (spG K G) := cal_none Dn fun vs H Q E ⟨_, _, ω, ss, q, _, _, _, _, c, _⟩ => h ss ω q c.1
end
section
variable {K : PySem.W.Frag} {X : Cx} {E : XK}
variable {Φ : Phi} {B : Hp} {α : List Addr} {H : Hp} {σ : L2.St} {ρ : Env} {ω : Sto} {T : List (V × S)}
section
variable {CX : CXT} {j k : Nat} {ps : List Str} {x : Str} {e : Expr} {es : List Expr} {p pos : Pos} {u : TAD}
theorem y_cal {C : CP} (c : Cal X.prog X.w K X.mg X.base CX0 j x ps (spP K C)) (hr : Room j X.A) (ha : PAD X K E (e :: es) ht u) (hg : Gl X x := by rfl) (hdb : (x == ("__debug__" : Str)) = false := by decide)
    (he : starEach (e :: es) X.env = (false, eval e X.env) :: starEach es X.env := by rfl) (hpl : (backTo pos (starEach es X.env)).any (·.1) = false := by rfl) (hK : X.K = K := by rfl) : PD X K E (.Call (.Name x p) (e :: es) [] pos) (tCall (spP K C) [] E0 ht) (dCall C u) := by
  obtain ⟨f, fd, F, m, kp, b⟩ := c.ex
  exact y_call F hr m kp b ha hg hdb he hpl hK
theorem y_calX {C : CPX} (c : Cal X.prog X.w K X.mg X.base CX j x ps (spPX K C)) (hr : Room j X.A) (hx : Passes CX X E) (ha : PAD X K E (e :: es) ht u) (hg : Gl X x := by rfl) (hdb : (x == ("__debug__" : Str)) = false := by decide)
    (he : starEach (e :: es) X.env = (false, eval e X.env) :: starEach es X.env := by rfl) (hpl : (backTo pos (starEach es X.env)).any (·.1) = false := by rfl) (hK : X.K = K := by rfl) : PD X K E (.Call (.Name x p) (e :: es) [] pos) (tCall (spPX K C) [] E ht) (dCallX C u) := by
  obtain ⟨f, fd, F, m, kp, b⟩ := c.ex
  exact y_callX F hr m kp b hx ha hg hdb he hpl hK
theorem y_calG {G : CG} (c : Cal X.prog X.w K X.mg X.base CX0 j x ps (spG K G)) (hr : Room j X.A) (ha : PAD X K E (e :: es) ht u) (hg : Gl X x := by rfl) (hdb : (x == ("__debug__" : Str)) = false := by decide)
    (he : starEach (e :: es) X.env = (false, eval e X.env) :: starEach es X.env := by rfl) (hpl : (backTo pos (starEach es X.env)).any (·.1) = false := by rfl) (hK : X.K = K := by rfl) : PD X K E (.Call (.Name x p) (e :: es) [] pos) (tCall (spG K G) [] E0 ht) (dCallG G u) := by
  obtain ⟨f, fd, F, m, kp, b⟩ := c.ex
  exact y_callG F hr m kp b ha hg hdb he hpl hK
theorem y_calGX {G : CGX} (c : Cal X.prog X.w K X.mg X.base CX j x ps (spGX K G)) (hr : Room j X.A) (hx : Passes CX X E) (ha : PAD X K E (e :: es) ht u) (hg : Gl X x := by rfl) (hdb : (x == ("__debug__" : Str)) = false := by decide)
    (he : starEach (e :: es) X.env = (false, eval e X.env) :: starEach es X.env := by rfl) (hpl : (backTo pos (starEach es X.env)).any (·.1) = false := by rfl) (hK : X.K = K := by rfl) : PD X K E (.Call (.Name x p) (e :: es) [] pos) (tCall (spGX K G) [] E ht) (dCallGX G u) := by
  obtain ⟨f, fd, F, m, kp, b⟩ := c.ex
  exact y_callGX F hr m kp b hx ha hg hdb he hpl hK
end
/-! ### o.m(..), o a list, a dict, a text -/
abbrev FM := S → List S → Sto → (S → Sto → Prop) → Prop
def tyOk (T : String) (s : S) (ω : Sto) : Prop := match s with
  | .d (.str _) => T = "str"
  | .d (.lst _) => T = "list"
  | .pin j => match ω[j]? with
    | some (.lst _) => T = "list"
    | some (.dK _) => T = "dict"
    | some (.dT _) => T = "dict"
    | _ => False
  | _ => False
theorem ty_ok {Ty : String} {v : V} {s : S} (sb : StB Φ K B α H σ ρ ω T) (r : RS K α B v s) (h : tyOk Ty s ω) : tyV K Ty v H := by
  unfold tyOk at h
  split at h
  · rw [show v = .str _ from r_str r]; exact h
  · obtain ⟨a, xs, e, ha, ra⟩ := r_lst r
    subst e
    exact .inl ⟨h, xs, SqL.of (sb.fr.bh _ _ ha)⟩
  · split at h
    · rename_i e
      obtain ⟨a, rfl, ha, _, xs, ex, rp⟩ := pin_of sb r e
      exact .inl ⟨h, xs, SqL.of ex⟩
    · rename_i e
      obtain ⟨a, rfl, ha, _, xs, ex, rp⟩ := pin_of sb r e
      exact .inr (.inr (.inl ⟨h, .inl ⟨xs, ex⟩⟩))
    · rename_i e
      obtain ⟨a, rfl, ha, _, xs, ex, rp⟩ := pin_of sb r e
      exact .inr (.inr (.inl ⟨h, .inr ⟨xs, ex⟩⟩))
    · exact h.elim
  · exact h.elim
def RefM (K : PySem.W.Frag) (r : V → List V → Hp → VK → Prop) (f : FM) : Prop := ∀ (Φ : Phi) (B : Hp) (α : List Addr) (H : Hp) (σ : L2.St) (ρ : Env) (ω : Sto) (T : List (V × S)) (v : V) (s : S) (vs : List V) (ss : List S) (q : S → Sto → Prop) (Q : VK), StB Φ K B α H σ ρ ω T → RS K α B v s → Paired (RS K α B) vs ss →
  (∀ s ω' v H', q s ω' → St Φ K H' σ ρ ω' ((v, s) :: T) → Q v H') → f s ss ω q → r v vs H Q
def dMt (Ty : String) (f : FM) (t : TD) (u : TAD) : TD := fun ρ ω q x => t ρ ω (fun s ω1 => tyOk Ty s ω1 ∧ u ρ ω1 (fun ss ω2 => f s ss ω2 q) x) x
def dMt0 (Ty : String) (f : FM) (t : TD) : TD := fun ρ ω q x => t ρ ω (fun s ω1 => tyOk Ty s ω1 ∧ f s [] ω1 q) x
section
variable {o e : Expr} {es : List Expr} {t : TD} {u : TAD} {name : Str} {apos cpos : Pos} {Ty id : String} {r : V → List V → Hp → VK → Prop} {f : FM}
theorem y_bm0 (pa : PlainAttrs Ty) (slot : Slot Ty name id) (hty : typeOf (.builtin id) = pure (.type "method_descriptor")) (hm : MtR X id r) (hf : RefM K r f) (h0 : PD X K E o ht t)
    (hbase : attributeBase o name X.env (eval o X.env) = eval o X.env := by rfl) (hline : (apos.endLine == cpos.line) = true := by rfl) (hK : X.K = K := by rfl) : PD X K E (.Call (.Attribute o name apos) [] [] cpos) (tBM0 K Ty r ht) (dMt0 Ty f t) := by
  subst hK
  refine ⟨pe_bm0 pa slot hty hm h0.p hbase hline, fun Φ H σ ρ ω T q Q x s hx k h => h0.r Φ H σ ρ ω T _ _ x s hx (fun s1 ω1 v H1 h ⟨B, α, sb⟩ => ?_) h⟩
  have rv := sb.tm (v, s1) List.mem_cons_self
  exact ⟨ty_ok sb rv h.1, hf _ B α H1 σ ρ ω1 _ v s1 [] [] q Q sb rv .nil (fun s ω' v' H' hq st => k _ _ _ _ hq (drop_mid (U := [(v, s1)]) st)) h.2⟩
theorem y_bm (pa : PlainAttrs Ty) (slot : Slot Ty name id) (hty : typeOf (.builtin id) = pure (.type "method_descriptor")) (hm : MtR X id r) (hf : RefM K r f) (h0 : PD X K E o ht t) (ha : PAD X K E (e :: es) hu u)
    (hbase : attributeBase o name X.env (eval o X.env) = eval o X.env := by rfl)
    (hfew : ((backTo cpos (starEach (e :: es) X.env)).all (fun x => !x.1) && (backToKw cpos (keywordEach [] X.env)).all (fun x => x.1.isSome)
      && decide ((e :: es).length + ([] : List Keyword).length + (if ([] : List Keyword).isEmpty then 0 else 1) < 30)) = true := by rfl)
    (hline : (apos.endLine == cpos.line) = true := by rfl) (hs : starEach (e :: es) X.env = (false, eval e X.env) :: starEach es X.env := by rfl) (hplain : (backTo cpos (starEach es X.env)).any (·.1) = false := by rfl) (hK : X.K = K := by rfl) :
    PD X K E (.Call (.Attribute o name apos) (e :: es) [] cpos) (tBM K Ty r ht hu) (dMt Ty f t u) := by
  subst hK
  refine ⟨pe_bm pa slot hty hm h0.p ha.p hbase hfew hline hs hplain, fun Φ H σ ρ ω T q Q x s hx k h => h0.r Φ H σ ρ ω T _ _ x s hx (fun s1 ω1 v H1 h ⟨B, α, sb⟩ => ?_) h⟩
  have rv := sb.tm (v, s1) List.mem_cons_self
  refine ⟨ty_ok sb rv h.1, ha.r Φ H1 σ ρ ω1 _ _ _ x sb.st hx (fun ss ω2 vs H2 h l ⟨B2, α2, sb2⟩ => ?_) h.2⟩
  exact hf _ B2 α2 H2 σ ρ ω2 _ v s1 vs ss q Q sb2 (sb2.tm (v, s1) (by simp)) (St.pair sb2 l) (fun s ω' v' H' hq st => k _ _ _ _ hq (st.sub fun p hp => by
    rcases List.mem_cons.mp hp with rfl | hp
    · simp
    · simp [hp])) h
end
/-- a cell is written -/
theorem StB.writeC (s : StB Φ K B α H σ ρ ω T) {j : Nat} {a : Addr} {c' : Cell} {o : HO} (ha : α[j]? = some a) (hb : B a = none) (hc : CellOk K α B (upd H a o) a c') : StB Φ K B α (upd H a o) σ ρ (ω.set j c') T := by
  obtain ⟨f, w⟩ := Frame.write s.fr.bh s.wd ha hb o hc
  exact s.step f w
def appD : FM := fun s ss ω q => match s, ss with
  | .pin j, [y] => match ω[j]? with
    | some (.lst xs) => xs.length < 1000000 ∧ q (.d .non) (ω.set j (.lst (xs ++ [y])))
    | _ => False
  | _, _ => False
theorem refM_app : RefM K rAppend appD := fun Φ B α H σ ρ ω T v s vs ss q Q sb r rr k h => by
  unfold appD at h
  split at h
  · obtain ⟨w, rfl, r2⟩ := pair1 rr
    split at h
    · rename_i e
      obtain ⟨a, rfl, ha, nb, xs, ex, rp⟩ := pin_of sb r e
      refine ⟨a, xs, w, rfl, rfl, ex, Nat.lt_of_lt_of_le (by rw [Paired.length rp]; exact h.1) (lineB (Nat.le_refl _)), k _ _ _ _ h.2 ?_⟩
      exact (sb.writeC (c' := .lst _) (o := .lst _) ha nb ⟨nb, _, upd_same, paired_app rp (.cons r2 .nil)⟩).st.push fun _ => .non
    · exact h.elim
  · exact h.elim
def popD : FM := fun s ss ω q => match s, ss with
  | .pin j, [] => match ω[j]? with
    | some (.lst xs) => match xs[xs.length - 1]? with
      | some y => q y (ω.set j (.lst xs.dropLast))
      | none => False
    | _ => False
  | _, _ => False
theorem paired_dl {α β : Type} {F : α → β → Prop} {l : List α} {m : List β} (h : Paired F l m) : Paired F l.dropLast m.dropLast := by
  induction h with
  | nil => exact .nil
  | cons h t ih =>
    cases t with
    | nil => exact .nil
    | cons h2 t2 => exact .cons h ih
theorem refM_pop : RefM K rPop popD := fun Φ B α H σ ρ ω T v s vs ss q Q sb r rr k h => by
  unfold popD at h
  split at h
  · cases rr
    split at h
    · rename_i e
      obtain ⟨a, rfl, ha, nb, xs, ex, rp⟩ := pin_of sb r e
      split at h
      · rename_i y ey
        obtain ⟨w, ew, rw⟩ := paired_get rp ey
        refine ⟨a, xs, w, rfl, rfl, ex, by rw [Paired.length rp]; exact ew, k _ _ _ _ h ?_⟩
        exact ((sb.writeC (c' := .lst _) (o := .lst _) ha nb ⟨nb, _, upd_same, paired_dl rp⟩).push rw).st
      · exact h.elim
    · exact h.elim
  · exact h.elim
/-- what a list is made longer by -/
def itemsOf (s : S) (ω : Sto) : Option (List S) := match s with
  | .d (.tup ds) => some (ds.map .d)
  | .d (.lst ds) => some (ds.map .d)
  | .pin j => match ω[j]? with
    | some (.lst ss) => some ss
    | _ => none
  | _ => none
def extD : FM := fun s ss ω q => match s, ss with
  | .pin j, [y] => match ω[j]?, itemsOf y ω with
    | some (.lst xs), some ys => xs.length + ys.length ≤ 1000000 ∧ q (.d .non) (ω.set j (.lst (xs ++ ys)))
    | _, _ => False
  | _, _ => False
def rExtY (K : PySem.W.Frag) : V → List V → Hp → VK → Prop := fun x vs H Q => rExtend x vs H Q ∨ rExtendT K x vs H Q
theorem mt_extY : MtR X "list.extend" (rExtY X.K) := MtR.or mt_extend mt_extendT
theorem refM_ext : RefM K (rExtY K) extD := fun Φ B α H σ ρ ω T v s vs ss q Q sb r rr k h => by
  unfold extD at h
  split at h
  · obtain ⟨w, rfl, r2⟩ := pair1 rr
    split at h
    · rename_i e e2
      obtain ⟨a, rfl, ha, nb, xs, ex, rp⟩ := pin_of sb r e
      have fin : ∀ {zs : List V} {ys : List S}, Paired (RS K α B) zs ys → q (.d .non) (ω.set _ (.lst (_ ++ ys))) → Q .non (upd H a (.lst (xs ++ zs))) := fun rz hq => k _ _ _ _ hq ((sb.writeC (c' := .lst _) (o := .lst _) ha nb ⟨nb, _, upd_same, paired_app rp rz⟩).st.push fun _ => .non)
      have lx := Paired.length rp
      unfold itemsOf at e2
      split at e2
      · cases e2
        obtain ⟨b, zs, rfl, hb, rb⟩ := r_tup r2
        have lz := rb.len
        exact .inr ⟨a, b, xs, zs, rfl, rfl, ex, SqT.of (sb.fr.bh _ _ hb), lineB (by have := h.1; rw [List.length_map] at this; omega), fin (rs_pairA rb) h.2⟩
      · cases e2
        obtain ⟨b, zs, rfl, hb, rb⟩ := r_lst r2
        have lz := rb.len
        exact .inl ⟨a, b, xs, zs, rfl, rfl, ex, sb.fr.bh _ _ hb, lineB (by have := h.1; rw [List.length_map] at this; omega), fin (rs_pairA rb) h.2⟩
      · split at e2
        · rename_i e3
          cases e2
          obtain ⟨b, rfl, hb, _, zs, ez, rz⟩ := pin_of sb r2 e3
          have lz := Paired.length rz
          exact .inl ⟨a, b, xs, zs, rfl, rfl, ex, ez, lineB (by have := h.1; omega), fin rz h.2⟩
        · cases e2
      · cases e2
    · exact h.elim
  · exact h.elim
section
variable {o e : Expr} {t : TD} {u : TAD} {apos cpos : Pos}
theorem y_append (h0 : PD X K E o ht t) (ha : PAD X K E [e] hu u) (hbase : attributeBase o "append" X.env (eval o X.env) = eval o X.env := by rfl)
    (hfew : ((backTo cpos (starEach [e] X.env)).all (fun x => !x.1) && (backToKw cpos (keywordEach [] X.env)).all (fun x => x.1.isSome) && decide (([e] : List Expr).length + ([] : List Keyword).length + (if ([] : List Keyword).isEmpty then 0 else 1) < 30)) = true := by rfl)
    (hline : (apos.endLine == cpos.line) = true := by rfl) (hs : starEach [e] X.env = (false, eval e X.env) :: starEach [] X.env := by rfl) (hK : X.K = K := by rfl) : PD X K E (.Call (.Attribute o "append" apos) [e] [] cpos) (tBM K "list" rAppend ht hu) (dMt "list" appD t u) :=
  y_bm PySem.F.plainAttrs_list PySem.F.slot_list_append PySem.F.type_list_append mt_append refM_app h0 ha hbase hfew hline hs rfl hK
theorem y_extend (h0 : PD X K E o ht t) (ha : PAD X K E [e] hu u) (hbase : attributeBase o "extend" X.env (eval o X.env) = eval o X.env := by rfl)
    (hfew : ((backTo cpos (starEach [e] X.env)).all (fun x => !x.1) && (backToKw cpos (keywordEach [] X.env)).all (fun x => x.1.isSome) && decide (([e] : List Expr).length + ([] : List Keyword).length + (if ([] : List Keyword).isEmpty then 0 else 1) < 30)) = true := by rfl)
    (hline : (apos.endLine == cpos.line) = true := by rfl) (hs : starEach [e] X.env = (false, eval e X.env) :: starEach [] X.env := by rfl) (hK : X.K = K := by rfl) : PD X K E (.Call (.Attribute o "extend" apos) [e] [] cpos) (tBM K "list" (rExtY K) ht hu) (dMt "list" extD t u) := by
  subst hK
  exact y_bm PySem.F.plainAttrs_list PySem.F.slot_list_extend PySem.F.type_list_extend mt_extY refM_ext h0 ha hbase hfew hline hs rfl rfl
theorem y_pop (h0 : PD X K E o ht t) (hbase : attributeBase o "pop" X.env (eval o X.env) = eval o X.env := by rfl) (hline : (apos.endLine == cpos.line) = true := by rfl) (hK : X.K = K := by rfl) : PD X K E (.Call (.Attribute o "pop" apos) [] [] cpos) (tBM0 K "list" rPop ht) (dMt0 "list" popD t) :=
  y_bm0 PySem.F.plainAttrs_list PySem.F.slot_list_pop PySem.F.type_list_pop mt_pop refM_pop h0 hbase hline hK
end
/-! ### dicts that change -/
def dNewK : TD := fun _ ω q _ => q (.pin ω.length) (ω ++ [.dK []])
def dNewT : TD := fun _ ω q _ => q (.pin ω.length) (ω ++ [.dT []])
theorem StB.newC (s : StB Φ K B α H σ ρ ω T) {p : Addr} (hp : H p = none) {o : HO} {c : Cell} (hc : CellOk K (α ++ [p]) B (upd H p o) p c) : St Φ K (upd H p o) σ ρ (ω ++ [c]) ((.ref p, .pin ω.length) :: T) := by
  obtain ⟨f, w⟩ := Frame.fresh s.fr.bh s.wd hp o hc
  exact ⟨_, _, (s.step f w).push ⟨p, by rw [← s.wd.len]; simp, rfl⟩⟩
theorem y_dnewK {pos : Pos} : PD X K E (.Dict [] [] pos) tDNewK dNewK := ⟨pe_dnewK, fun Φ H σ ρ ω T q Q x ⟨B, α, sb⟩ hx k h p hp => k _ _ _ _ h (sb.newC (c := .dK []) hp ⟨sb.fr.bh.free hp, [], upd_same, .nil⟩)⟩
theorem y_dnewT {pos : Pos} : PD X K E (.Dict [] [] pos) tDNewT dNewT := ⟨pe_dnewT, fun Φ H σ ρ ω T q Q x ⟨B, α, sb⟩ hx k h p hp => k _ _ _ _ h (sb.newC (c := .dT []) hp ⟨sb.fr.bh.free hp, [], upd_same, .nil⟩)⟩
def putC (c : Cell) (d : D) (s : S) : Option Cell := match c with
  | .dK kvs => (keyOf d).map fun k => .dK (putS kvs k s)
  | .dT kvs => match d with
    | .tup ds => (keysOf ds).map fun k => .dT (putS kvs k s)
    | _ => none
  | _ => none
def sizeC : Cell → Nat
  | .dK kvs => kvs.length
  | .dT kvs => kvs.length
  | .lst ss => ss.length
  | _ => 0
def putD (o i y : S) (ω : Sto) (k : Sto → Prop) : Prop := match o, i with
  | .pin j, .d d => match ω[j]? with
    | some c => match putC c d y with
      | some c' => sizeC c < 1000000 ∧ k (ω.set j c')
      | none => False
    | none => False
  | _, _ => False
theorem put_ok {v1 v2 v3 : V} {o i y : S} {k : Sto → Prop} (sb : StB Φ K B α H σ ρ ω T) (r1 : RS K α B v1 o) (r2 : RS K α B v2 i) (r3 : RS K α B v3 y) (h : putD o i y ω k) : ∃ a H', v1 = .ref a ∧ DPut H a v2 v3 H' ∧ ∃ ω', k ω' ∧ StB Φ K B α H' σ ρ ω' T := by
  unfold putD at h
  split at h
  · rename_i j d
    cases ec : ω[j]? with
    | none => simp only [ec] at h
    | some c =>
      obtain ⟨a, rfl, ha, hc⟩ := pin_of sb r1 ec
      simp only [ec] at h
      cases ep : putC c d y with
      | none => simp only [ep] at h
      | some c' =>
        simp only [ep] at h
        unfold putC at ep
        split at ep
        · rename_i kvs
          obtain ⟨nb, ys, e, rk⟩ := hc
          obtain ⟨key, hk, rfl⟩ := Option.map_eq_some_iff.mp ep
          rw [r_key hk r2]
          exact ⟨a, _, rfl, DPut.k e (Nat.lt_of_lt_of_le (by rw [rk.len]; exact h.1) (lineB (Nat.le_refl _))), _, h.2, sb.writeC ha nb ⟨nb, _, upd_same, rk.put r3⟩⟩
        · rename_i kvs
          split at ep
          · rename_i ds
            obtain ⟨nb, ys, e, rk⟩ := hc
            obtain ⟨key, hk, rfl⟩ := Option.map_eq_some_iff.mp ep
            obtain ⟨b, xs, rfl, hb, rb⟩ := r_tup r2
            rw [rs_keys hk rb] at hb
            exact ⟨a, _, rfl, DPut.t e (sb.fr.bh _ _ hb) (Nat.lt_of_lt_of_le (by rw [rk.len]; exact h.1) (lineB (Nat.le_refl _))), _, h.2, sb.writeC ha nb ⟨nb, _, upd_same, rk.put r3⟩⟩
          · cases ep
        · cases ep
  · exact h.elim
def dPutS (td ty tv : TD) : TSD := fun ed ρ ω => tv ρ ω (fun y ω1 => td ρ ω1 (fun o ω2 => ty ρ ω2 (fun i ω3 => putD o i y ω3 (ed.nx ρ)) ed.x) ed.x) ed.x
theorem y_dput {o i value : Expr} {td ty tv : TD} {pos' pos : Pos} (hu : X.A.units + 1 < cLine) (h1 : PD X K E o h1t td) (h2 : PD X K E i h2t ty) (h3 : PD X K E value h3t tv) (hs : swapsWith value (some (.Subscript o i pos')) pos.line X.env = pure false := by rfl) :
    PSD X K E (.Assign [.Subscript o i pos'] value pos) (sDPut h1t h2t h3t) (dPutS td ty tv) :=
  ⟨ps_dput hu h1.p h2.p h3.p hs, fun Φ H σ ρ ω T En ed s l h => h3.r Φ H σ ρ ω T _ _ _ s l.x (fun y ω1 v1 H1 h st1 => h1.r Φ H1 σ ρ ω1 _ _ _ _ st1 l.x (fun o ω2 v2 H2 h st2 => h2.r Φ H2 σ ρ ω2 _ _ _ _ st2 l.x (fun i ω3 v3 H3 h ⟨B, α, sb⟩ => by
    obtain ⟨a, H', e, dp, ω', hk, sb'⟩ := put_ok sb (sb.tm (v2, o) (by simp)) (sb.tm (v3, i) (by simp)) (sb.tm (v1, y) (by simp)) h
    exact ⟨a, H', e, dp, l.nx _ _ _ _ hk (sb'.st.sub fun p hp => by simp [hp])⟩) h) h) h⟩
end
end Y

set_option Elab.async false
set_option linter.all false
set_option maxRecDepth 100000
set_option maxHeartbeats 1000000
/-! d.get(k, x), d a written dict whose keys are texts -/
namespace L2
open PySem PySem.Spec PyProof.Rows
/-- what a written dict has at a text -/
def KAt (K : PySem.W.Frag) (w : World) (a : Addr) (x : Str) (o : Option V) : Prop :=
  ∃ es n r, K.lookup a = some ⟨.type "dict", none, .dict es n, #[]⟩ ∧ PySem.W.KeysLit w.params es.toList ∧ (a == sysModules) = false ∧ PySem.W.nsIn K a x = some r ∧ RelO o r
def tKGet2 (K : PySem.W.Frag) (w : World) (td ty tx : TE) : TE := fun σ H Q => td σ H fun x H1 => ∃ a, x = .ref a ∧ (∃ y o, KAt K w a y o) ∧ ty σ H1 fun y H2 => tx σ H2 fun z H3 => ∃ k o, y = .str k ∧ KAt K w a k o ∧ Q (o.getD z) H3
section
variable {X : Cx} {o e f : Expr} {apos cpos : Pos} {td ty tx : TE}
theorem pe_kget2 (ho : PE X o td) (he : PE X e ty) (hf : PE X f tx) (m : M2 X o "get" apos e f cpos) : PE X (.Call (.Attribute o "get" apos) [e, f] [] cpos) (tKGet2 X.K X.w td ty tx) := by
  refine ⟨fun pins s σ H Q I h => ?_⟩
  refine wpAny_Call_method m.base m.few m.line PySem.F.plainAttrs_dict PySem.F.slot_dict_get PySem.F.type_dict_get (thn (ho.run pins s σ H _ I h) fun u s1 ⟨x, H1, I1, rx, a, ex, d, q1⟩ => ?_)
  subst ex
  obtain rfl : u = Value.ref a := rx
  obtain ⟨_, _, es, n, _, hl, hk, _, _, _⟩ := d
  have hm1 := PySem.W.mapOf_K (prog := X.prog) (w := X.w) I1.kIn hl hk
  refine ⟨hm1.typeIs, fun b q => ?_, ?_⟩
  · cases q
    exact ⟨_, I1.kIn _ _ hl, rfl⟩
  rw [m.trees]
  refine Calls.callWith_builtin rfl (Calls.evalArgs_plain (Calls.spliced_cons (thn (he.run pins s1 σ H1 _ I1 q1) fun iv s2 ⟨y, H2, I2, ry, q2⟩ =>
    Calls.spliced_cons (thn (hf.run pins s2 σ H2 _ I2 q2) fun fv s3 ⟨z, H3, I3, rz, k, ov, ey, g, q3⟩ => Calls.spliced_nil ?_))))
  subst ey
  obtain ⟨es2, n2, r, hl2, hk2, low, hn, ro⟩ := g
  obtain ⟨t, rfl⟩ := (show ∃ t, iv = Value.str k t from ry)
  have hm := PySem.W.mapOf_K (prog := X.prog) (w := X.w) I3.kIn hl2 hk2
  refine call_meetsIn PySem.F.slot_dict_get hm.typeIs PySem.F.entry_dict_get (PySem.F.args_dict_get_3 _ _ _) (meets_dict_get_default (strKind X.prog X.w) a (strKind_is X.prog X.w k t) low fv) ⟨_, hm, ?_⟩
  have hf' := PySem.W.find_K hl2 hn
  refine ⟨_, H3, I3.tok _, ?_, q3⟩
  show RelV (ov.getD z) ((PySem.findBy Value.isStrOf es2 k).getD fv)
  rw [hf']
  exact ro.getD rz
end
end L2

set_option Elab.async false
set_option linter.all false
set_option maxRecDepth 100000
set_option maxHeartbeats 1000000
/-! list(reversed(t)), t a tuple -/
namespace XR
open PySem PySem.Spec PyProof.Rows RT

theorem no_len : typeLookup (.type "reversed") "__len__" = pure none := by rw [typeLookup_type, builtinLookup_eq_fast]; kernel_rfl
theorem has_hint : typeLookup (.type "reversed") "__length_hint__" = pure (some (.builtin "reversed.__length_hint__")) := by rw [typeLookup_type, builtinLookup_eq_fast]; kernel_rfl
theorem slot_hint : Slot "reversed" "__length_hint__" "reversed.__length_hint__" :=
  .of (owner := "reversed") (n := "__length_hint__") has_hint (by decide +kernel) (by decide +kernel) (by decide +kernel)
    (by first | exact .inl (by decide +kernel) | exact .inr (by decide +kernel)) (by rw [isSubtype_type]; kernel_rfl)
theorem entry_hint : entryFor table "reversed.__length_hint__" = some Builtin.«reversed.__length_hint__» := entryFor_of_tree (by kernel_rfl)
theorem args_hint (a : Value) : argsOk "reversed.__length_hint__" ⟨[a], []⟩ := by
  unfold argsOk
  kernel_rfl
theorem type_hint : typeOf (.builtin "reversed.__length_hint__") = pure (.type "method_descriptor") := by kernel_rfl
theorem rtWalks {prog : Program} {w : World} {A : Around} (hh : A.handled = none) (I t : Addr) (hne : t ≠ I) (items : Array Value) (hsz : items.size ≤ sizeLine) :
    Walks prog w A I [I, t] [I] items.size (fun i v => items[items.size - 1 - i]? = some v) (fun i h => i ≤ items.size ∧ IsRt h I t ((items.size : Int) - 1 - (i : Int)) ∧ IsTup h t items) where
  sub := fun b hb => by simp at hb; simp [hb]
  frame := fun _ _ _ x hk => ⟨x.1, x.2.1.at fun o e => hk I (by simp) o e, let ⟨o, ho, r⟩ := x.2.2; ⟨o, hk t (by simp) o ho, r⟩⟩
  item := fun i s Q E hi x hQ => by
    have e : (items.size : Int) - 1 - (i : Int) = ((items.size - 1 - i : Nat) : Int) := by omega
    have hit := x.2.1
    rw [e] at hit
    have hx : items[items.size - 1 - i]? = some (items[items.size - 1 - i]'(by omega)) := Array.getElem?_eq_getElem (by omega)
    refine next_rt_item hit x.2.2 hx hsz fun h' hit' hs' => ?_
    have e2 : ((items.size - 1 - i : Nat) : Int) - 1 = (items.size : Int) - 1 - ((i + 1 : Nat) : Int) := by omega
    rw [e2] at hit'
    obtain ⟨o, ho, r⟩ := x.2.2
    exact hQ _ h' (s.toks + 1) hx ⟨hi, hit', ⟨o, (hs'.2 t hne).trans ho, r⟩⟩ fun b o hb eo => hs'.extBut b o (fun h => hb (by simp [h])) eo
  done := fun s Q E x hQ => by
    have e : (items.size : Int) - 1 - (items.size : Int) = -1 := by omega
    have hit := x.2.1
    rw [e] at hit
    exact next_rt_end hh hit fun h' he' => hQ h' s.toks fun b o hb eo => he' b o (fun h => hb (by simp [h])) eo
  self := fun _ _ _ _ x hQ => iter_rt x.2.1 hQ
section
variable {prog : Program} {w : World} {A : Around} {E : Value → Shared → Prop} {s : Shared}
theorem hint_call {it t : Addr} {items : Array Value} {Q : Value → Shared → Prop} (hit : IsRt s.heap it t ((items.size : Int) - 1)) (ht : IsTup s.heap t items) (hz : items.size ≤ sizeLine)
    (h : ∀ k tk, Q (.int (items.size : Int) k) { s with toks := tk }) : wpAny (model prog w) A (call (.builtin "reversed.__length_hint__") [.ref it]) Q E s := by
  obtain ⟨o, ho, hc, hd⟩ := id hit
  refine wpAny_call_entry slot_hint hit.typeIs entry_hint ?_ (args_hint _)
  unfold Builtin.«reversed.__length_hint__»
  refine wpAny_bind (wpAny_of_eq (a := Value.ref it) (by first | rfl | kernel_rfl) ?_)
  try dsimp only
  refine wpAny_bind (wpAny_field ho hd (x := .ref t) rfl ?_)
  show wpAny _ _ (call (.builtin "len") [.ref t] >>= _) _ _ s
  rw [sizeLine_eq] at hz
  refine wpAny_bind (PyProof.Rows.len_tuple ht (by omega) ?_)
  refine wpAny_bind (wpAny_of_eq (a := some ((items.size : Nat) : Int)) rfl ?_)
  try dsimp only
  refine wpAny_bind (wpAny_field (s := { s with toks := s.toks + 1 + 1 }) ho hd (x := rawInt ((items.size : Int) - 1)) rfl ?_)
  show wpAny _ _ (if ((items.size : Nat) : Int) < (items.size : Int) - 1 + 1 then _ else _) _ _ _
  rw [if_neg (by omega)]
  have e : (items.size : Int) - 1 + 1 = (items.size : Int) := by omega
  rw [e]
  first
    | exact wpAny_bind (wpAny_mkInt (wpAny_pure ⟨_, rfl, h _ _⟩))
    | (unfold retInt; exact wpAny_bind (wpAny_mkInt (wpAny_pure ⟨_, rfl, h _ _⟩)))
theorem extend_rt {R : Result → Shared → Prop} (hh : A.handled = none) {it t : Addr} {items : Array Value} (hit : IsRt s.heap it t ((items.size : Int) - 1)) (ht : IsTup s.heap t items) (hti : t ≠ it) (hz : items.size ≤ sizeLine)
    (S : Addr) (res : Value) (c0 : Nat) (hS : s.heap.get? S = some { cls := .type "list", data := .seq #[] c0 }) (hSi : S ≠ it) (hSt : S ≠ t)
    (hR : ∀ h' tk acc' c', (∀ b o, b ≠ S → b ≠ it → s.heap.get? b = some o → h'.get? b = some o) → h'.get? S = some { cls := .type "list", dict := none, data := .seq acc' c', slots := #[] } →
      ItemsOf (fun i v => items[items.size - 1 - i]? = some v) acc' items.size → R (.ok (.ret res)) { s with heap := h', toks := tk }) :
    wpAny (model prog w) A.in1 (Builtin.List.listExtendWith (.ref S) (.ref it) res)
      (fun fin s' => match fin with | .done f => R (.ok f) s' | .again c' => c'.quiet = true ∧ codeAny (model prog w) A c' R s') (fun e s' => R (.error e) s') s := by
  have hSf : S ∉ [it, t] := by simp only [List.mem_cons, List.not_mem_nil, or_false, not_or]; exact ⟨hSi, hSt⟩
  have hT : s.TypeIs (.ref it) "reversed" := hit.typeIs
  have W := (rtWalks (prog := prog) (w := w) (A := A.in1) hh it t hti items hz).toS
  have e0 : ((items.size : Nat) : Int) - 1 - ((0 : Nat) : Int) = (items.size : Int) - 1 := by omega
  unfold Builtin.List.listExtendWith
  refine wpAny_bind (wpAny_typeOf hT ?_)
  have h1 : Builtin.List.listSameRef (.ref S) (.ref it) = false := by simp [Builtin.List.listSameRef, hSi]
  rw [if_neg (by rw [h1]; decide)]
  refine wpAny_bind (iter_rt hit ?_)
  refine wpAny_bind (wpAny_holding ?_)
  unfold Builtin.List.listLengthHint
  refine wpAny_bind (wpAny_specialOf hT no_len ?_)
  show wpAny _ _ (specialOf (Value.ref it) (Str.ofString "__length_hint__") >>= _) _ _ _
  refine wpAny_bind (wpAny_specialOf hT has_hint ?_)
  generalize hid : ("reversed.__length_hint__" : String) = id0
  wp_delta
  rw [show splitId id0 = some ("reversed", "__length_hint__") from by subst hid; decide +kernel]
  subst hid
  refine wpAny_bind (wpAny_isInstance (b := true) hT F.sub_reversed_self ?_)
  show wpAny _ _ (rule "list.length-hint.hint" >>= _) _ _ _
  refine wpAny_bind (wpAny_rule ?_)
  have hbind : bindSpecial (.builtin "reversed.__length_hint__") (.ref it) = pure (.builtin "reversed.__length_hint__", [.ref it]) := by
    unfold bindSpecial
    rw [type_hint]
    rfl
  refine wpAny_bind (wpAny_of_eq hbind ?_)
  refine wpAny_bind (wpAny_attempt (hint_call hit ht hz fun k tk => ?_))
  show wpAny _ _ (asInt? (Value.int ((items.size : Nat) : Int) k) >>= _) _ _ _
  have ha : asInt? (Value.int ((items.size : Nat) : Int) k) = pure (some ((items.size : Nat) : Int)) := rfl
  rw [ha, pure_bind]
  rw [sizeLine_eq] at hz
  have f1 : Builtin.List.listFitsIndex ((items.size : Nat) : Int) = true := by
    unfold Builtin.List.listFitsIndex
    simp only [Bool.and_eq_true, decide_eq_true_eq]
    omega
  have f2 : Builtin.List.listTooLong (((items.size : Nat) : Int)).toNat = false := by
    unfold Builtin.List.listTooLong
    rw [sizeLine_eq]
    simp only [decide_eq_false_iff_not]
    omega
  dsimp only
  rw [if_neg (show ¬ (!Builtin.List.listFitsIndex ((items.size : Nat) : Int)) = true by rw [f1]; decide), if_neg (show ¬ ((items.size : Nat) : Int) < 0 by omega), if_neg (show ¬ Builtin.List.listTooLong (((items.size : Nat) : Int)).toNat = true by rw [f2]; decide)]
  refine wpAny_pure ?_
  have fin : ∀ (h2 : Heap), h2.get? S = some { cls := .type "list", dict := none, data := .seq #[] c0, slots := #[] } ∨ (∃ c1, h2.get? S = some { cls := .type "list", dict := none, data := .seq #[] c1, slots := #[] }) →
      (∀ b o, b ≠ S → s.heap.get? b = some o → h2.get? b = some o) →
      (fun fin s' => match fin with | .done f => R (.ok f) s' | .again c' => c'.quiet = true ∧ codeAny (model prog w) A c' R s') (PySem.Fin.again (.builtin "list.extend.loop" ⟨[.ref S, .ref it, res], []⟩)) { s with heap := h2, toks := tk } := by
    intro h2 hS2 k2
    obtain ⟨c1, hS2⟩ : ∃ c1, h2.get? S = some { cls := .type "list", dict := none, data := .seq #[] c1, slots := #[] } := by
      rcases hS2 with z | z
      · exact ⟨_, z⟩
      · exact z
    obtain ⟨ot, hot, rt⟩ := ht
    refine ⟨plainId_quiet F.plain_extend_loop _, codeAny_extend_loopS W (by rw [sizeLine_eq]; omega) S hSf res items.size 0 { s with heap := h2, toks := tk } #[] c1 rfl (Nat.zero_le _)
      ⟨Nat.zero_le _, by rw [e0]; exact hit.at fun o e => k2 it o (Ne.symm hSi) e, ⟨ot, k2 t ot (Ne.symm hSt) hot, rt⟩⟩ hS2 (ItemsOf.nil _) fun s' acc' c' hm hS' hacc => ?_⟩
    rw [Moved.eq_with hm]
    refine hR s'.heap s'.toks acc' c' (fun b o hb hb2 e => hm.heap b o (fun hmem => ?_) (k2 b o hb e)) hS' hacc
    rcases List.mem_cons.mp hmem with e' | hmem
    · exact hb e'
    · exact hb2 (List.mem_singleton.mp hmem)
  split
  · refine wpAny_bind (wpAny_rule ?_)
    refine wpAny_bind ?_
    show wpAny _ A.in1 (updateSeq S (·.push .none) >>= fun _ => updateSeq S (·.pop)) _ _ _
    refine wpAny_bind (wpAny_updateSeq (s := { s with toks := tk }) hS rfl ?_ (Nat.zero_le _) (by rw [sizeLine_eq]; show 1 ≤ _; decide))
    have hS3 := Heap.get?_update_self (Obj.mapSeq (·.push Value.none)) hS rfl
    refine wpAny_updateSeq (s := { s with heap := s.heap.update S (Obj.mapSeq (·.push Value.none)), toks := tk }) hS3 rfl ?_ (by rw [sizeLine_eq]; show 1 ≤ _; decide) (Nat.zero_le _)
    have hS4 := Heap.get?_update_self (Obj.mapSeq (·.pop)) hS3 rfl
    refine wpAny_pure (fin _ (.inr ⟨_, hS4⟩) fun b o hb e => ?_)
    exact (Heap.get?_update_other _ _ (Ne.symm hb)).trans ((Heap.get?_update_other _ _ (Ne.symm hb)).trans e)
  · exact wpAny_pure (fin s.heap (.inl hS) fun b o _ e => e)
theorem call_list_rt {Q : Value → Shared → Prop} (hh : A.handled = none) {it t : Addr} {items : Array Value} (hit : IsRt s.heap it t ((items.size : Int) - 1)) (ht : IsTup s.heap t items) (hti : t ≠ it) (hz : items.size ≤ sizeLine)
    (hQ : ∀ h' tk acc' c', (∀ b o, b ≠ it → s.heap.get? b = some o → h'.get? b = some o) →
      h'.get? s.heap.objs.size = some { cls := .type "list", dict := none, data := .seq acc' c', slots := #[] } → ItemsOf (fun i v => items[items.size - 1 - i]? = some v) acc' items.size → Q (.ref s.heap.objs.size) { s with heap := h', toks := tk }) :
    wpAny (model prog w) A (call (.type "list") [.ref it]) Q E s := by
  refine callType_codes (Q₁ := fun obj s1 => obj = .ref s.heap.objs.size ∧ s1 = { s with heap := s.heap.push { cls := .type "list", data := .seq #[] } }) F.called_list (F.typeCall_list_1 _) F.entry_list_init
    (code_list_new _ ⟨rfl, rfl⟩) fun obj s1 h1 => ?_
  obtain ⟨rfl, rfl⟩ := h1
  have hS : (s.heap.push { cls := .type "list", data := .seq #[] }).get? s.heap.objs.size = some { cls := .type "list", data := .seq #[] } := Heap.get?_push_size _ rfl
  have hS2 := Heap.get?_update_self (Obj.mapSeq (fun _ => (#[] : Array Value))) hS rfl
  have oth : ∀ b o, b ≠ s.heap.objs.size → (s.heap.push { cls := .type "list", data := .seq #[] }).get? b = some o → ((s.heap.push { cls := .type "list", data := .seq #[] }).update s.heap.objs.size (Obj.mapSeq (fun _ => (#[] : Array Value)))).get? b = some o :=
    fun b o hb e => (Heap.get?_update_other _ _ (Ne.symm hb)).trans e
  have old : ∀ b o, s.heap.get? b = some o → ((s.heap.push { cls := .type "list", data := .seq #[] }).update s.heap.objs.size (Obj.mapSeq (fun _ => (#[] : Array Value)))).get? b = some o :=
    fun b o e => oth b o (Nat.ne_of_lt (Heap.lt_size e)) (Heap.get?_push_of_some _ e)
  refine ⟨⟨_, hS, rfl⟩, F.args_list_init_2 _ _, ?_⟩
  show wpAny _ _ (do let old ← Builtin.List.listItems (.ref s.heap.objs.size); Builtin.List.listUpdate (.ref s.heap.objs.size) (fun _ => #[]); letGo old.toList.reverse; Builtin.List.listExtendWith (.ref s.heap.objs.size) (.ref it) .none) _ _ _
  refine wpAny_bind ?_
  unfold Builtin.List.listItems
  refine wpAny_bind (wpAny_seqItems hS rfl (wpAny_pure ?_))
  show wpAny _ _ (updateSeq s.heap.objs.size (fun _ => #[]) >>= fun _ => letGo (#[] : Array Value).toList.reverse >>= fun _ => Builtin.List.listExtendWith (.ref s.heap.objs.size) (.ref it) .none) _ _ _
  refine wpAny_bind (wpAny_updateSeq hS rfl ?_)
  refine wpAny_bind (wpAny_letGo ?_)
  obtain ⟨oi, hoi, ri⟩ := hit
  obtain ⟨ot, hot, rt⟩ := ht
  refine extend_rt (A := A.in1) hh ⟨oi, old _ _ hoi, ri⟩ ⟨ot, old _ _ hot, rt⟩ hti hz s.heap.objs.size .none _ hS2 (Nat.ne_of_gt (Heap.lt_size hoi)) (Nat.ne_of_gt (Heap.lt_size hot)) fun h' tk acc' c' hk hS' hacc => ?_
  exact ⟨rfl, hQ h' tk acc' c' (fun b o hb e => hk b o (Nat.ne_of_lt (Heap.lt_size e)) hb (old b o e)) hS' hacc⟩
end
end XR
namespace L2
open PySem PySem.Spec PyProof.Rows RT XR
/-- list(reversed(x)), x a tuple: a new list -/
def tListRev (K : PySem.W.Frag) (te : TE) : TE := fun σ H Q => te σ H fun v H1 => ∃ (a : Addr) (xs : List V), v = .ref a ∧ SqT K H1 a xs ∧ ∀ q, H1 q = none → Q (.ref q) (upd H1 q (.lst xs.reverse))
section
variable {X : Cx}
theorem pe_listRev {e : Expr} {te : TE} {p p2 pos pos2 : Pos} (hc : X.calm = true) (hg : Gl X "list") (hm : X.mg "list" = none) (hg2 : Gl X "reversed") (hm2 : X.mg "reversed" = none) (he : PE X e te)
    (hs : starEach [e] X.env = (false, eval e X.env) :: starEach [] X.env := by rfl)
    (hs2 : starEach [.Call (.Name "reversed" p2) [e] [] pos2] X.env = (false, eval (.Call (.Name "reversed" p2) [e] [] pos2) X.env) :: starEach [] X.env := by rfl) :
    PE X (.Call (.Name "list" p) [.Call (.Name "reversed" p2) [e] [] pos2] [] pos) (tListRev X.K te) := by
  refine ⟨fun pins s σ H Q I h => ?_⟩
  refine Call_ (ld_blt I hg hm boot_list (PyProof.Rows.callWith_type1 (args_cons (Call_ (ld_blt I hg2 hm2 PyProof.Rows.boot_reversed (PyProof.Rows.callWith_type1 (args_cons (thn (he.run pins s σ H _ I h) fun u s1 ⟨v, H1, I1, r1, q1⟩ => args_nil ?_) hs) hs rfl))) hs2) hs2 rfl))
  obtain ⟨a, xs, ev, hq, q⟩ := q1
  subst ev
  obtain rfl : u = Value.ref a := r1
  obtain ⟨its, rv, p', hz⟩ := I1.tuple hq
  have hl := rv.length
  have hn := line63
  have hsz : its.toArray.size ≤ sizeLine := by rw [List.size_toArray, ← rv.length]; exact hz
  refine call_reversed_tup p' (fun A E Q k => PyProof.Rows.len_tuple p' (by simp only [List.size_toArray] <;> omega) k) (args_nil ?_)
  have k0 : ∀ b o, s1.heap.get? b = some o → (s1.heap.push (rtObj a ((its.toArray.size : Int) - 1))).get? b = some o := fun b o e => Heap.get?_push_of_some _ e
  have I2 : Inv X pins σ H1 { s1 with heap := s1.heap.push (rtObj a ((its.toArray.size : Int) - 1)), toks := s1.toks + 1 + 1 } := I1.kept (t' := s1.toks + 1 + 1) k0
  have fp := I1.fpOk (H' := H1) (b := s1.heap.objs.size) (Nat.le_refl _) (I1.hok.fresh (Nat.le_refl _))
  have hlt : a < s1.heap.objs.size := by
    obtain ⟨o, ho, _⟩ := p'
    exact Heap.lt_size ho
  have p2' : IsTup (s1.heap.push (rtObj a ((its.toArray.size : Int) - 1))) a its.toArray := by
    obtain ⟨o, ho, r⟩ := p'
    exact ⟨o, Heap.get?_push_of_some _ ho, r⟩
  refine call_list_rt (s := { s1 with heap := s1.heap.push (rtObj a ((its.toArray.size : Int) - 1)), toks := s1.toks + 1 + 1 }) (I1.ok.hd hc) ⟨_, Heap.get?_push_size _ rfl, rfl, rfl⟩ p2' (Nat.ne_of_lt hlt) hsz fun h' tk acc c' hk hS' hi => ?_
  have r' := RT.vals_rev rv hi
  refine ⟨.ref _, upd H1 _ (.lst xs.reverse), I2.turnedNew (t' := tk) (ch := [s1.heap.objs.size]) (fun b o hb e => hk b o (fun z => hb (List.mem_singleton.mpr z)) e) (fun b hb => by rw [List.mem_singleton.mp hb]; exact fp) (Nat.le_refl _)
    (show ObjOk X.prog X.w _ _ _ (.lst xs.reverse) from ⟨by rw [List.length_reverse]; exact hz, acc.toList, c', r', by rw [Array.toArray_toList]; exact hS'⟩), rfl, q _ (I2.hok.fresh (Nat.le_refl _))⟩
end
end L2

set_option Elab.async false
set_option linter.all false
set_option maxRecDepth 100000
set_option maxHeartbeats 2000000
/-! sorted(xs), xs a list of tuples of ints of any lengths, the first of them () -/
namespace XT
open PySem PySem.Spec PyProof.Rows L2 SrtO
/-- at t stands a tuple of these ints -/
def TI (h : Heap) (v : Value) (ns : List Int) : Prop := ∃ a xs, v = .ref a ∧ IsTup h a xs ∧ IntsAre xs.toList ns
theorem TI.keeps {h h' : Heap} {v : Value} {ns : List Int} (x : TI h v ns) (k : ∀ b o, h.get? b = some o → o.cls = .type "tuple" → h'.get? b = some o) : TI h' v ns := by
  obtain ⟨a, xs, e, ⟨o, ho, hc, hd⟩, i⟩ := x
  exact ⟨a, xs, e, ⟨o, k _ _ ho hc, hc, hd⟩, i⟩
theorem lex_irr : ∀ a : List Int, HT.lexLt a a = false
  | [] => rfl
  | x :: r => by rw [HT.lexLt_cons, if_pos rfl, lex_irr r]
theorem lex_asym : ∀ a b : List Int, HT.lexLt a b = true → HT.lexLt b a = false
  | [], [], h => by cases h
  | [], _ :: _, _ => rfl
  | _ :: _, [], h => by cases h
  | x :: r, y :: q, h => by
    rw [HT.lexLt_cons] at h ⊢
    by_cases e : x = y
    · rw [if_pos e] at h
      rw [if_pos e.symm]
      exact lex_asym r q h
    · rw [if_neg e] at h
      rw [if_neg fun z => e z.symm]
      have := of_decide_eq_true h
      exact decide_eq_false (by omega)
theorem lex_neg : ∀ a b c : List Int, HT.lexLt b a = false → HT.lexLt c b = false → HT.lexLt c a = false
  | [], b, [], _, _ => rfl
  | [], b, z :: s, _, _ => rfl
  | x :: r, [], c, h, _ => by cases h
  | x :: r, y :: q, [], _, h => by cases h
  | x :: r, y :: q, z :: s, h1, h2 => by
    rw [HT.lexLt_cons] at h1 h2 ⊢
    by_cases e1 : y = x
    · rw [if_pos e1] at h1
      by_cases e2 : z = y
      · rw [if_pos e2] at h2
        rw [if_pos (e2.trans e1)]
        exact lex_neg r q s h1 h2
      · rw [if_neg e2] at h2
        rw [if_neg fun w => e2 (w.trans e1.symm)]
        have := of_decide_eq_false h2
        exact decide_eq_false (by omega)
    · rw [if_neg e1] at h1
      have g1 := of_decide_eq_false h1
      by_cases e2 : z = y
      · rw [if_pos e2] at h2
        rw [if_neg fun w => e1 (e2.symm.trans w)]
        exact decide_eq_false (by omega)
      · rw [if_neg e2] at h2
        have g2 := of_decide_eq_false h2
        by_cases e3 : z = x
        · omega
        · rw [if_neg e3]
          exact decide_eq_false (by omega)
theorem swo_ti {α : Type} (k : α → List Int) : Swo fun v u => HT.lexLt (k v) (k u) := by
  refine ⟨fun x y h => lex_asym _ _ h, fun x y z h1 h2 => ?_⟩
  exact lex_neg _ _ _ h1 h2
section
variable {prog : Program} {w : World} {A : Around} {E : Value → Shared → Prop} {s : Shared}
theorem one_ti {v u : Value} {ns ms : List Int} {Q : Bool → Shared → Prop} (h1 : TI s.heap v ns) (h2 : TI s.heap u ms) (hu : A.units < cLine) (h : Q (HT.lexLt ns ms) s) : wpAny (model prog w) A (oneLt' true v u) Q E s := by
  obtain ⟨a, xs, rfl, ⟨⟨c1, d1, dt1, sl1⟩, ho, hc, n, hd⟩, i⟩ := h1
  obtain ⟨b, ys, rfl, ⟨⟨c2, d2, dt2, sl2⟩, ho2, hc2, n2, hd2⟩, j⟩ := h2
  simp only at hc hd hc2 hd2
  subst hc hd hc2 hd2
  rw [oneLt'_eq]
  simp only [if_true]
  refine wpAny_bind (wpAny_cRoomFor hu ?_)
  refine wpAny_bind (wpAny_callSpecialIfBound?_slot (name := Str.ofString "__lt__") ⟨_, ho, rfl⟩ PySem.F.slot_tuple_lt (call_meets PySem.F.slot_tuple_lt ⟨_, ho, rfl⟩ PySem.F.entry_tuple_lt (PySem.F.args_tuple_lt_2 _ _) (HT.tuple_lt_ints a b xs ys n n2 d1 d2 sl1 sl2 ns ms i j) ⟨ho, ho2, ?_⟩))
  exact wpAny_truthy_bool h
theorem cmp_ti {vs : List Value} {k : Value → List Int} (hu : A.units < cLine) (hp : ∀ v ∈ vs, TI s.heap v (k v)) : Cmp prog w A s oneType' (fun p => p.1 ∈ vs) (lt2 fun v u => HT.lexLt (k v) (k u)) := by
  intro p q hm hm'
  rw [keyLt'_oneType]
  exact one_ti (hp _ hm) (hp _ hm') hu ⟨rfl, rfl⟩
theorem firsts_ti : ∀ (vs : List Value) (nss : List (List Int)) {Q : List (Option Value) → Shared → Prop}, (∀ (i : Nat) (v : Value) (ns : List Int), vs[i]? = some v → nss[i]? = some ns → TI s.heap v ns) → vs.length = nss.length →
    (∀ fs : List (Option Value), fs.length = vs.length → (∀ ns r, nss = ns :: r → ns = [] → ∃ q, fs = none :: q) → Q fs s) → wpAny (model prog w) A (vs.mapM firstOfTuple') Q E s
  | [], [], Q, _, _, h => by
    rw [List.mapM_nil]
    exact wpAny_pure (h [] rfl fun ns r e => by cases e)
  | [], _ :: _, _, _, hl, _ => by cases hl
  | _ :: _, [], _, _, hl, _ => by cases hl
  | v :: vs, ns :: nss, Q, hx, hl, h => by
    obtain ⟨a, xs, rfl, ⟨o, ho, hc, n, hd⟩, i⟩ := hx 0 v ns rfl rfl
    rw [List.mapM_cons]
    refine wpAny_bind ?_
    rw [PySem.W.kas_first_eq]
    refine wpAny_bind (PySem.W.Looks.here (show PySem.W.Looks (model prog w) s.heap (typeOf (.ref a)) o.cls from (PySem.W.Looks.ld ho).andThen .now) ?_)
    rw [hc, if_neg (by first | decide | simp)]
    refine wpAny_bind (listItems_at ho hd (wpAny_pure ?_))
    refine wpAny_bind (firsts_ti vs nss (fun i v ns e1 e2 => hx (i + 1) v ns e1 e2) (by simpa using hl) fun fs hf _ => wpAny_pure (h (xs[0]? :: fs) (by simp [hf]) fun ns' r' e e0 => ?_))
    injection e with e1 e2
    subst e1
    rw [e0] at i
    refine ⟨fs, ?_⟩
    have : xs.toList.length = 0 := i.length
    have hz : xs[0]? = none := Array.getElem?_eq_none (by rw [Array.length_toList] at this; omega)
    rw [hz]
theorem kind_ti {v0 : Value} {vs : List Value} {k : Value → List Int} {Q : SortKind → Shared → Prop} (hp : ∀ v ∈ v0 :: vs, TI s.heap v (k v)) (h0 : k v0 = []) (h : Q oneType' s) : wpAny (model prog w) A (keyKind' (v0 :: vs).toArray) Q E s := by
  rw [kat_kind_eq, List.mapM_toArray, map_eq_pure_bind]
  refine wpAny_bind (wpAny_bind (firsts_ti (v0 :: vs) ((v0 :: vs).map k) (fun i v ns e1 e2 => ?_) (by simp) fun fs hf h1 => wpAny_pure ?_))
  · rw [List.getElem?_map, e1] at e2
    obtain rfl : k v = ns := Option.some.inj e2
    exact hp v (List.mem_of_getElem? e1)
  · obtain ⟨q, rfl⟩ := h1 (k v0) (vs.map k) rfl h0
    have a1 : ((none :: q : List (Option Value)).toArray.all fun x => x.isSome) = false := by simp
    rw [a1, if_neg Bool.false_ne_true]
    have a2 : (((none :: q : List (Option Value)).toArray[0]?).bind id).isSome = false := by simp
    rw [a2, if_neg Bool.false_ne_true]
    rw [oneTypeOnly'_eq, List.mapM_toArray, map_eq_pure_bind]
    refine wpAny_bind (wpAny_bind (wpAny_bind (PySem.W.kas_mapM (r := Value.type "tuple") _ (fun v hv Q' hq => ?_) (wpAny_pure ?_))))
    · obtain ⟨a, xs, rfl, ⟨o, ho, hc, n, hd⟩, i⟩ := hp v hv
      refine PySem.W.Looks.here (show PySem.W.Looks (model prog w) s.heap (typeOf (.ref a)) o.cls from (PySem.W.Looks.ld ho).andThen .now) ?_
      rw [hc]
      exact hq
    · have a3 : ((List.map (fun _ => Value.type "tuple") (v0 :: vs)).toArray.all fun x => x == Value.type "tuple") = true := by
        simp
      have a4 : (List.map (fun _ => Value.type "tuple") (v0 :: vs)).toArray[0]? = some (Value.type "tuple") := by simp
      rw [a4]
      try dsimp only
      rw [a3, if_pos rfl]
      exact wpAny_pure (wpAny_pure h)
theorem sortable_ti {a : Addr} {vs : List Value} {k : Value → List Int} (hu : A.units < cLine) (hp : ∀ v ∈ vs, TI s.heap v (k v)) (h0 : ∃ v0 r, vs = v0 :: r ∧ k v0 = []) (ha : ∀ o, s.heap.get? a = some o → o.cls ≠ .type "tuple") : SortableO prog w A s a vs fun v u => HT.lexLt (k v) (k u) := by
  intro h' keep
  have hp' : ∀ v ∈ vs, TI h' v (k v) := fun v hm => (hp v hm).keeps fun b o e c => keep b o (fun z => by subst z; exact ha o e c) e
  obtain ⟨v0, r, rfl, e0⟩ := h0
  exact ⟨oneType', fun Q E hq => kind_ti (s := { s with heap := h' }) hp' e0 hq, cmp_ti (s := { s with heap := h' }) hu hp'⟩
end
end XT
namespace L2
open PySem PySem.Spec PyProof.Rows
/-- sorted(xs), xs a list of tuples of ints, the first of them (): a new list, sorted, equal ones in their order -/
def rSortTI (K : PySem.W.Frag) : List V → Hp → VK → Prop := fun vs H Q => ∃ (a : Addr) (xs : List V) (k : V → List Int), vs = [V.ref a] ∧ SqL K H a xs ∧ (∀ x ∈ xs, ∃ t, x = V.ref t ∧ H t = some (.tup ((k x).map V.int))) ∧ (∀ x0 r, xs = x0 :: r → k x0 = []) ∧
  ∀ ys p, SrtO.Srtd (fun x y => HT.lexLt (k x) (k y)) ys → SrtO.Stb (fun x y => HT.lexLt (k x) (k y)) ys xs → H p = none → Q (.ref p) (upd H p (.lst ys))
section
variable {X : Cx}
theorem cr_sortTI (hu : X.A.in1.in1.units < cLine) : CallR X (.builtin "sorted") (rSortTI X.K) := by
  intro pins s σ H vs us Q I r h
  obtain ⟨a, xs, k, rfl, hs, hx, h0, q⟩ := h
  obtain ⟨its, rv, hl, hz⟩ := I.list hs
  obtain ⟨u, rfl, ru⟩ := vals1 r
  obtain rfl : u = Value.ref a := ru
  obtain ⟨e1, e2⟩ := refs_back rv fun x m => by
    obtain ⟨t, e, _⟩ := hx x m
    exact ⟨t, e⟩
  have ti : ∀ v ∈ its, XT.TI s.heap v (k (backV v)) := fun v hv => by
    obtain ⟨t, rfl⟩ := e2 v hv
    have hm : V.ref t ∈ xs := by rw [e1]; exact List.mem_map.mpr ⟨_, hv, rfl⟩
    obtain ⟨t', e, ht⟩ := hx _ hm
    cases e
    obtain ⟨its2, r2, p2, _⟩ := I.tuple (SqT.of ht)
    exact ⟨t, its2.toArray, rfl, p2, intsAre_of r2⟩
  refine SrtO.sorted_ord (XT.swo_ti fun u => k (backV u)) hl.isList (by rw [← rv.length]; exact hz) (fun h2 h₁ a' ha kk => ?_) fun out h1 h2 => ?_
  · refine XT.sortable_ti (s := { s with heap := h₁ }) hu (fun v hm => (ti v hm).keeps fun b o e _ => (kk b o e).2) ?_ fun o e => ?_
    · cases its with
      | nil => simp at h2
      | cons v0 r => exact ⟨v0, r, rfl, h0 (backV v0) (r.map backV) e1⟩
    · have e' : some o = some (seqObj "list" its.toArray 0) := e.symm.trans ha
      cases e'
      intro c
      exact absurd (Value.type.inj c) (by decide)
  · have h3 : ∀ u ∈ out, ∃ a, u = Value.ref a := fun u hu => e2 u (h2.perm.mem_iff.mp hu)
    obtain ⟨n, hn⟩ := PyProof.Rows.sortedAll_at s.heap its out.toArray
    have hb : SrtO.Stb (fun x y => HT.lexLt (k x) (k y)) (out.map backV) xs := by
      rw [e1]
      exact SrtO.Stb.map (XT.swo_ti k) backV h2
    refine ⟨.ref (s.heap.objs.size + 1), upd H (s.heap.objs.size + 1) (.lst (out.map backV)), I.laid (t' := s.toks) (fun b o e => PyProof.Rows.sortedAll_old e) (Nat.le_succ _) ⟨?_, out, n, vals_back h3, hn⟩, rfl, q _ _ (SrtO.srtd_map h1) hb (I.hok.fresh (Nat.le_succ _))⟩
    rw [hb.len]
    exact hz
end
end L2
namespace L2
theorem in2_units {k : Nat} {A : PySem.Around} (hr : Room k A) : A.in1.in1.units < PySem.cLine := by
  have := hr.units
  show A.units + 1 + 1 < PySem.cLine
  omega
end L2

set_option Elab.async false
set_option linter.all false
set_option maxRecDepth 100000
set_option maxHeartbeats 2000000
namespace Y
open PySem PySem.Spec PyProof.Rows L2 StX
section
variable {K : PySem.W.Frag} {X : Cx} {E : XK}
variable {Φ : Phi} {B : Hp} {α : List Addr} {H : Hp} {σ : L2.St} {ρ : Env} {ω : Sto} {T : List (V × S)}
/-! ### stars -/
def spreadS (s : S) (ω : Sto) : Option (List S) := match s with
  | .d (.tup ds) => some (ds.map .d)
  | .d (.ktup ds) => some (ds.map .d)
  | .d (.lst ds) => some (ds.map .d)
  | .pin j => match ω[j]? with
    | some (.lst ss) => some ss
    | _ => none
  | _ => none
def dStar (t : TD) (u : TAD) : TAD := fun ρ ω q x => t ρ ω (fun s ω1 => match spreadS s ω1 with | some ys => u ρ ω1 (fun ss ω2 => q (ys ++ ss) ω2) x | none => False) x
theorem spread_ok {v : V} {s : S} {ys : List S} (sb : StB Φ K B α H σ ρ ω T) (r : RS K α B v s) (h : spreadS s ω = some ys) : ∃ p xs, v = .ref p ∧ (SqT K H p xs ∨ SqL K H p xs) ∧ Paired (RS K α B) xs ys := by
  unfold spreadS at h
  split at h
  · cases h
    obtain ⟨a, xs, e, ha, ra⟩ := r_tup r
    exact ⟨a, xs, e, .inl (SqT.of (sb.fr.bh _ _ ha)), rs_pairA ra⟩
  · cases h
    obtain ⟨a, xs, e, ha, ra⟩ := r_ktup r
    exact ⟨a, xs, e, .inl (sameT sb.fr.bh ha), rs_pairA ra⟩
  · cases h
    obtain ⟨a, xs, e, ha, ra⟩ := r_lst r
    exact ⟨a, xs, e, .inr (SqL.of (sb.fr.bh _ _ ha)), rs_pairA ra⟩
  · split at h
    · rename_i e
      cases h
      obtain ⟨a, rfl, ha, _, xs, ex, rp⟩ := pin_of sb r e
      exact ⟨a, xs, rfl, .inr (SqL.of ex), rp⟩
    · cases h
  · cases h
theorem zip_mem {F : V → S → Prop} : ∀ {xs : List V} {ys : List S}, Paired F xs ys → ∀ p ∈ xs.zip ys, F p.1 p.2
  | _, _, .nil, p, h => by simp at h
  | _, _, .cons h t, p, hp => by
    rw [List.zip_cons_cons, List.mem_cons] at hp
    rcases hp with rfl | hp
    · exact h
    · exact zip_mem t p hp
theorem StB.pushes (s : StB Φ K B α H σ ρ ω T) {xs : List V} {ys : List S} (h : Paired (RS K α B) xs ys) : StB Φ K B α H σ ρ ω (xs.zip ys ++ T) := ⟨s.fr, s.wd, s.sl, fun p hp => by
  rcases List.mem_append.mp hp with hp | hp
  · exact zip_mem h p hp
  · exact s.tm p hp⟩
theorem ya_star {e : Expr} {es : List Expr} {t : TD} {u : TAD} {p : Pos} (h1 : PD X K E e h1t t) (h2 : PAD X K E es h2t u) (hs : starEach (.Starred e p :: es) X.env = (true, eval e X.env) :: starEach es X.env := by rfl) (hK : X.K = K := by rfl) : PAD X K E (.Starred e p :: es) (tStar K h1t h2t) (dStar t u) := by
  subst hK
  exact ⟨pa_star h1.p h2.p hs, fun Φ H σ ρ ω T q Q x s hx k h => h1.r Φ H σ ρ ω T _ _ x s hx (fun y ω1 v H1 h ⟨B, α, sb⟩ => by
    cases e1 : spreadS y ω1 with
    | none => simp only [e1] at h
    | some ys =>
      simp only [e1] at h
      obtain ⟨p, xs, rfl, hq, rp⟩ := spread_ok sb (sb.tm (v, y) List.mem_cons_self) e1
      refine ⟨p, xs, rfl, hq, h2.r Φ H1 σ ρ ω1 _ _ _ x (sb.pushes rp).st hx (fun ss ω2 vs H2 h l st => k _ _ _ _ h (by rw [List.length_append, List.length_append, l, Paired.length rp]) (st.sub fun p hp => ?_)) h⟩
      rw [List.zip_append (Paired.length rp)] at hp
      simp only [List.mem_append, List.mem_cons] at hp ⊢
      rcases hp with (hp | hp) | hp
      · exact .inr (.inl hp)
      · exact .inl hp
      · exact .inr (.inr (.inr hp))) h⟩
/-! ### -x -/
def dUn (f : S → Sto → (S → Sto → Prop) → Prop) (t : TD) : TD := fun ρ ω q x => t ρ ω (fun s ω1 => f s ω1 q) x
def negD : S → Sto → (S → Sto → Prop) → Prop := fun s ω q => match s with | .d (.int i) => q (.d (.int (-i))) ω | _ => False
theorem y_neg {a : Expr} {t : TD} {pos : Pos} (h : PD X K E a ht t) : PD X K E (.UnaryOp .USub a pos) (tUn (rU fun i => .int (-i)) ht) (dUn negD t) := ⟨pe_un un_neg h.p, fun Φ H σ ρ ω T q Q x s hx k hh => h.r Φ H σ ρ ω T _ _ x s hx (fun s1 ω1 v H1 h st => by
  unfold negD at h
  split at h
  · obtain ⟨B, α, sb⟩ := st
    exact ⟨_, r_int (sb.tm _ List.mem_cons_self), k _ _ _ _ h ((sb.st.sub fun p hp => List.mem_cons_of_mem _ hp).push fun _ => .int _)⟩
  · exact h.elim) hh⟩
/-! ### is, of truths -/
def isBD : FO := fun s1 s2 ω q => match s1, s2 with
  | .d (.bl a), .d (.bl b) => q (.d (.bl (decide (a = b)))) ω
  | _, _ => False
theorem refO_isTr : RefO K rIsB isBD := fun Φ H σ ρ ω T v1 v2 s1 s2 q Q s m1 m2 k h => by
  unfold isBD at h
  obtain ⟨B, α, sb⟩ := s
  split at h
  · exact ⟨_, _, r_bl (sb.tm _ m1), r_bl (sb.tm _ m2), k _ _ _ _ h (sb.st.push fun _ => .bl _)⟩
  · exact h.elim
theorem op_isTr : OpR X (compareOp .Is) rIsB := op_isBl
/-! ### int(x), abs(x), dict(x) -/
theorem refC_int : RefC K (fun xs H Q => (∃ i, xs = [.int i] ∧ Q (.int i) H) ∨ ∃ k, xs = [.bl k] ∧ Q (.int (if k then 1 else 0)) H) intD := fun Φ B α H σ ρ ω T vs ss q Q sb rr m k h => by
  unfold intD at h
  split at h
  · obtain ⟨v, rfl, r⟩ := pair1 rr
    rw [show v = .int _ from r_int r]
    exact .inl ⟨_, rfl, k _ _ _ _ h (sb.st.push fun _ => .int _)⟩
  · obtain ⟨v, rfl, r⟩ := pair1 rr
    rw [show v = .bl _ from r_bl r]
    exact .inr ⟨_, rfl, k _ _ _ _ h (sb.st.push fun _ => .int _)⟩
  · exact h.elim
theorem refC_abs : RefC K (fun xs H Q => ∃ i, xs = [.int i] ∧ Q (.int (if i < 0 then -i else i)) H) absD := fun Φ B α H σ ρ ω T vs ss q Q sb rr m k h => by
  unfold absD at h
  split at h
  · obtain ⟨v, rfl, r⟩ := pair1 rr
    rw [show v = .int _ from r_int r]
    exact ⟨_, rfl, k _ _ _ _ h (sb.st.push fun _ => .int _)⟩
  · exact h.elim
def dictC : CB := fun ss ω q => match ss with
  | [.pin j] => match ω[j]? with
    | some (.dK kvs) => q (.pin ω.length) (ω ++ [.dK kvs])
    | _ => False
  | _ => False
theorem RK.mono {κ : Type} {α β : List Addr} {B B' : Hp} (g : Same B B') {ys : List (κ × V)} {kvs : List (κ × S)} (h : RK K α B ys kvs) : RK K (α ++ β) B' ys kvs := paired_mono (fun _ _ h => ⟨h.1, RS.mono g h.2⟩) h
theorem refC_dict : RefC K (fun xs H Q => ∃ (a : Addr) (kvs : List (Key × V)), xs = [.ref a] ∧ Rd H a (.dK kvs) ∧ ∀ p, H p = none → Q (.ref p) (upd H p (.dK kvs))) dictC := fun Φ B α H σ ρ ω T vs ss q Q sb rr m k h => by
  unfold dictC at h
  split at h
  · obtain ⟨v, rfl, r⟩ := pair1 rr
    split at h
    · rename_i e
      obtain ⟨a, rfl, ha, _, ys, ey, rk⟩ := pin_of sb r e
      exact ⟨a, ys, rfl, .inl ey, fun p hp => k _ _ _ _ h (sb.newC (c := .dK _) hp ⟨sb.fr.bh.free hp, _, upd_same, rk.mono (Same.refl _)⟩)⟩
    · exact h.elim
  · exact h.elim
section
variable {p pos : Pos} {e : Expr} {u : TAD}
theorem y_intC (b : Bu X.mg) (ha : PAD X K E [e] ht u) (hg : Gl X "int" := by rfl) (he : starEach [e] X.env = (false, eval e X.env) :: starEach [] X.env := by rfl) : PD X K E (.Call (.Name "int" p) [e] [] pos) (tCB (fun xs H Q => (∃ i, xs = [.int i] ∧ Q (.int i) H) ∨ ∃ k, xs = [.bl k] ∧ Q (.int (if k then 1 else 0)) H) ht) (dB intD u) :=
  y_bty call_int1 refC_int b.int (by decide +kernel) ha hg (he := he) (hpl := rfl)
theorem y_absC (b : Bu X.mg) (ha : PAD X K E [e] ht u) (hg : Gl X "abs" := by rfl) (he : starEach [e] X.env = (false, eval e X.env) :: starEach [] X.env := by rfl) : PD X K E (.Call (.Name "abs" p) [e] [] pos) (tCB (fun xs H Q => ∃ i, xs = [.int i] ∧ Q (.int (if i < 0 then -i else i)) H) ht) (dB absD u) :=
  y_blt call_abs refC_abs b.abs (by decide +kernel) ha hg (he := he) (hpl := rfl)
theorem y_dictC (b : Bu X.mg) (ha : PAD X K E [e] ht u) (hg : Gl X "dict" := by rfl) (he : starEach [e] X.env = (false, eval e X.env) :: starEach [] X.env := by rfl) : PD X K E (.Call (.Name "dict" p) [e] [] pos) (tCB (fun xs H Q => ∃ (a : Addr) (kvs : List (Key × V)), xs = [.ref a] ∧ Rd H a (.dK kvs) ∧ ∀ p, H p = none → Q (.ref p) (upd H p (.dK kvs))) ht) (dB dictC u) :=
  y_bty call_dictD refC_dict b.dict (by decide +kernel) ha hg (he := he) (hpl := rfl)
end
/-! ### sorted(paths) -/
def pathD (p : List Int) : D := .tup (p.map .int)
def sortTD : CB := fun ss ω q => match ss with
  | [s] => lstOf s ω fun ds => ∃ ps : List (List Int), ds = ps.map pathD ∧ (∀ p0 r, ps = p0 :: r → p0 = []) ∧ ∀ zs : List (List Int), SrtO.Srtd HT.lexLt zs → zs.Perm ps → q (.d (.lst (zs.map pathD))) ω
  | _ => False
theorem rs_int_back {B : Hp} : ∀ {ns : List Int} {vs : List V}, Rs K B vs (ns.map .int) → vs = ns.map V.int
  | [], _, .nil => rfl
  | n :: ns, _, .cons r t => by rw [List.map_cons, r_int r, rs_int_back t]
theorem int_inj : ∀ {ns ms : List Int}, ns.map V.int = ms.map V.int → ns = ms
  | [], [], _ => rfl
  | n :: ns, m :: ms, h => by
    rw [List.map_cons, List.map_cons] at h
    cases (List.cons.inj h).1
    rw [int_inj (List.cons.inj h).2]
  | [], _ :: _, h => by simp at h
  | _ :: _, [], h => by simp at h
theorem r_path {B : Hp} {v : V} {p : List Int} (h : R K B v (pathD p)) : ∃ a, v = .ref a ∧ B a = some (.tup (p.map V.int)) := by
  obtain ⟨a, xs, e, ha, ra⟩ := r_tup h
  rw [rs_int_back ra] at ha
  exact ⟨a, e, ha⟩
theorem path_inj {B : Hp} {v : V} {p r : List Int} (h1 : R K B v (pathD p)) (h2 : R K B v (pathD r)) : p = r := by
  obtain ⟨a, e, ha⟩ := r_path h1
  obtain ⟨b, e2, hb⟩ := r_path h2
  rw [e] at e2
  cases e2
  rw [ha] at hb
  exact int_inj (HO.tup.inj (Option.some.inj hb))
theorem rs_paths {B : Hp} {k : V → List Int} : ∀ {vs : List V} {ps : List (List Int)}, Rs K B vs (ps.map pathD) → (∀ v p, R K B v (pathD p) → k v = p) → ps = vs.map k ∧ ∀ v ∈ vs, R K B v (pathD (k v))
  | [], [], .nil, _ => ⟨rfl, by simp⟩
  | v :: vs, p :: ps, .cons r t, h => by
    obtain ⟨e, f⟩ := rs_paths t h
    rw [List.map_cons, ← e, h v p r]
    refine ⟨rfl, fun u hu => ?_⟩
    rcases List.mem_cons.mp hu with rfl | hu
    · rw [h _ p r]; exact r
    · exact f u hu
theorem rs_of_mem {B : Hp} {k : V → List Int} : ∀ {vs : List V}, (∀ v ∈ vs, R K B v (pathD (k v))) → Rs K B vs ((vs.map k).map pathD)
  | [], _ => .nil
  | v :: vs, h => .cons (h v (by simp)) (rs_of_mem fun u hu => h u (by simp [hu]))
theorem refC_sortT : RefC K (rSortTI K) sortTD := fun Φ B α H σ ρ ω T vs ss q Q sb rr m k h => by
  classical
  unfold sortTD at h
  split at h
  · obtain ⟨v, rfl, r⟩ := pair1 rr
    obtain ⟨a, xs, ds, rfl, ex, rs, ps, rfl, h0, h⟩ := lst_of sb r h
    let key : V → List Int := fun v => if h : ∃ p, R K B v (pathD p) then h.choose else []
    have hkey : ∀ v p, R K B v (pathD p) → key v = p := fun v p hr => by
      have hx : ∃ p, R K B v (pathD p) := ⟨p, hr⟩
      show (if h : ∃ p, R K B v (pathD p) then h.choose else []) = p
      rw [dif_pos hx]
      exact path_inj hx.choose_spec hr
    obtain ⟨e1, e2⟩ := rs_paths rs hkey
    refine ⟨a, xs, key, rfl, SqL.of ex, fun x hx => ?_, fun x0 r0 er => ?_, fun ys p h1 h2 hp => ?_⟩
    · obtain ⟨t, et, ht⟩ := r_path (e2 x hx)
      exact ⟨t, et, sb.fr.bh _ _ ht⟩
    · subst er
      exact h0 _ _ e1
    · have hm : ∀ v ∈ ys, R K B v (pathD (key v)) := fun v hv => e2 v (h2.perm.mem_iff.mp hv)
      refine k _ _ _ _ (h (ys.map key) (SrtO.srtd_map h1) ?_) (sb.lstD hp (rs_of_mem hm))
      rw [e1]
      exact h2.perm.map key
  · exact h.elim
theorem y_sortedT {p pos : Pos} {e : Expr} {u : TAD} (b : Bu X.mg) (hu : X.A.in1.in1.units < cLine) (ha : PAD X K E [e] ht u) (hg : Gl X "sorted" := by rfl) (he : starEach [e] X.env = (false, eval e X.env) :: starEach [] X.env := by rfl) (hK : X.K = K := by rfl) : PD X K E (.Call (.Name "sorted" p) [e] [] pos) (tCB (rSortTI K) ht) (dB sortTD u) := by
  subst hK
  exact y_blt (cr_sortTI hu) refC_sortT b.sorted (by decide +kernel) ha hg (he := he) (hpl := rfl)
/-! ### list(reversed(tuple)) -/
def revD : S → Sto → (S → Sto → Prop) → Prop := fun s ω q => match s with
  | .d (.tup ds) => q (.d (.lst ds.reverse)) ω
  | .d (.ktup ds) => q (.d (.lst ds.reverse)) ω
  | _ => False
theorem y_listRev {e : Expr} {t : TD} {p p2 pos pos2 : Pos} (b : Bu X.mg) (hc : X.calm = true) (h0 : PD X K E e ht t) (hg : Gl X "list" := by rfl) (hg2 : Gl X "reversed" := by rfl)
    (hs : starEach [e] X.env = (false, eval e X.env) :: starEach [] X.env := by rfl)
    (hs2 : starEach [.Call (.Name "reversed" p2) [e] [] pos2] X.env = (false, eval (.Call (.Name "reversed" p2) [e] [] pos2) X.env) :: starEach [] X.env := by rfl) (hK : X.K = K := by rfl) :
    PD X K E (.Call (.Name "list" p) [.Call (.Name "reversed" p2) [e] [] pos2] [] pos) (tListRev K ht) (dUn revD t) := by
  subst hK
  exact ⟨pe_listRev hc hg b.list hg2 b.reversed h0.p hs hs2, fun Φ H σ ρ ω T q Q x s hx k hh => h0.r Φ H σ ρ ω T _ _ x s hx (fun s1 ω1 v H1 h ⟨B, α, sb⟩ => by
    unfold revD at h
    split at h
    · obtain ⟨a, xs, e, ha, ra⟩ := r_tup (sb.tm _ List.mem_cons_self)
      exact ⟨a, xs, e, SqT.of (sb.fr.bh _ _ ha), fun l hl => k _ _ _ _ h (drop_mid (U := [_]) (sb.lstD hl ra.reverse))⟩
    · obtain ⟨a, xs, e, ha, ra⟩ := r_ktup (sb.tm _ List.mem_cons_self)
      exact ⟨a, xs, e, sameT sb.fr.bh ha, fun l hl => k _ _ _ _ h (drop_mid (U := [_]) (sb.lstD hl ra.reverse))⟩
    · exact h.elim) hh⟩
/-! ### for x in reversed(..) -/
theorem walk_v {a : Addr} {n : Nat} : Walk (Itv K a n) n (fun H => ∃ xs, SqL K H a xs ∧ xs.length = n) (Itv K a n).yld :=
  ⟨fun i H hi ⟨xs, h, e⟩ => ⟨hi, xs, xs[n - 1 - i]'(by omega), h, List.getElem?_eq_getElem (by omega)⟩, fun H _ => Nat.le_refl _, fun _ _ _ _ _ _ y => y⟩
theorem walk_vT {a : Addr} {n : Nat} : Walk (RT.ItvT K a n) n (fun H => ∃ xs, SqT K H a xs ∧ xs.length = n) (RT.ItvT K a n).yld :=
  ⟨fun i H hi ⟨xs, h, e⟩ => ⟨hi, xs, xs[n - 1 - i]'(by omega), h, List.getElem?_eq_getElem (by omega)⟩, fun H _ => Nat.le_refl _, fun _ _ _ _ _ _ y => y⟩
theorem rev_get {β : Type} {l : List β} {i : Nat} (hi : i < l.reverse.length) : ∃ d, l[l.length - 1 - i]? = some d ∧ l.reverse[i]? = some d := by
  rw [List.length_reverse] at hi
  refine ⟨l[l.length - 1 - i], List.getElem?_eq_getElem (by omega), ?_⟩
  rw [List.getElem?_reverse hi]
  exact List.getElem?_eq_getElem (by omega)
theorem it_rtup {a : Addr} {ds : List D} : ItD K (RT.ItvT K a ds.length) [(.ref a, .d (.tup ds))] (fun _ => True) (ds.map S.d).reverse := by
  have hl : (ds.map S.d).reverse.length = ds.length := by simp
  refine ⟨_, _, by rw [hl]; exact walk_vT, fun Φ H σ ρ ω T st m _ => ?_⟩
  obtain ⟨B, α, sb⟩ := st
  obtain ⟨a', xs, e, ha, ra⟩ := r_tup (sb.tm (.ref a, .d (.tup ds)) (m _ (by simp)))
  cases e
  have hs := SqT.of (K := K) (sb.fr.bh _ _ ha)
  refine ⟨⟨xs, hs, ra.len⟩, fun i x H' hi y => ?_⟩
  obtain ⟨rfl, y⟩ := y
  obtain ⟨s, e1, e2⟩ := rev_get hi
  rw [List.length_map, List.getElem?_map] at e1
  obtain ⟨d, e3, rfl⟩ := Option.map_eq_some_iff.mp e1
  obtain ⟨v, ev, rv⟩ := ra.get e3
  obtain rfl : x = v := Option.some.inj ((y xs hs).symm.trans ev)
  exact ⟨_, e2, (sb.pushD rv).st⟩
theorem it_rktup {a : Addr} {ds : List D} : ItD K (RT.ItvT K a ds.length) [(.ref a, .d (.ktup ds))] (fun _ => True) (ds.map S.d).reverse := by
  have hl : (ds.map S.d).reverse.length = ds.length := by simp
  refine ⟨_, _, by rw [hl]; exact walk_vT, fun Φ H σ ρ ω T st m _ => ?_⟩
  obtain ⟨B, α, sb⟩ := st
  obtain ⟨a', xs, e, ha, ra⟩ := r_ktup (sb.tm (.ref a, .d (.ktup ds)) (m _ (by simp)))
  cases e
  have hs := sameT sb.fr.bh ha
  refine ⟨⟨xs, hs, ra.len⟩, fun i x H' hi y => ?_⟩
  obtain ⟨rfl, y⟩ := y
  obtain ⟨s, e1, e2⟩ := rev_get hi
  rw [List.length_map, List.getElem?_map] at e1
  obtain ⟨d, e3, rfl⟩ := Option.map_eq_some_iff.mp e1
  obtain ⟨v, ev, rv⟩ := ra.get e3
  obtain rfl : x = v := Option.some.inj ((y xs hs).symm.trans ev)
  exact ⟨_, e2, (sb.pushD rv).st⟩
theorem it_rlst {a : Addr} {ds : List D} : ItD K (Itv K a ds.length) [(.ref a, .d (.lst ds))] (fun _ => True) (ds.map S.d).reverse := by
  have hl : (ds.map S.d).reverse.length = ds.length := by simp
  refine ⟨_, _, by rw [hl]; exact walk_v, fun Φ H σ ρ ω T st m _ => ?_⟩
  obtain ⟨B, α, sb⟩ := st
  obtain ⟨a', xs, e, ha, ra⟩ := r_lst (sb.tm (.ref a, .d (.lst ds)) (m _ (by simp)))
  cases e
  have hs := SqL.of (K := K) (sb.fr.bh _ _ ha)
  refine ⟨⟨xs, hs, ra.len⟩, fun i x H' hi y => ?_⟩
  obtain ⟨rfl, y⟩ := y
  obtain ⟨s, e1, e2⟩ := rev_get hi
  rw [List.length_map, List.getElem?_map] at e1
  obtain ⟨d, e3, rfl⟩ := Option.map_eq_some_iff.mp e1
  obtain ⟨v, ev, rv⟩ := ra.get e3
  obtain rfl : x = v := Option.some.inj ((y xs hs).symm.trans ev)
  exact ⟨_, e2, (sb.pushD rv).st⟩
theorem it_rpin {a : Addr} {j : Nat} {ss : List S} : ItD K (Itv K a ss.length) [(.ref a, .pin j)] (fun ω => ω[j]? = some (.lst ss)) ss.reverse := by
  have hl : ss.reverse.length = ss.length := by simp
  refine ⟨_, _, by rw [hl]; exact walk_v, fun Φ H σ ρ ω T st m hp => ?_⟩
  obtain ⟨B, α, sb⟩ := st
  obtain ⟨a', e, ha, _, xs, ex, rp⟩ := sb.cell (m (.ref a, .pin j) (by simp)) hp
  cases e
  have hs := SqL.of (K := K) ex
  refine ⟨⟨xs, hs, Paired.length rp⟩, fun i x H' hi y => ?_⟩
  obtain ⟨rfl, y⟩ := y
  obtain ⟨s, e1, e2⟩ := rev_get hi
  obtain ⟨v, ev, rv⟩ := paired_get rp e1
  obtain rfl : x = v := Option.some.inj ((y xs hs).symm.trans ev)
  exact ⟨_, e2, (sb.push rv).st⟩
def revSeqD (s : S) (ω : Sto) (q : List S → (Sto → Prop) → Sto → Prop) : Prop := match s with
  | .d (.tup ds) => q (ds.map .d).reverse (fun _ => True) ω
  | .d (.ktup ds) => q (ds.map .d).reverse (fun _ => True) ω
  | .d (.lst ds) => q (ds.map .d).reverse (fun _ => True) ω
  | .pin j => match ω[j]? with
    | some (.lst ss) => q ss.reverse (fun ω' => ω'[j]? = some (.lst ss)) ω
    | _ => False
  | _ => False
def dRevI (t : TD) : TID := fun ρ ω q x => t ρ ω (fun s ω' => revSeqD s ω' q) x
theorem yi_rev {tg e : Expr} {t : TD} {p pos : Pos} (b : Bu X.mg) (h0 : PD X K E e ht t) (hg : Gl X "reversed" := by rfl) (hs : starEach [e] X.env = (false, eval e X.env) :: starEach [] X.env := by rfl) (hK : X.K = K := by rfl) : PID X K E tg (.Call (.Name "reversed" p) [e] [] pos) (RT.iRevA K ht) (dRevI t) := by
  subst hK
  refine ⟨RT.pi_revA hg b.reversed h0.p hs, fun Φ H σ ρ ω T q Rr x s hx k h => h0.r Φ H σ ρ ω T _ _ x s hx (fun s1 ω1 v H1 h st => ?_) h⟩
  unfold revSeqD at h
  obtain ⟨B, α, sb⟩ := st
  split at h
  · obtain ⟨a, xs, e, ha, ra⟩ := r_tup (sb.tm _ List.mem_cons_self)
    have e : v = .ref a := e
    subst e
    exact ⟨a, xs, rfl, .inr ⟨SqT.of (sb.fr.bh _ _ ha), by rw [ra.len]; exact k _ _ _ _ _ [_] h sb.st it_rtup⟩⟩
  · obtain ⟨a, xs, e, ha, ra⟩ := r_ktup (sb.tm _ List.mem_cons_self)
    have e : v = .ref a := e
    subst e
    exact ⟨a, xs, rfl, .inr ⟨sameT sb.fr.bh ha, by rw [ra.len]; exact k _ _ _ _ _ [_] h sb.st it_rktup⟩⟩
  · obtain ⟨a, xs, e, ha, ra⟩ := r_lst (sb.tm _ List.mem_cons_self)
    have e : v = .ref a := e
    subst e
    exact ⟨a, xs, rfl, .inl ⟨SqL.of (sb.fr.bh _ _ ha), by rw [ra.len]; exact k _ _ _ _ _ [_] h sb.st it_rlst⟩⟩
  · split at h
    · rename_i ec
      obtain ⟨a, e, ha, _, xs, ex, rp⟩ := sb.cell List.mem_cons_self ec
      subst e
      exact ⟨a, xs, rfl, .inl ⟨SqL.of ex, by rw [Paired.length rp]; exact k _ _ _ _ _ [_] h sb.st it_rpin⟩⟩
    · exact h.elim
  · exact h.elim
end
end Y

set_option Elab.async false
set_option linter.all false
set_option maxRecDepth 100000
set_option maxHeartbeats 2000000
namespace Y
open PySem PySem.Spec PyProof.Rows L2 StX
/-! ### a def by its address; a local that holds it -/
structure CalF (P : Program) (w : World) (K : PySem.W.Frag) (mg : Str → Option Value) (base : Heap) (CX : CXT) (k : Nat) (f : Addr) (ps : List Str) (sp : Sp) : Prop where
  ex : ∃ fd, FnOk P w K mg base CX k f fd ps sp ∧ PySem.W.keepIn K (.ref f) = true ∧ Binds K fd ps []
section
variable {P : Program} {w : World} {K : PySem.W.Frag} {mg : Str → Option Value} {base : Heap} {CX : CXT} {j k : Nat} {x : Str} {ps N : List Str} {sp sp' : Sp} {f : Addr}
theorem CalF.mono (c : CalF P w K mg base CX j f ps sp) (h : j ≤ k) : CalF P w K mg base CX k f ps sp := let ⟨fd, F, r⟩ := c.ex; ⟨fd, F.mono h, r⟩
theorem CalF.imp (c : CalF P w K mg base CX k f ps sp) (h : ∀ vs H Q E, sp' vs H Q E → sp vs H Q E) : CalF P w K mg base CX k f ps sp' := let ⟨fd, F, r⟩ := c.ex; ⟨fd, F.imp h, r⟩
theorem Cal.at_ (c : Cal P w K mg base CX k x ps sp) : ∃ f, mg x = some (.ref f) ∧ CalF P w K mg base CX k f ps sp := let ⟨f, fd, F, m, kp, b⟩ := c.ex; ⟨f, m, fd, F, kp, b⟩
end
section
variable {K : PySem.W.Frag} {X : Cx} {E : XK}
variable {Φ : Phi} {B : Hp} {α : List Addr} {H : Hp} {σ : L2.St} {ρ : Env} {ω : Sto} {T : List (V × S)}
def dLoc (i : Nat) (f : Addr) (u : TD) : TD := fun ρ ω q x => ρ[i]? = some (some (.d (.fn f))) ∧ u ρ ω q x
theorem ref_loc {i : Nat} {f : Addr} {sp : Sp} {dvs : List V} {E' : XK} {ta : TA} {u : TD} (h : Ref K E (tCall sp dvs E' ta) u) : Ref K E (tCallL i f sp dvs E' ta) (dLoc i f u) := fun Φ H σ ρ ω T q Q x s hx k hu => by
  refine ⟨?_, h Φ H σ ρ ω T q Q x s hx k hu.2⟩
  obtain ⟨B, α, sb⟩ := s
  obtain ⟨v, e, r⟩ := sb.sl.2 i _ hu.1
  rw [r_fn r] at e
  exact e
section
variable {CX : CXT} {j i : Nat} {ps : List Str} {x : Str} {f : Addr} {e : Expr} {es : List Expr} {p pos : Pos} {u : TAD}
theorem y_loc {C : CP} (i : Nat) (c : CalF X.prog X.w K X.mg X.base CX0 j f ps (spP K C)) (hr : Room j X.A) (ha : PAD X K E (e :: es) ht u) (hN : X.N[i]? = some x := by rfl) (hv : Vis X.env.scope x := by first | exact Or.inl rfl | exact Or.inr (Or.inl rfl) | exact Or.inr (Or.inr rfl)) (hdb : (x == ("__debug__" : Str)) = false := by decide) (hcd : (x == ("__classdict__" : Str)) = false := by decide)
    (he : starEach (e :: es) X.env = (false, eval e X.env) :: starEach es X.env := by rfl) (hpl : (backTo pos (starEach es X.env)).any (·.1) = false := by rfl) (hK : X.K = K := by rfl) : PD X K E (.Call (.Name x p) (e :: es) [] pos) (tCallL i f (spP K C) [] E0 ht) (dLoc i f (dCall C u)) := by
  subst hK
  obtain ⟨fd, F, kp, b⟩ := c.ex
  exact ⟨pe_callL F hr hN hv kp b .nil pass0 ha.p hdb hcd he hpl, ref_loc (ref_call ha.r)⟩
theorem y_locX {C : CPX} (i : Nat) (c : CalF X.prog X.w K X.mg X.base CX j f ps (spPX K C)) (hr : Room j X.A) (hx : Passes CX X E) (ha : PAD X K E (e :: es) ht u) (hN : X.N[i]? = some x := by rfl) (hv : Vis X.env.scope x := by first | exact Or.inl rfl | exact Or.inr (Or.inl rfl) | exact Or.inr (Or.inr rfl)) (hdb : (x == ("__debug__" : Str)) = false := by decide) (hcd : (x == ("__classdict__" : Str)) = false := by decide)
    (he : starEach (e :: es) X.env = (false, eval e X.env) :: starEach es X.env := by rfl) (hpl : (backTo pos (starEach es X.env)).any (·.1) = false := by rfl) (hK : X.K = K := by rfl) : PD X K E (.Call (.Name x p) (e :: es) [] pos) (tCallL i f (spPX K C) [] E ht) (dLoc i f (dCallX C u)) := by
  subst hK
  obtain ⟨fd, F, kp, b⟩ := c.ex
  exact ⟨pe_callL F hr hN hv kp b .nil hx ha.p hdb hcd he hpl, ref_loc (ref_callX ha.r)⟩
theorem y_locG {G : CG} (i : Nat) (c : CalF X.prog X.w K X.mg X.base CX0 j f ps (spG K G)) (hr : Room j X.A) (ha : PAD X K E (e :: es) ht u) (hN : X.N[i]? = some x := by rfl) (hv : Vis X.env.scope x := by first | exact Or.inl rfl | exact Or.inr (Or.inl rfl) | exact Or.inr (Or.inr rfl)) (hdb : (x == ("__debug__" : Str)) = false := by decide) (hcd : (x == ("__classdict__" : Str)) = false := by decide)
    (he : starEach (e :: es) X.env = (false, eval e X.env) :: starEach es X.env := by rfl) (hpl : (backTo pos (starEach es X.env)).any (·.1) = false := by rfl) (hK : X.K = K := by rfl) : PD X K E (.Call (.Name x p) (e :: es) [] pos) (tCallL i f (spG K G) [] E0 ht) (dLoc i f (dCallG G u)) := by
  subst hK
  obtain ⟨fd, F, kp, b⟩ := c.ex
  exact ⟨pe_callL F hr hN hv kp b .nil pass0 ha.p hdb hcd he hpl, ref_loc (ref_callG ha.r)⟩
end
/-! ### dicts of the module -/
structure KTab (K : PySem.W.Frag) (w : World) (mg : Str → Option Value) (x : Str) (a : Addr) (ws : List Str) (tab : Str → Option D) : Prop where
  ma : mg x = some (.ref a)
  ne : ∃ k, k ∈ ws
  ha : ∀ k ∈ ws, ∃ o, KAt K w a k o ∧ match o, tab k with | none, none => True | some v, some d => ∀ B, R K B v d | _, _ => False
def kgetD (ws : List Str) (tab : Str → Option D) : FO := fun s1 s2 ω q => match s1 with
  | .d (.str k) => k ∈ ws ∧ match tab k with
    | some d => q (.d d) ω
    | none => q s2 ω
  | _ => False
section
variable {x : Str} {ws : List Str} {tab : Str → Option D} {a : Addr} {e f : Expr} {t u : TD} {p apos cpos pos : Pos}
theorem y_kget (Tb : KTab X.K X.w X.mg x a ws tab) (h1 : PD X K E e h1t t) (h2 : PD X K E f h2t u) (hg : Gl X x := by rfl) (hd : (x == ("__debug__" : Str)) = false := by decide) (hbase : attributeBase (.Name x p) "get" X.env (eval (.Name x p) X.env) = eval (.Name x p) X.env := by rfl)
    (few : ((backTo cpos (starEach [e, f] X.env)).all (fun x => !x.1) && (backToKw cpos (keywordEach [] X.env)).all (fun x => x.1.isSome) && decide (([e, f] : List Expr).length + ([] : List Keyword).length + (if ([] : List Keyword).isEmpty then 0 else 1) < 30)) = true := by rfl)
    (line : (apos.endLine == cpos.line) = true := by rfl) (trees : backTo cpos (starEach [e, f] X.env) = [(false, eval e X.env), (false, eval f X.env)] := by rfl) (hK : X.K = K := by rfl) :
    PD X K E (.Call (.Attribute (.Name x p) "get" apos) [e, f] [] cpos) (tKGet2 K X.w (tC (.ref a)) h1t h2t) (dOp (kgetD ws tab) t u) := by
  subst hK
  obtain ⟨ma, ⟨kk, hkk⟩, ha⟩ := Tb
  refine ⟨pe_kget2 (pe_glob (v := .ref a) (pos := p) hg ma rfl hd) h1.p h2.p ⟨hbase, few, line, trees⟩, fun Φ H σ ρ ω T q Q y s hx k h => ?_⟩
  refine ⟨a, rfl, ?_, ?_⟩
  · obtain ⟨o, ho, _⟩ := ha kk hkk
    exact ⟨_, o, ho⟩
  refine h1.r Φ H σ ρ ω T _ _ y s hx (fun s1 ω1 v1 H1 h st1 => h2.r Φ H1 σ ρ ω1 _ _ _ y st1 hx (fun s2 ω2 v2 H2 g st2 => ?_) h) h
  unfold kgetD at g
  obtain ⟨B, α, sb⟩ := st2
  split at g
  · rename_i _ z
    obtain ⟨hz, g⟩ := g
    obtain ⟨o, ho, hm⟩ := ha z hz
    refine ⟨z, o, r_str (sb.tm (v1, .d (.str z)) (by simp)), ho, ?_⟩
    cases e2 : tab z with
    | none =>
      rw [e2] at hm
      simp only [e2] at g
      cases o with
      | some v => exact hm.elim
      | none => exact k _ _ _ _ g (sb.st.sub fun p hp => by rcases List.mem_cons.mp hp with rfl | hp <;> simp [*])
    | some d =>
      rw [e2] at hm
      simp only [e2] at g
      cases o with
      | none => exact hm.elim
      | some v => exact k _ _ _ _ g ((sb.st.sub fun p hp => by simp [hp]).push hm)
  · exact g.elim
def kixD (ws : List Str) (tab : Str → Option D) : S → Sto → (S → Sto → Prop) → Prop := fun s1 ω q => match s1 with
  | .d (.str k) => k ∈ ws ∧ match tab k with
    | some d => q (.d d) ω
    | none => False
  | _ => False
theorem y_kix (Tb : KTab X.K X.w X.mg x a ws tab) (h1 : PD X K E e h1t t) (hs : PlainIx e) (hg : Gl X x := by rfl) (hd : (x == ("__debug__" : Str)) = false := by decide) (hK : X.K = K := by rfl) : PD X K E (.Subscript (.Name x p) e pos) (tOp (rIxD K X.w) (tC (.ref a)) h1t) (dUn (kixD ws tab) t) := by
  subst hK
  obtain ⟨ma, _, ha⟩ := Tb
  refine ⟨pe_ix ix_kdict (pe_glob (v := .ref a) (pos := p) hg ma rfl hd) h1.p hs, fun Φ H σ ρ ω T q Q y s hx k h => h1.r Φ H σ ρ ω T _ _ y s hx (fun s1 ω1 v1 H1 h st1 => ?_) h⟩
  unfold kixD at h
  obtain ⟨B, α, sb⟩ := st1
  split at h
  · rename_i z
    obtain ⟨hz, h⟩ := h
    obtain ⟨o, ⟨es, n, r, hl, hk, low, hn, ro⟩, hm⟩ := ha z hz
    cases e2 : tab z with
    | none => simp only [e2] at h
    | some d =>
      rw [e2] at hm
      simp only [e2] at h
      cases o with
      | none => exact hm.elim
      | some v =>
        cases r with
        | none => cases ro
        | some u =>
          refine ⟨a, z, v, rfl, r_str (sb.tm (v1, .d (.str z)) (by simp)), ⟨es, n, u, hl, hk, hn, ro⟩, k _ _ _ _ h ((sb.st.sub fun p hp => List.mem_cons_of_mem _ hp).push hm)⟩
  · exact h.elim
end
/-! ### {k: v, ..} -/
def dPairs : List (TD × TD) → Env → Sto → (List (Key × S) → Sto → Prop) → XD → Prop
  | [], _, ω, q, _ => q [] ω
  | (tk, tv) :: r, ρ, ω, q, x => tk ρ ω (fun s ω1 => match s with
    | .d d => match keyOf d with
      | some k => tv ρ ω1 (fun y ω2 => dPairs r ρ ω2 (fun kvs ω3 => q ((k, y) :: kvs) ω3) x) x
      | none => False
    | _ => False) x
def RefPs (K : PySem.W.Frag) (E : XK) (trs : List (TE × TE)) (tds : List (TD × TD)) : Prop := ∀ (Φ : Phi) (H : Hp) (σ : L2.St) (ρ : Env) (ω : Sto) (T : List (V × S)) (q : List (Key × S) → Sto → Prop) (Q : List (V × V) → Hp → Prop) (x : XD), St Φ K H σ ρ ω T → XOk Φ K x E →
  (∀ (kvs : List (Key × V)) (kss : List (Key × S)) ω' H', q kss ω' → kvs.map Prod.fst = kss.map Prod.fst → St Φ K H' σ ρ ω' ((kvs.map Prod.snd).zip (kss.map Prod.snd) ++ T) → Q (kvs.map fun kv => (kV kv.1, kv.2)) H') → dPairs tds ρ ω q x → tPairs trs σ H Q
structure PPsD (X : Cx) (K : PySem.W.Frag) (E : XK) (pos : Pos) (keys : List (Option Expr)) (values : List Expr) (trs : List (TE × TE)) (tds : List (TD × TD)) : Prop where
  p : PPs X pos keys values trs
  r : RefPs K E trs tds
theorem ypps_nil {pos : Pos} : PPsD X K E pos [] [] [] [] := ⟨pps_nil, fun Φ H σ ρ ω T q Q x s hx k h => k [] [] ω H h rfl s⟩
theorem ypps_cons {pos : Pos} {k v : Expr} {ks : List (Option Expr)} {vs : List Expr} {tk tv : TD} {tds : List (TD × TD)} (hk : PD X K E k hkt tk) (hv : PD X K E v hvt tv) (hr : PPsD X K E pos ks vs trs tds) : PPsD X K E pos (some k :: ks) (v :: vs) ((hkt, hvt) :: trs) ((tk, tv) :: tds) :=
  ⟨pps_cons hk.p hv.p hr.p, fun Φ H σ ρ ω T q Q x s hx k h => hk.r Φ H σ ρ ω T _ _ x s hx (fun s1 ω1 v1 H1 h st1 => by
    split at h
    · rename_i d
      split at h
      · rename_i key ek
        refine hv.r Φ H1 σ ρ ω1 _ _ _ x st1 hx (fun s2 ω2 v2 H2 h st2 => hr.r Φ H2 σ ρ ω2 _ _ _ x st2 hx (fun kvs kss ω3 H3 h hl st3 => ?_) h) h
        have e1 : v1 = kV key := by
          obtain ⟨B, α, sb⟩ := st1
          exact r_key ek (sb.tm (v1, .d d) List.mem_cons_self)
        subst e1
        refine k ((key, v2) :: kvs) ((key, s2) :: kss) ω3 H3 h (by simp [hl]) (st3.sub fun p hp => ?_)
        simp only [List.map_cons, List.zip_cons_cons, List.cons_append, List.mem_cons, List.mem_append] at hp ⊢
        rcases hp with hp | hp | hp
        · exact .inr (.inl hp)
        · exact .inl hp
        · exact .inr (.inr (.inr hp))
      · exact h.elim
    · exact h.elim) h⟩
def mergeS (kvs more : List (Key × S)) : List (Key × S) := more.foldl (fun acc kv => putS acc kv.1 kv.2) kvs
theorem RK.merge {α : List Addr} {B : Hp} : ∀ {more : List (Key × V)} {ms : List (Key × S)} {kvs : List (Key × V)} {kss : List (Key × S)}, RK K α B more ms → RK K α B kvs kss → RK K α B (mergeK kvs more) (mergeS kss ms)
  | _, _, _, _, .nil, h => h
  | _, _, _, _, .cons (b := b) p t, h => by
    unfold mergeK mergeS
    rw [List.foldl_cons, List.foldl_cons]
    refine RK.merge t ?_
    rw [p.1]
    exact h.put p.2
def dDisp (tds : List (TD × TD)) : TD := fun ρ ω q x => dPairs tds ρ ω (fun kvs ω' => kvs.length ≤ 15 ∧ q (.pin ω'.length) (ω' ++ [.dK (mergeS [] kvs)])) x
/-- an object that is not known yet becomes one that changes -/
theorem StB.adoptC (s : StB Φ K B α H σ ρ ω T) {p : Addr} (na : p ∉ α) (nb : B p = none) (nf : Φ.H p = none) (o : HO) {c : Cell} (hc : CellOk K (α ++ [p]) B (upd H p o) p c) : St Φ K (upd H p o) σ ρ (ω ++ [c]) ((.ref p, .pin ω.length) :: T) := by
  obtain ⟨β, eβ, nβ⟩ := s.fr.pre
  have st : StB Φ K B (α ++ [p]) (upd H p o) σ ρ (ω ++ [c]) T := by
    refine ⟨⟨s.fr.bb, fun b u q => ?_, fun b u m q => ?_, s.fr.fr, β ++ [p], by rw [eβ, List.append_assoc], fun a m => ?_⟩, ⟨?_, by simp [s.wd.len], fun a m => ?_, fun j a c' e1 e2 => ?_⟩, s.sl.mono (Same.refl B) ⟨[p], rfl⟩, fun q hq => (s.tm q hq).mono (Same.refl B)⟩
    · rw [upd_ne (ne_of_none q nb)]; exact s.fr.bh b u q
    · rw [upd_ne (ne_of_none q nf)]; exact s.fr.hh b u m q
    · rcases List.mem_append.mp m with m | m
      · exact nβ a m
      · rw [List.mem_singleton.mp m]; exact .inl nf
    · rw [List.nodup_append]
      exact ⟨s.wd.nd, by simp, fun a ha b hb => by rw [List.mem_singleton.mp hb]; exact fun z => na (z ▸ ha)⟩
    · rcases List.mem_append.mp m with m | m
      · obtain ⟨u, q⟩ := s.wd.tr a m
        exact ⟨u, by rw [upd_ne (show a ≠ p from fun z => na (z ▸ m))]; exact q⟩
      · rw [List.mem_singleton.mp m]; exact ⟨_, upd_same⟩
    · by_cases hj : j < α.length
      · rw [List.getElem?_append_left hj] at e1
        rw [List.getElem?_append_left (by rw [← s.wd.len]; exact hj)] at e2
        have ne : a ≠ p := fun z => na (z ▸ List.mem_of_getElem? e1)
        exact (s.wd.cell j a c' e1 e2).mono (Same.refl B) id (by rw [upd_ne ne])
      · have hl : j < (α ++ [p]).length := (List.getElem?_eq_some_iff.mp e1).1
        have : j = α.length := by simp at hl; omega
        subst this
        rw [List.getElem?_append_right (Nat.le_refl _)] at e1
        rw [s.wd.len, List.getElem?_append_right (Nat.le_refl _)] at e2
        simp at e1 e2
        subst e1 e2
        exact hc
  exact (st.push (x := .pin ω.length) ⟨p, by rw [← s.wd.len]; simp, rfl⟩).st
theorem rk_zip {α : List Addr} {B : Hp} : ∀ {kvs : List (Key × V)} {kss : List (Key × S)}, kvs.map Prod.fst = kss.map Prod.fst → (∀ p ∈ (kvs.map Prod.snd).zip (kss.map Prod.snd), RS K α B p.1 p.2) → RK K α B kvs kss
  | [], [], _, _ => .nil
  | a :: kvs, b :: kss, h, g => by
    rw [List.map_cons, List.map_cons] at h
    exact .cons ⟨(List.cons.inj h).1, g (a.2, b.2) (by simp)⟩ (rk_zip (List.cons.inj h).2 fun p hp => g p (by simp [hp]))
  | [], _ :: _, h, _ => by simp at h
  | _ :: _, [], h, _ => by simp at h
/-- nothing stood where it is free -/
theorem StB.nfree (sb : StB Φ K B α H σ ρ ω T) {p : Addr} (hp : H p = none) : Φ.H p = none := by
  have nf : Φ.H p = none ∨ p ∈ Φ.α := by
    by_cases m : p ∈ Φ.α
    · exact .inr m
    · cases z : Φ.H p with
      | none => exact .inl rfl
      | some o => rw [sb.fr.hh p o m z] at hp; cases hp
  rcases nf with z | z
  · exact z
  · obtain ⟨β, eβ, _⟩ := sb.fr.pre
    obtain ⟨o, e⟩ := sb.wd.tr p (by rw [eβ]; simp [z])
    rw [hp] at e; cases e
theorem StB.beside (sb : StB Φ K B α H σ ρ ω T) {p : Addr} (hp : H p = none) (o : HO) : StB Φ K B α (upd H p o) σ ρ ω T := by
  have gH : Same H (upd H p o) := fun b u q => by rw [upd_ne (ne_of_none q hp)]; exact q
  have nm := sb.wd.fresh hp
  refine ⟨⟨sb.fr.bb, sb.fr.bh.trans gH, fun b o m z => gH _ _ (sb.fr.hh b o m z), sb.fr.fr, sb.fr.pre⟩, ⟨sb.wd.nd, sb.wd.len, fun a m => let ⟨o, e⟩ := sb.wd.tr a m; ⟨o, gH _ _ e⟩, fun j a c e1 e2 => ?_⟩, sb.sl, sb.tm⟩
  have ne : a ≠ p := fun z => nm (z ▸ List.mem_of_getElem? e1)
  have := (sb.wd.cell j a c e1 e2).mono (β := []) (Same.refl B) id (H' := upd H p o) (by rw [upd_ne ne])
  simpa using this
theorem y_disp {pos : Pos} {keys : List (Option Expr)} {values : List Expr} {trs : List (TE × TE)} {tds : List (TD × TD)} (h : PPsD X K E pos keys values trs tds) (hall : keys.all (·.isSome) = true) (hl : keys.length = values.length) (h0 : keys ≠ []) (h15 : keys.length ≤ 15) : PD X K E (.Dict keys values pos) (tDisp trs) (dDisp tds) := by
  refine ⟨pe_disp h.p hall hl h0 h15, fun Φ H σ ρ ω T q Q x ⟨B, α, sb⟩ hx k hh p hp => ?_⟩
  have nm := sb.wd.fresh hp
  have nb := sb.fr.bh.free hp
  have nf := sb.nfree hp
  have sb1 := sb.beside hp (.dK [])
  have sb0 : StB ⟨B, upd H p (.dK []), α⟩ K B α (upd H p (.dK [])) σ ρ ω T := ⟨Frame.refl sb1.fr.bh, sb1.wd, sb1.sl, sb1.tm⟩
  refine h.r _ _ σ ρ ω T _ _ x sb0.st (hx.step sb1.fr) (fun kvs kss ω' H' hq hk ⟨B', α', st⟩ => ?_) hh
  obtain ⟨hn, hq⟩ := hq
  obtain ⟨x1, x2, x3⟩ := st.fr.out upd_same nm nb
  have len : kvs.length = kss.length := by
    have := congrArg List.length hk
    simpa using this
  refine ⟨x1, kvs, rfl, by omega, k _ _ _ _ hq ?_⟩
  have sb2 : StB Φ K B' α' H' σ ρ ω' T := ⟨sb1.fr.trans st.fr, st.wd, st.sl, fun p hp => st.tm p (List.mem_append_right _ hp)⟩
  have rk : RK K α' B' kvs kss := rk_zip hk fun p hp => st.tm p (List.mem_append_left _ hp)
  exact sb2.adoptC x2 x3 nf (.dK _) (c := .dK _) ⟨x3, _, upd_same, (RK.merge rk .nil).mono (Same.refl _)⟩
end
end Y

set_option Elab.async false
set_option linter.all false
set_option maxRecDepth 100000
set_option maxHeartbeats 2000000
namespace Y
open PySem PySem.Spec PyProof.Rows L2 StX
/-! ### room -/
theorem hu_of {k : Nat} {A : Around} (r : Room k A) : A.units + 1 < cLine := by have := r.un; omega
/-! ### not e, by its truth -/
def dNotTv (t : TD) : TD := fun ρ ω q x => t ρ ω (fun s ω' => truD s ω' fun b ω2 => q (.d (.bl (!b))) ω2) x
theorem y_notT {K : PySem.W.Frag} {X : Cx} {E : XK} {a : Expr} {t : TD} {pos : Pos} (h0 : PD X K E a ht t) (hK : X.K = K := by rfl) : PD X K E (.UnaryOp .Not a pos) (tNotT K ht) (dNotTv t) := by
  subst hK
  refine ⟨pe_notT h0.p, fun Φ H σ ρ ω T q Q x s hx k h => h0.r Φ H σ ρ ω T _ _ x s hx (fun s1 ω1 v H1 h st => ?_) h⟩
  obtain ⟨B, α, sb⟩ := st
  exact tru_ok2 (Q := fun b H => Q (.bl (!b)) H) sb List.mem_cons_self (fun b hb => k _ _ _ _ hb ((sb.st.sub fun p hp => List.mem_cons_of_mem _ hp).push fun _ => .bl _)) h
/-! ### what isinstance tells -/
def isiD (T : String) (s : S) (ω : Sto) (q : S → Sto → Prop) : Prop := match tyS s ω with | some a => q (.d (.bl (kitS a T))) ω | none => False
section
variable {T : String} {b : Bool} {i j : Int} {x y : Str} {a : Addr} {ds es : List D} {n : Nat} {ω : Sto} {q : S → Sto → Prop} {neg : Bool}
theorem ty_non : isiD T (.d .non) ω q = q (.d (.bl (kitS "NoneType" T))) ω := rfl
theorem ty_bl : isiD T (.d (.bl b)) ω q = q (.d (.bl (kitS "bool" T))) ω := rfl
theorem ty_int : isiD T (.d (.int i)) ω q = q (.d (.bl (kitS "int" T))) ω := rfl
theorem ty_str : isiD T (.d (.str x)) ω q = q (.d (.bl (kitS "str" T))) ω := rfl
theorem ty_tup : isiD T (.d (.tup ds)) ω q = q (.d (.bl (kitS "tuple" T))) ω := rfl
theorem ty_ktup : isiD T (.d (.ktup ds)) ω q = q (.d (.bl (kitS "tuple" T))) ω := rfl
theorem ty_lst : isiD T (.d (.lst ds)) ω q = q (.d (.bl (kitS "list" T))) ω := rfl
theorem ty_pin : isiD T (.pin n) ω q = match ω[n]? with
    | some (.lst _) => q (.d (.bl (kitS "list" T))) ω
    | some (.dK _) => q (.d (.bl (kitS "dict" T))) ω
    | some (.dT _) => q (.d (.bl (kitS "dict" T))) ω
    | _ => False := by
  cases h : ω[n]? with
  | none => simp only [isiD, tyS, h]
  | some c => cases c <;> simp only [isiD, tyS, h]
/-! ### equal -/
theorem eq_ii : eqD neg (.d (.int i)) (.d (.int j)) ω q = q (.d (.bl (neg ^^ decide (i = j)))) ω := rfl
theorem eq_ss : eqD neg (.d (.str x)) (.d (.str y)) ω q = q (.d (.bl (neg ^^ decide (x = y)))) ω := rfl
theorem eq_bb {c : Bool} : eqD neg (.d (.bl b)) (.d (.bl c)) ω q = q (.d (.bl (neg ^^ decide (b = c)))) ω := rfl
theorem eq_tt : eqD neg (.d (.tup ds)) (.d (.tup es)) ω q = ((okD (.tup ds) ∧ okD (.tup es)) ∧ q (.d (.bl (neg ^^ PyData.eqv (toP (.tup ds)) (toP (.tup es))))) ω) := rfl
theorem eq_ll : eqD neg (.d (.lst ds)) (.d (.lst es)) ω q = ((okD (.lst ds) ∧ okD (.lst es)) ∧ q (.d (.bl (neg ^^ PyData.eqv (toP (.lst ds)) (toP (.lst es))))) ω) := rfl
theorem eq_tk : eqD neg (.d (.tup ds)) (.d (.ktup es)) ω q = ((okD (.tup ds) ∧ okD (.ktup es)) ∧ q (.d (.bl (neg ^^ PyData.eqv (toP (.tup ds)) (toP (.ktup es))))) ω) := rfl
/-! ### in -/
theorem in_tup {d : D} : inD neg (.d d) (.d (.tup ds)) ω q = inSq neg d ds ω q := by cases d <;> rfl
theorem in_ktup {d : D} : inD neg (.d d) (.d (.ktup ds)) ω q = inSq neg d ds ω q := by cases d <;> rfl
theorem in_lst {d : D} : inD neg (.d d) (.d (.lst ds)) ω q = inSq neg d ds ω q := by cases d <;> rfl
theorem in_str : inD neg (.d (.str x)) (.d (.str y)) ω q = q (.d (.bl (neg ^^ inStr x y))) ω := rfl
theorem in_pin {d : D} : inD neg (.d d) (.pin n) ω q = match ω[n]? with
    | some (.lst ss) => match allD ss with
      | some ds => inSq neg d ds ω q
      | none => False
    | some c => match lookC c d with
      | some o => q (.d (.bl (neg ^^ o.isSome))) ω
      | none => False
    | none => False := by cases d <;> rfl
def strsOf : List D → Option (List Str)
  | [] => some []
  | .str x :: ds => (strsOf ds).map (x :: ·)
  | _ :: _ => none
def intsOf : List D → Option (List Int)
  | [] => some []
  | .int x :: ds => (intsOf ds).map (x :: ·)
  | _ :: _ => none
theorem strsOf_nil : strsOf [] = some [] := rfl
theorem strsOf_cons : strsOf (.str x :: ds) = (strsOf ds).map (x :: ·) := rfl
theorem strsOf_map : ∀ {xs : List Str}, strsOf (xs.map .str) = some xs
  | [] => rfl
  | x :: xs => by rw [List.map_cons, strsOf_cons, strsOf_map]; rfl
theorem intsOf_nil : intsOf [] = some [] := rfl
theorem intsOf_cons : intsOf (.int i :: ds) = (intsOf ds).map (i :: ·) := rfl
theorem intsOf_map : ∀ {xs : List Int}, intsOf (xs.map .int) = some xs
  | [] => rfl
  | x :: xs => by rw [List.map_cons, intsOf_cons, intsOf_map]; rfl
theorem strsOf_eq : ∀ {ds : List D} {xs : List Str}, strsOf ds = some xs → ds = xs.map .str
  | [], xs, h => by cases h; rfl
  | .str x :: ds, xs, h => by
    simp only [strsOf, Option.map_eq_some_iff] at h
    obtain ⟨r, h1, rfl⟩ := h
    rw [strsOf_eq h1]
    rfl
  | .non :: _, _, h => by cases h
  | .bl _ :: _, _, h => by cases h
  | .int _ :: _, _, h => by cases h
  | .fn _ :: _, _, h => by cases h
  | .tup _ :: _, _, h => by cases h
  | .ktup _ :: _, _, h => by cases h
  | .lst _ :: _, _, h => by cases h
  | .klst _ :: _, _, h => by cases h
theorem intsOf_eq : ∀ {ds : List D} {xs : List Int}, intsOf ds = some xs → ds = xs.map .int
  | [], xs, h => by cases h; rfl
  | .int x :: ds, xs, h => by
    simp only [intsOf, Option.map_eq_some_iff] at h
    obtain ⟨r, h1, rfl⟩ := h
    rw [intsOf_eq h1]
    rfl
  | .non :: _, _, h => by cases h
  | .bl _ :: _, _, h => by cases h
  | .str _ :: _, _, h => by cases h
  | .fn _ :: _, _, h => by cases h
  | .tup _ :: _, _, h => by cases h
  | .ktup _ :: _, _, h => by cases h
  | .lst _ :: _, _, h => by cases h
  | .klst _ :: _, _, h => by cases h
theorem memF_str : ∀ {xs : List Str}, memF (.str x) (xs.map .str) = decide (x ∈ xs)
  | [] => rfl
  | y :: xs => by
    have ih := @memF_str xs
    unfold memF at ih ⊢
    rw [List.map_cons, List.any_cons, ih, eqF]
    by_cases h1 : y = x
    · subst h1; simp
    · have h2 : ¬ x = y := fun z => h1 z.symm
      by_cases h3 : x ∈ xs <;> simp [h1, h2, h3]
theorem memP_str : ∀ {xs : List Str}, memP (.str x) (xs.map .str) = decide (x ∈ xs)
  | [] => rfl
  | y :: xs => by
    have ih := @memP_str xs
    unfold memP at ih ⊢
    rw [List.map_cons, toPs, List.any_cons, ih, toP, toP, PyData.eqv]
    by_cases h1 : y = x
    · subst h1; simp
    · have h2 : ¬ x = y := fun z => h1 z.symm
      by_cases h3 : x ∈ xs <;> simp [h1, h2, h3]
theorem memF_int : ∀ {xs : List Int}, memF (.int i) (xs.map .int) = decide (i ∈ xs)
  | [] => rfl
  | y :: xs => by
    have ih := @memF_int xs
    unfold memF at ih ⊢
    rw [List.map_cons, List.any_cons, ih, eqF]
    by_cases h1 : y = i
    · subst h1; simp
    · have h2 : ¬ i = y := fun z => h1 z.symm
      by_cases h3 : i ∈ xs <;> simp [h1, h2, h3]
theorem memP_int : ∀ {xs : List Int}, memP (.int i) (xs.map .int) = decide (i ∈ xs)
  | [] => rfl
  | y :: xs => by
    have ih := @memP_int xs
    unfold memP at ih ⊢
    rw [List.map_cons, toPs, List.any_cons, ih, toP, toP, PyData.eqv]
    by_cases h1 : y = i
    · subst h1; simp
    · have h2 : ¬ i = y := fun z => h1 z.symm
      by_cases h3 : i ∈ xs <;> simp [h1, h2, h3]
def inSqO (neg : Bool) (x : D) (ds : List D) (ω : Sto) (q : S → Sto → Prop) : Prop := inSq neg x ds ω q
theorem flat_str : ∀ {xs : List Str}, (xs.map D.str).all flatD = true
  | [] => rfl
  | _ :: xs => by rw [List.map_cons, List.all_cons, flat_str]; rfl
theorem flat_int : ∀ {xs : List Int}, (xs.map D.int).all flatD = true
  | [] => rfl
  | _ :: xs => by rw [List.map_cons, List.all_cons, flat_int]; rfl
theorem inSq_str : inSq neg (.str x) ds ω q = match strsOf ds with | some xs => q (.d (.bl (neg ^^ decide (x ∈ xs)))) ω | none => inSqO neg (.str x) ds ω q := by
  cases h : strsOf ds with
  | none => rfl
  | some xs =>
    rw [strsOf_eq h]
    show inSq _ _ _ _ _ = q _ ω
    unfold inSq
    rw [memF_str, memP_str]
    refine propext ⟨fun h => ?_, fun h => .inl ⟨⟨rfl, flat_str⟩, h⟩⟩
    rcases h with h | h <;> exact h.2
theorem inSq_int : inSq neg (.int i) ds ω q = match intsOf ds with | some xs => q (.d (.bl (neg ^^ decide (i ∈ xs)))) ω | none => inSqO neg (.int i) ds ω q := by
  cases h : intsOf ds with
  | none => rfl
  | some xs =>
    rw [intsOf_eq h]
    show inSq _ _ _ _ _ = q _ ω
    unfold inSq
    rw [memF_int, memP_int]
    refine propext ⟨fun h => ?_, fun h => .inl ⟨⟨rfl, flat_int⟩, h⟩⟩
    rcases h with h | h <;> exact h.2
theorem inSq_deep {d : D} (h0 : flatD d = false) (h1 : okD d) (h2 : okD (.tup ds)) : inSq neg d ds ω q = q (.d (.bl (neg ^^ memP d ds))) ω := by
  unfold inSq
  rw [h0]
  simp [h1, h2]
/-! ### an index, a length -/
theorem ix_tup : ixD (.d (.tup ds)) (.d (.int i)) ω q = match atI ds i with | some d => q (.d d) ω | none => False := rfl
theorem ix_ktup : ixD (.d (.ktup ds)) (.d (.int i)) ω q = match atI ds i with | some d => q (.d d) ω | none => False := rfl
theorem ix_lst : ixD (.d (.lst ds)) (.d (.int i)) ω q = match atI ds i with | some d => q (.d d) ω | none => False := rfl
theorem ix_str : ixD (.d (.str x)) (.d (.int i)) ω q = match atI x.cps.toList i with | some c => x.length ≤ 1000000 ∧ q (.d (.str ⟨#[c]⟩)) ω | none => False := rfl
theorem ix_pin {d : D} : ixD (.pin n) (.d d) ω q = match ω[n]? with
    | some (.lst ss) => match d with
      | .int i => match atI ss i with
        | some s => q s ω
        | none => False
      | _ => False
    | some c => match lookC c d with
      | some (some s) => q s ω
      | _ => False
    | none => False := rfl
theorem len_tup : lenD [.d (.tup ds)] ω q = q (.d (.int ds.length)) ω := rfl
theorem len_ktup : lenD [.d (.ktup ds)] ω q = q (.d (.int ds.length)) ω := rfl
theorem len_lst : lenD [.d (.lst ds)] ω q = q (.d (.int ds.length)) ω := rfl
theorem len_str : lenD [.d (.str x)] ω q = (x.length ≤ 1000000 ∧ q (.d (.int x.length)) ω) := rfl
theorem len_pin : lenD [.pin n] ω q = match ω[n]? with
    | some (.lst ss) => q (.d (.int ss.length)) ω
    | some (.dK kvs) => q (.d (.int kvs.length)) ω
    | _ => False := by
  cases h : ω[n]? with
  | none => simp only [lenD, h]
  | some c => cases c <;> simp only [lenD, h]
end
/-! ### dicts, step by step -/
section
variable {κ : Type} [DecidableEq κ] {a k : κ} {s v : S} {r : List (κ × S)}
theorem valS_nil : valS ([] : List (κ × S)) k = none := rfl
theorem valS_cons : valS ((a, s) :: r) k = if a = k then some s else valS r k := by
  unfold valS
  rw [List.find?_cons]
  by_cases h : a = k <;> simp [h]
theorem putS_nil : putS ([] : List (κ × S)) k s = [(k, s)] := rfl
theorem putS_cons : putS ((a, s) :: r) k v = if a = k then (a, v) :: r.map (fun kv => if kv.1 = k then (kv.1, v) else kv) else (a, s) :: putS r k v := by
  unfold putS
  rw [List.any_cons]
  by_cases h : a = k
  · simp [h]
  · simp only [h, decide_false, Bool.false_or, if_false]
    by_cases h2 : (r.any fun kv => decide (kv.1 = k)) = true
    · rw [if_pos h2, if_pos h2, List.map_cons, if_neg h]
    · rw [if_neg h2, if_neg h2]
      rfl
end
/-! ### lists -/
section
variable {α β : Type} {l m : List α} {a b c d e : α} {n : Nat}
theorem atI_nat : atI l ((n : Nat) : Int) = l[n]? := by
  unfold atI ixN
  rw [if_pos (by omega)]
  by_cases h : n < l.length
  · rw [if_pos (by omega)]
    simp
  · rw [if_neg (by omega)]
    simp; omega
theorem atI_0 : atI (a :: l) 0 = some a := (atI_nat (n := 0)).trans rfl
theorem atI_1 : atI (a :: b :: l) 1 = some b := (atI_nat (n := 1)).trans rfl
theorem atI_2 : atI (a :: b :: c :: l) 2 = some c := (atI_nat (n := 2)).trans rfl
theorem atI_3 : atI (a :: b :: c :: d :: l) 3 = some d := (atI_nat (n := 3)).trans rfl
theorem atI_1m1 : atI [a] (-1) = some a := rfl
theorem atI_2m1 : atI [a, b] (-1) = some b := rfl
theorem atI_2m2 : atI [a, b] (-2) = some a := rfl
theorem atI_3m1 : atI [a, b, c] (-1) = some c := rfl
theorem atI_3m2 : atI [a, b, c] (-2) = some b := rfl
theorem atI_4m1 : atI [a, b, c, d] (-1) = some d := rfl
theorem atI_4m2 : atI [a, b, c, d] (-2) = some c := rfl
theorem cut_from : cutL l (some (n : Int)) none = l.drop n := by
  unfold cutL
  rw [HT.sIx_nat, HT.sIx_none]
  by_cases h : n ≤ l.length
  · rw [Nat.min_eq_left h, List.take_of_length_le (by rw [List.length_drop]; omega)]
  · rw [Nat.min_eq_right (by omega), List.drop_length, List.drop_of_length_le (by omega)]
    simp
theorem cut_to : cutL l none (some (n : Int)) = l.take n := by
  unfold cutL
  rw [HT.sIx_nat, HT.sIx_none, List.drop_zero, Nat.sub_zero]
  by_cases h : n ≤ l.length
  · rw [Nat.min_eq_left h]
  · rw [Nat.min_eq_right (by omega), List.take_length, List.take_of_length_le (by omega)]
theorem cut_1 : cutL (a :: l) (some 1) none = l := (cut_from (n := 1)).trans rfl
theorem cut_2 : cutL (a :: b :: l) (some 2) none = l := (cut_from (n := 2)).trans rfl
theorem cut_to1 : cutL (a :: l) none (some 1) = [a] := (cut_to (n := 1)).trans rfl
theorem cut_to2 : cutL (a :: b :: l) none (some 2) = [a, b] := (cut_to (n := 2)).trans rfl
theorem cut_none : cutL l none none = l := by
  unfold cutL
  rw [HT.sIx_none, HT.sIx_none, List.drop_zero, Nat.sub_zero, List.take_length]
theorem get_app {i : Nat} (h : l[i]? = some a) : (l ++ m)[i]? = some a := by
  rw [List.getElem?_append_left (List.getElem?_eq_some_iff.mp h).1]
  exact h
theorem get_new : (l ++ a :: m)[l.length]? = some a := by simp
theorem get_new1 : (l ++ a :: b :: m)[l.length + 1]? = some b := by simp
theorem get_new2 : (l ++ a :: b :: c :: m)[l.length + 2]? = some c := by simp
theorem get_new3 : (l ++ a :: b :: c :: d :: m)[l.length + 3]? = some d := by simp
theorem get_newm {f : β → α} {z : List β} : (z.map f ++ a :: m)[z.length]? = some a := by simp
theorem set_new : (l ++ a :: m).set l.length e = l ++ e :: m := by simp
theorem set_new1 : (l ++ a :: b :: m).set (l.length + 1) e = l ++ a :: e :: m := by
  rw [List.set_append_right _ _ (by omega)]
  simp
theorem set_new2 : (l ++ a :: b :: c :: m).set (l.length + 2) e = l ++ a :: b :: e :: m := by
  rw [List.set_append_right _ _ (by omega)]
  simp
theorem set_new3 : (l ++ a :: b :: c :: d :: m).set (l.length + 3) e = l ++ a :: b :: c :: e :: m := by
  rw [List.set_append_right _ _ (by omega)]
  simp
theorem set_same {i : Nat} (h : l[i]? = some a) : l = l.set i a := by
  obtain ⟨h1, h2⟩ := List.getElem?_eq_some_iff.mp h
  rw [← h2]
  exact (List.set_getElem_self h1).symm
theorem isEmpty_snoc : (l ++ [a]).isEmpty = false := by cases l <;> rfl
end
theorem ofString_inj {a b : String} : (Str.ofString a = Str.ofString b) = (a = b) := by
  refine propext ⟨fun h => ?_, fun h => by rw [h]⟩
  rw [Str.ofString_eq_toList, Str.ofString_eq_toList] at h
  have h2 : a.toList.map Char.toNat = b.toList.map Char.toNat := by simpa using h
  have inj : ∀ {l m : List Char}, l.map Char.toNat = m.map Char.toNat → l = m := by
    intro l
    induction l with
    | nil => intro m h; cases m with | nil => rfl | cons => simp at h
    | cons x l ih =>
      intro m h
      cases m with
      | nil => simp at h
      | cons y m =>
        rw [List.map_cons, List.map_cons] at h
        rw [ih (List.cons.inj h).2]
        congr 1
        exact Char.ext (UInt32.toNat_inj.mp (List.cons.inj h).1)
  exact String.toList_inj.mp (inj h2)
/-! ### data of lists -/
theorem allD_mapf {β : Type} {f : β → D} {l : List β} : allD (l.map fun s => S.d (f s)) = some (l.map f) := by
  rw [← allD_map, List.map_map]
  rfl
theorem allD_app : ∀ {a b : List S}, allD (a ++ b) = match allD a with | some x => (allD b).map fun y => x ++ y | none => none
  | [], b => by
    show allD b = (allD b).map fun y => y
    simp
  | .d x :: a, b => by
    rw [List.cons_append, allD, allD_app, allD]
    cases allD a with
    | none => rfl
    | some y => cases allD b <;> rfl
  | .pin _ :: a, b => rfl
theorem allB_map {bs : List Bool} : allB (bs.map .bl) = some bs := by
  induction bs with
  | nil => rfl
  | cons d ds ih => rw [List.map_cons, allB, ih]; rfl
theorem allI_map {bs : List Int} : allI (bs.map .int) = some bs := by
  induction bs with
  | nil => rfl
  | cons d ds ih => rw [List.map_cons, allI, ih]; rfl
theorem allB_mapf {β : Type} {f : β → Bool} {l : List β} : allB (l.map fun s => D.bl (f s)) = some (l.map f) := by
  rw [← allB_map, List.map_map]
  rfl
theorem allI_mapf {β : Type} {f : β → Int} {l : List β} : allI (l.map fun s => D.int (f s)) = some (l.map f) := by
  rw [← allI_map, List.map_map]
  rfl
theorem rng_0 {lo : Int} : rngS lo 0 = [] := rfl
theorem rng_1 {lo : Int} : rngS lo 1 = [.d (.int lo)] := by simp [rngS, List.range_succ]
theorem rng_2 {lo : Int} : rngS lo 2 = [.d (.int lo), .d (.int (lo + 1))] := by simp [rngS, List.range_succ]
theorem rng_3 {lo : Int} : rngS lo 3 = [.d (.int lo), .d (.int (lo + 1)), .d (.int (lo + 2))] := by simp [rngS, List.range_succ]
end Y

set_option Elab.async false
set_option linter.all false
set_option maxRecDepth 100000
set_option maxHeartbeats 2000000
namespace Y
open PySem PySem.Spec PyProof.Rows L2 StX
/-! ### step by step: what a goal asks next -/
/-- a step that is computed -/
def Lf {α : Sort _} (f : α → Prop) (q : α) : Prop := f q
theorem lf_go {α : Sort _} {f : α → Prop} {q : α} (h : ∀ Q, Q = q → f Q) : Lf f q := h q rfl
section
variable {ρ : Env} {ω : Sto} {q : S → Sto → Prop} {x : XD} {t u w : TD} {f g : FO} {c d : TTD} {ta : TAD} {D0 : D}
theorem g_c (h : q (.d D0) ω) : dC D0 ρ ω q x := h
theorem g_v {i : Nat} (h : dVar i ρ ω q x) : dVar i ρ ω q x := h
theorem g_st {i : Nat} {ed : EndsD} (h : dSet i t ed ρ ω) : dSet i t ed ρ ω := h
theorem g_gn {i : Nat} {s : S} {k : Env → Sto → Prop} (h : dgName i s ρ ω k) : dgName i s ρ ω k := h
theorem g_var0 {s : S} {r : Env} (h : q s ω) : dVar 0 (some s :: r) ω q x := h
theorem g_set0 {y : Option S} {r : Env} {nx : Env → Sto → Prop} {rt : S → Sto → Prop} {bk ct : Env → Sto → Prop} (h : t (y :: r) ω (fun s ω1 => nx (some s :: r) ω1) x) : dSet 0 t ⟨nx, rt, bk, ct, x⟩ (y :: r) ω := h
theorem g_gn0 {y : Option S} {s : S} {r : Env} {k : Env → Sto → Prop} (h : k (some s :: r) ω) : dgName 0 s (y :: r) ω k := h
theorem g_var1 {a0 : Option S} {s : S} {r : Env} (h : q s ω) : dVar 1 (a0 :: some s :: r) ω q x := h
theorem g_set1 {a0 : Option S} {y : Option S} {r : Env} {nx : Env → Sto → Prop} {rt : S → Sto → Prop} {bk ct : Env → Sto → Prop} (h : t (a0 :: y :: r) ω (fun s ω1 => nx (a0 :: some s :: r) ω1) x) : dSet 1 t ⟨nx, rt, bk, ct, x⟩ (a0 :: y :: r) ω := h
theorem g_gn1 {a0 : Option S} {y : Option S} {s : S} {r : Env} {k : Env → Sto → Prop} (h : k (a0 :: some s :: r) ω) : dgName 1 s (a0 :: y :: r) ω k := h
theorem g_var2 {a0 a1 : Option S} {s : S} {r : Env} (h : q s ω) : dVar 2 (a0 :: a1 :: some s :: r) ω q x := h
theorem g_set2 {a0 a1 : Option S} {y : Option S} {r : Env} {nx : Env → Sto → Prop} {rt : S → Sto → Prop} {bk ct : Env → Sto → Prop} (h : t (a0 :: a1 :: y :: r) ω (fun s ω1 => nx (a0 :: a1 :: some s :: r) ω1) x) : dSet 2 t ⟨nx, rt, bk, ct, x⟩ (a0 :: a1 :: y :: r) ω := h
theorem g_gn2 {a0 a1 : Option S} {y : Option S} {s : S} {r : Env} {k : Env → Sto → Prop} (h : k (a0 :: a1 :: some s :: r) ω) : dgName 2 s (a0 :: a1 :: y :: r) ω k := h
theorem g_var3 {a0 a1 a2 : Option S} {s : S} {r : Env} (h : q s ω) : dVar 3 (a0 :: a1 :: a2 :: some s :: r) ω q x := h
theorem g_set3 {a0 a1 a2 : Option S} {y : Option S} {r : Env} {nx : Env → Sto → Prop} {rt : S → Sto → Prop} {bk ct : Env → Sto → Prop} (h : t (a0 :: a1 :: a2 :: y :: r) ω (fun s ω1 => nx (a0 :: a1 :: a2 :: some s :: r) ω1) x) : dSet 3 t ⟨nx, rt, bk, ct, x⟩ (a0 :: a1 :: a2 :: y :: r) ω := h
theorem g_gn3 {a0 a1 a2 : Option S} {y : Option S} {s : S} {r : Env} {k : Env → Sto → Prop} (h : k (a0 :: a1 :: a2 :: some s :: r) ω) : dgName 3 s (a0 :: a1 :: a2 :: y :: r) ω k := h
theorem g_var4 {a0 a1 a2 a3 : Option S} {s : S} {r : Env} (h : q s ω) : dVar 4 (a0 :: a1 :: a2 :: a3 :: some s :: r) ω q x := h
theorem g_set4 {a0 a1 a2 a3 : Option S} {y : Option S} {r : Env} {nx : Env → Sto → Prop} {rt : S → Sto → Prop} {bk ct : Env → Sto → Prop} (h : t (a0 :: a1 :: a2 :: a3 :: y :: r) ω (fun s ω1 => nx (a0 :: a1 :: a2 :: a3 :: some s :: r) ω1) x) : dSet 4 t ⟨nx, rt, bk, ct, x⟩ (a0 :: a1 :: a2 :: a3 :: y :: r) ω := h
theorem g_gn4 {a0 a1 a2 a3 : Option S} {y : Option S} {s : S} {r : Env} {k : Env → Sto → Prop} (h : k (a0 :: a1 :: a2 :: a3 :: some s :: r) ω) : dgName 4 s (a0 :: a1 :: a2 :: a3 :: y :: r) ω k := h
theorem g_var5 {a0 a1 a2 a3 a4 : Option S} {s : S} {r : Env} (h : q s ω) : dVar 5 (a0 :: a1 :: a2 :: a3 :: a4 :: some s :: r) ω q x := h
theorem g_set5 {a0 a1 a2 a3 a4 : Option S} {y : Option S} {r : Env} {nx : Env → Sto → Prop} {rt : S → Sto → Prop} {bk ct : Env → Sto → Prop} (h : t (a0 :: a1 :: a2 :: a3 :: a4 :: y :: r) ω (fun s ω1 => nx (a0 :: a1 :: a2 :: a3 :: a4 :: some s :: r) ω1) x) : dSet 5 t ⟨nx, rt, bk, ct, x⟩ (a0 :: a1 :: a2 :: a3 :: a4 :: y :: r) ω := h
theorem g_gn5 {a0 a1 a2 a3 a4 : Option S} {y : Option S} {s : S} {r : Env} {k : Env → Sto → Prop} (h : k (a0 :: a1 :: a2 :: a3 :: a4 :: some s :: r) ω) : dgName 5 s (a0 :: a1 :: a2 :: a3 :: a4 :: y :: r) ω k := h
theorem g_var6 {a0 a1 a2 a3 a4 a5 : Option S} {s : S} {r : Env} (h : q s ω) : dVar 6 (a0 :: a1 :: a2 :: a3 :: a4 :: a5 :: some s :: r) ω q x := h
theorem g_set6 {a0 a1 a2 a3 a4 a5 : Option S} {y : Option S} {r : Env} {nx : Env → Sto → Prop} {rt : S → Sto → Prop} {bk ct : Env → Sto → Prop} (h : t (a0 :: a1 :: a2 :: a3 :: a4 :: a5 :: y :: r) ω (fun s ω1 => nx (a0 :: a1 :: a2 :: a3 :: a4 :: a5 :: some s :: r) ω1) x) : dSet 6 t ⟨nx, rt, bk, ct, x⟩ (a0 :: a1 :: a2 :: a3 :: a4 :: a5 :: y :: r) ω := h
theorem g_gn6 {a0 a1 a2 a3 a4 a5 : Option S} {y : Option S} {s : S} {r : Env} {k : Env → Sto → Prop} (h : k (a0 :: a1 :: a2 :: a3 :: a4 :: a5 :: some s :: r) ω) : dgName 6 s (a0 :: a1 :: a2 :: a3 :: a4 :: a5 :: y :: r) ω k := h
theorem g_var7 {a0 a1 a2 a3 a4 a5 a6 : Option S} {s : S} {r : Env} (h : q s ω) : dVar 7 (a0 :: a1 :: a2 :: a3 :: a4 :: a5 :: a6 :: some s :: r) ω q x := h
theorem g_set7 {a0 a1 a2 a3 a4 a5 a6 : Option S} {y : Option S} {r : Env} {nx : Env → Sto → Prop} {rt : S → Sto → Prop} {bk ct : Env → Sto → Prop} (h : t (a0 :: a1 :: a2 :: a3 :: a4 :: a5 :: a6 :: y :: r) ω (fun s ω1 => nx (a0 :: a1 :: a2 :: a3 :: a4 :: a5 :: a6 :: some s :: r) ω1) x) : dSet 7 t ⟨nx, rt, bk, ct, x⟩ (a0 :: a1 :: a2 :: a3 :: a4 :: a5 :: a6 :: y :: r) ω := h
theorem g_gn7 {a0 a1 a2 a3 a4 a5 a6 : Option S} {y : Option S} {s : S} {r : Env} {k : Env → Sto → Prop} (h : k (a0 :: a1 :: a2 :: a3 :: a4 :: a5 :: a6 :: some s :: r) ω) : dgName 7 s (a0 :: a1 :: a2 :: a3 :: a4 :: a5 :: a6 :: y :: r) ω k := h
theorem g_var8 {a0 a1 a2 a3 a4 a5 a6 a7 : Option S} {s : S} {r : Env} (h : q s ω) : dVar 8 (a0 :: a1 :: a2 :: a3 :: a4 :: a5 :: a6 :: a7 :: some s :: r) ω q x := h
theorem g_set8 {a0 a1 a2 a3 a4 a5 a6 a7 : Option S} {y : Option S} {r : Env} {nx : Env → Sto → Prop} {rt : S → Sto → Prop} {bk ct : Env → Sto → Prop} (h : t (a0 :: a1 :: a2 :: a3 :: a4 :: a5 :: a6 :: a7 :: y :: r) ω (fun s ω1 => nx (a0 :: a1 :: a2 :: a3 :: a4 :: a5 :: a6 :: a7 :: some s :: r) ω1) x) : dSet 8 t ⟨nx, rt, bk, ct, x⟩ (a0 :: a1 :: a2 :: a3 :: a4 :: a5 :: a6 :: a7 :: y :: r) ω := h
theorem g_gn8 {a0 a1 a2 a3 a4 a5 a6 a7 : Option S} {y : Option S} {s : S} {r : Env} {k : Env → Sto → Prop} (h : k (a0 :: a1 :: a2 :: a3 :: a4 :: a5 :: a6 :: a7 :: some s :: r) ω) : dgName 8 s (a0 :: a1 :: a2 :: a3 :: a4 :: a5 :: a6 :: a7 :: y :: r) ω k := h
theorem g_var9 {a0 a1 a2 a3 a4 a5 a6 a7 a8 : Option S} {s : S} {r : Env} (h : q s ω) : dVar 9 (a0 :: a1 :: a2 :: a3 :: a4 :: a5 :: a6 :: a7 :: a8 :: some s :: r) ω q x := h
theorem g_set9 {a0 a1 a2 a3 a4 a5 a6 a7 a8 : Option S} {y : Option S} {r : Env} {nx : Env → Sto → Prop} {rt : S → Sto → Prop} {bk ct : Env → Sto → Prop} (h : t (a0 :: a1 :: a2 :: a3 :: a4 :: a5 :: a6 :: a7 :: a8 :: y :: r) ω (fun s ω1 => nx (a0 :: a1 :: a2 :: a3 :: a4 :: a5 :: a6 :: a7 :: a8 :: some s :: r) ω1) x) : dSet 9 t ⟨nx, rt, bk, ct, x⟩ (a0 :: a1 :: a2 :: a3 :: a4 :: a5 :: a6 :: a7 :: a8 :: y :: r) ω := h
theorem g_gn9 {a0 a1 a2 a3 a4 a5 a6 a7 a8 : Option S} {y : Option S} {s : S} {r : Env} {k : Env → Sto → Prop} (h : k (a0 :: a1 :: a2 :: a3 :: a4 :: a5 :: a6 :: a7 :: a8 :: some s :: r) ω) : dgName 9 s (a0 :: a1 :: a2 :: a3 :: a4 :: a5 :: a6 :: a7 :: a8 :: y :: r) ω k := h
theorem g_var10 {a0 a1 a2 a3 a4 a5 a6 a7 a8 a9 : Option S} {s : S} {r : Env} (h : q s ω) : dVar 10 (a0 :: a1 :: a2 :: a3 :: a4 :: a5 :: a6 :: a7 :: a8 :: a9 :: some s :: r) ω q x := h
theorem g_set10 {a0 a1 a2 a3 a4 a5 a6 a7 a8 a9 : Option S} {y : Option S} {r : Env} {nx : Env → Sto → Prop} {rt : S → Sto → Prop} {bk ct : Env → Sto → Prop} (h : t (a0 :: a1 :: a2 :: a3 :: a4 :: a5 :: a6 :: a7 :: a8 :: a9 :: y :: r) ω (fun s ω1 => nx (a0 :: a1 :: a2 :: a3 :: a4 :: a5 :: a6 :: a7 :: a8 :: a9 :: some s :: r) ω1) x) : dSet 10 t ⟨nx, rt, bk, ct, x⟩ (a0 :: a1 :: a2 :: a3 :: a4 :: a5 :: a6 :: a7 :: a8 :: a9 :: y :: r) ω := h
theorem g_gn10 {a0 a1 a2 a3 a4 a5 a6 a7 a8 a9 : Option S} {y : Option S} {s : S} {r : Env} {k : Env → Sto → Prop} (h : k (a0 :: a1 :: a2 :: a3 :: a4 :: a5 :: a6 :: a7 :: a8 :: a9 :: some s :: r) ω) : dgName 10 s (a0 :: a1 :: a2 :: a3 :: a4 :: a5 :: a6 :: a7 :: a8 :: a9 :: y :: r) ω k := h
theorem g_var11 {a0 a1 a2 a3 a4 a5 a6 a7 a8 a9 a10 : Option S} {s : S} {r : Env} (h : q s ω) : dVar 11 (a0 :: a1 :: a2 :: a3 :: a4 :: a5 :: a6 :: a7 :: a8 :: a9 :: a10 :: some s :: r) ω q x := h
theorem g_set11 {a0 a1 a2 a3 a4 a5 a6 a7 a8 a9 a10 : Option S} {y : Option S} {r : Env} {nx : Env → Sto → Prop} {rt : S → Sto → Prop} {bk ct : Env → Sto → Prop} (h : t (a0 :: a1 :: a2 :: a3 :: a4 :: a5 :: a6 :: a7 :: a8 :: a9 :: a10 :: y :: r) ω (fun s ω1 => nx (a0 :: a1 :: a2 :: a3 :: a4 :: a5 :: a6 :: a7 :: a8 :: a9 :: a10 :: some s :: r) ω1) x) : dSet 11 t ⟨nx, rt, bk, ct, x⟩ (a0 :: a1 :: a2 :: a3 :: a4 :: a5 :: a6 :: a7 :: a8 :: a9 :: a10 :: y :: r) ω := h
theorem g_gn11 {a0 a1 a2 a3 a4 a5 a6 a7 a8 a9 a10 : Option S} {y : Option S} {s : S} {r : Env} {k : Env → Sto → Prop} (h : k (a0 :: a1 :: a2 :: a3 :: a4 :: a5 :: a6 :: a7 :: a8 :: a9 :: a10 :: some s :: r) ω) : dgName 11 s (a0 :: a1 :: a2 :: a3 :: a4 :: a5 :: a6 :: a7 :: a8 :: a9 :: a10 :: y :: r) ω k := h
theorem g_var12 {a0 a1 a2 a3 a4 a5 a6 a7 a8 a9 a10 a11 : Option S} {s : S} {r : Env} (h : q s ω) : dVar 12 (a0 :: a1 :: a2 :: a3 :: a4 :: a5 :: a6 :: a7 :: a8 :: a9 :: a10 :: a11 :: some s :: r) ω q x := h
theorem g_set12 {a0 a1 a2 a3 a4 a5 a6 a7 a8 a9 a10 a11 : Option S} {y : Option S} {r : Env} {nx : Env → Sto → Prop} {rt : S → Sto → Prop} {bk ct : Env → Sto → Prop} (h : t (a0 :: a1 :: a2 :: a3 :: a4 :: a5 :: a6 :: a7 :: a8 :: a9 :: a10 :: a11 :: y :: r) ω (fun s ω1 => nx (a0 :: a1 :: a2 :: a3 :: a4 :: a5 :: a6 :: a7 :: a8 :: a9 :: a10 :: a11 :: some s :: r) ω1) x) : dSet 12 t ⟨nx, rt, bk, ct, x⟩ (a0 :: a1 :: a2 :: a3 :: a4 :: a5 :: a6 :: a7 :: a8 :: a9 :: a10 :: a11 :: y :: r) ω := h
theorem g_gn12 {a0 a1 a2 a3 a4 a5 a6 a7 a8 a9 a10 a11 : Option S} {y : Option S} {s : S} {r : Env} {k : Env → Sto → Prop} (h : k (a0 :: a1 :: a2 :: a3 :: a4 :: a5 :: a6 :: a7 :: a8 :: a9 :: a10 :: a11 :: some s :: r) ω) : dgName 12 s (a0 :: a1 :: a2 :: a3 :: a4 :: a5 :: a6 :: a7 :: a8 :: a9 :: a10 :: a11 :: y :: r) ω k := h
theorem g_var13 {a0 a1 a2 a3 a4 a5 a6 a7 a8 a9 a10 a11 a12 : Option S} {s : S} {r : Env} (h : q s ω) : dVar 13 (a0 :: a1 :: a2 :: a3 :: a4 :: a5 :: a6 :: a7 :: a8 :: a9 :: a10 :: a11 :: a12 :: some s :: r) ω q x := h
theorem g_set13 {a0 a1 a2 a3 a4 a5 a6 a7 a8 a9 a10 a11 a12 : Option S} {y : Option S} {r : Env} {nx : Env → Sto → Prop} {rt : S → Sto → Prop} {bk ct : Env → Sto → Prop} (h : t (a0 :: a1 :: a2 :: a3 :: a4 :: a5 :: a6 :: a7 :: a8 :: a9 :: a10 :: a11 :: a12 :: y :: r) ω (fun s ω1 => nx (a0 :: a1 :: a2 :: a3 :: a4 :: a5 :: a6 :: a7 :: a8 :: a9 :: a10 :: a11 :: a12 :: some s :: r) ω1) x) : dSet 13 t ⟨nx, rt, bk, ct, x⟩ (a0 :: a1 :: a2 :: a3 :: a4 :: a5 :: a6 :: a7 :: a8 :: a9 :: a10 :: a11 :: a12 :: y :: r) ω := h
theorem g_gn13 {a0 a1 a2 a3 a4 a5 a6 a7 a8 a9 a10 a11 a12 : Option S} {y : Option S} {s : S} {r : Env} {k : Env → Sto → Prop} (h : k (a0 :: a1 :: a2 :: a3 :: a4 :: a5 :: a6 :: a7 :: a8 :: a9 :: a10 :: a11 :: a12 :: some s :: r) ω) : dgName 13 s (a0 :: a1 :: a2 :: a3 :: a4 :: a5 :: a6 :: a7 :: a8 :: a9 :: a10 :: a11 :: a12 :: y :: r) ω k := h
theorem g_var14 {a0 a1 a2 a3 a4 a5 a6 a7 a8 a9 a10 a11 a12 a13 : Option S} {s : S} {r : Env} (h : q s ω) : dVar 14 (a0 :: a1 :: a2 :: a3 :: a4 :: a5 :: a6 :: a7 :: a8 :: a9 :: a10 :: a11 :: a12 :: a13 :: some s :: r) ω q x := h
theorem g_set14 {a0 a1 a2 a3 a4 a5 a6 a7 a8 a9 a10 a11 a12 a13 : Option S} {y : Option S} {r : Env} {nx : Env → Sto → Prop} {rt : S → Sto → Prop} {bk ct : Env → Sto → Prop} (h : t (a0 :: a1 :: a2 :: a3 :: a4 :: a5 :: a6 :: a7 :: a8 :: a9 :: a10 :: a11 :: a12 :: a13 :: y :: r) ω (fun s ω1 => nx (a0 :: a1 :: a2 :: a3 :: a4 :: a5 :: a6 :: a7 :: a8 :: a9 :: a10 :: a11 :: a12 :: a13 :: some s :: r) ω1) x) : dSet 14 t ⟨nx, rt, bk, ct, x⟩ (a0 :: a1 :: a2 :: a3 :: a4 :: a5 :: a6 :: a7 :: a8 :: a9 :: a10 :: a11 :: a12 :: a13 :: y :: r) ω := h
theorem g_gn14 {a0 a1 a2 a3 a4 a5 a6 a7 a8 a9 a10 a11 a12 a13 : Option S} {y : Option S} {s : S} {r : Env} {k : Env → Sto → Prop} (h : k (a0 :: a1 :: a2 :: a3 :: a4 :: a5 :: a6 :: a7 :: a8 :: a9 :: a10 :: a11 :: a12 :: a13 :: some s :: r) ω) : dgName 14 s (a0 :: a1 :: a2 :: a3 :: a4 :: a5 :: a6 :: a7 :: a8 :: a9 :: a10 :: a11 :: a12 :: a13 :: y :: r) ω k := h
theorem g_var15 {a0 a1 a2 a3 a4 a5 a6 a7 a8 a9 a10 a11 a12 a13 a14 : Option S} {s : S} {r : Env} (h : q s ω) : dVar 15 (a0 :: a1 :: a2 :: a3 :: a4 :: a5 :: a6 :: a7 :: a8 :: a9 :: a10 :: a11 :: a12 :: a13 :: a14 :: some s :: r) ω q x := h
theorem g_set15 {a0 a1 a2 a3 a4 a5 a6 a7 a8 a9 a10 a11 a12 a13 a14 : Option S} {y : Option S} {r : Env} {nx : Env → Sto → Prop} {rt : S → Sto → Prop} {bk ct : Env → Sto → Prop} (h : t (a0 :: a1 :: a2 :: a3 :: a4 :: a5 :: a6 :: a7 :: a8 :: a9 :: a10 :: a11 :: a12 :: a13 :: a14 :: y :: r) ω (fun s ω1 => nx (a0 :: a1 :: a2 :: a3 :: a4 :: a5 :: a6 :: a7 :: a8 :: a9 :: a10 :: a11 :: a12 :: a13 :: a14 :: some s :: r) ω1) x) : dSet 15 t ⟨nx, rt, bk, ct, x⟩ (a0 :: a1 :: a2 :: a3 :: a4 :: a5 :: a6 :: a7 :: a8 :: a9 :: a10 :: a11 :: a12 :: a13 :: a14 :: y :: r) ω := h
theorem g_gn15 {a0 a1 a2 a3 a4 a5 a6 a7 a8 a9 a10 a11 a12 a13 a14 : Option S} {y : Option S} {s : S} {r : Env} {k : Env → Sto → Prop} (h : k (a0 :: a1 :: a2 :: a3 :: a4 :: a5 :: a6 :: a7 :: a8 :: a9 :: a10 :: a11 :: a12 :: a13 :: a14 :: some s :: r) ω) : dgName 15 s (a0 :: a1 :: a2 :: a3 :: a4 :: a5 :: a6 :: a7 :: a8 :: a9 :: a10 :: a11 :: a12 :: a13 :: a14 :: y :: r) ω k := h
theorem g_op (h : t ρ ω (fun s1 ω1 => u ρ ω1 (fun s2 ω2 => Lf (f s1 s2 ω2) q) x) x) : dOp f t u ρ ω q x := h
theorem g_cons {Q : List S → Sto → Prop} (h : t ρ ω (fun s ω1 => ta ρ ω1 (fun ss ω2 => Q (s :: ss) ω2) x) x) : dCons t ta ρ ω Q x := h
theorem g_nil {Q : List S → Sto → Prop} (h : Q [] ω) : dNil ρ ω Q x := h
theorem g_star {Q : List S → Sto → Prop} (h : t ρ ω (fun s ω1 => Lf (fun k : List S → Sto → Prop => match spreadS s ω1 with | some ys => k ys ω1 | none => False) (fun ys ω1 => ta ρ ω1 (fun ss ω2 => Q (ys ++ ss) ω2) x)) x) : dStar t ta ρ ω Q x := h
theorem g_test {Q : Bool → Sto → Prop} (h : t ρ ω (asB Q) x) : dTest t ρ ω Q x := h
theorem g_asB {Q : Bool → Sto → Prop} {b : Bool} (h : Q b ω) : asB Q (.d (.bl b)) ω := h
theorem g_true {A B : Prop} (h : A) : if true = true then A else B := h
theorem g_false {A B : Prop} (h : B) : if false = true then A else B := by simpa using h
theorem g_dec {A B p : Prop} [Decidable p] (h : if p then A else B) : if decide p = true then A else B := by simpa using h
theorem g_nt {A B : Prop} {b : Bool} (h : if b = true then B else A) : if (!b) = true then A else B := by cases b <;> simpa using h
theorem g_pos {A B p : Prop} [Decidable p] (hp : p) (h : A) : if p then A else B := by rw [if_pos hp]; exact h
theorem g_neg {A B p : Prop} [Decidable p] (hp : ¬ p) (h : B) : if p then A else B := by rw [if_neg hp]; exact h
theorem g_un {f1 : S → Sto → (S → Sto → Prop) → Prop} (h : t ρ ω (fun s ω1 => Lf (f1 s ω1) q) x) : dUn f1 t ρ ω q x := h
theorem g_b {f1 : CB} (h : ta ρ ω (fun ss ω1 => Lf (f1 ss ω1) q) x) : dB f1 ta ρ ω q x := h
theorem g_notTv (h : t ρ ω (fun s ω' => Lf (truD s ω') fun b ω2 => q (.d (.bl (!b))) ω2) x) : dNotTv t ρ ω q x := h
theorem g_andT {Q : Bool → Sto → Prop} (h : c ρ ω (fun b ω1 => if b = true then d ρ ω1 Q x else Q false ω1) x) : dAndT c d ρ ω Q x := h
theorem g_orT {Q : Bool → Sto → Prop} (h : c ρ ω (fun b ω1 => if b = true then Q true ω1 else d ρ ω1 Q x) x) : dOrT c d ρ ω Q x := h
theorem g_notT {Q : Bool → Sto → Prop} (h : c ρ ω (fun b ω1 => Q (!b) ω1) x) : dNotT c ρ ω Q x := h
theorem g_andV (h : t ρ ω (asB fun b ω1 => if b = true then u ρ ω1 q x else q (.d (.bl false)) ω1) x) : dAndV t u ρ ω q x := h
theorem g_orV (h : t ρ ω (asB fun b ω1 => if b = true then q (.d (.bl true)) ω1 else u ρ ω1 q x) x) : dOrV t u ρ ω q x := h
theorem g_notV (h : t ρ ω (asB fun b ω1 => q (.d (.bl (!b))) ω1) x) : dNotV t ρ ω q x := h
theorem g_tru {Q : Bool → Sto → Prop} (h : t ρ ω (fun s ω' => Lf (truD s ω') Q) x) : dTru t ρ ω Q x := h
theorem g_if (h : c ρ ω (fun b ω1 => if b = true then t ρ ω1 q x else u ρ ω1 q x) x) : dIf c t u ρ ω q x := h
theorem g_chain (h : t ρ ω (fun s1 ω1 => u ρ ω1 (fun s2 ω2 => Lf (f s1 s2 ω2) (asB fun b ω3 => if b = true then w ρ ω3 (fun s3 ω4 => Lf (g s2 s3 ω4) q) x else q (.d (.bl false)) ω3)) x) x) : dChain f g t u w ρ ω q x := h
theorem g_mt {Ty : String} {m : FM} (h : t ρ ω (fun s ω1 => Lf (fun k : Prop => tyOk Ty s ω1 ∧ k) (ta ρ ω1 (fun ss ω2 => Lf (m s ss ω2) q) x)) x) : dMt Ty m t ta ρ ω q x := h
theorem g_mt0 {Ty : String} {m : FM} (h : t ρ ω (fun s ω1 => Lf (fun k : Prop => tyOk Ty s ω1 ∧ k) (Lf (m s [] ω1) q)) x) : dMt0 Ty m t ρ ω q x := h
theorem g_isi {T : String} (h : t ρ ω (fun s ω1 => Lf (isiD T s ω1) q) x) : dIsi T t ρ ω q x := h
theorem g_tup (h : ta ρ ω (fun ss ω' => Lf (fun k : S → Sto → Prop => match allD ss with | some ds => ds.length ≤ 1000 ∧ k (.d (.tup ds)) ω' | none => False) q) x) : dTup ta ρ ω q x := h
theorem g_lstD (h : ta ρ ω (fun ss ω' => Lf (fun k : S → Sto → Prop => match allD ss with | some ds => ds.length ≤ 1000 ∧ k (.d (.lst ds)) ω' | none => False) q) x) : dLstD ta ρ ω q x := h
theorem g_lst (h : ta ρ ω (fun ss ω' => Lf (fun k : S → Sto → Prop => ss.length ≤ 1000 ∧ k (.pin ω'.length) (ω' ++ [.lst ss])) q) x) : dLst ta ρ ω q x := h
theorem g_call {C : CP} (h : ta ρ ω (fun ss ω1 => Lf (allDk ss) fun ds => C ds (fun d => q (.d d) ω1)) x) : dCall C ta ρ ω q x := h
theorem g_callX {C : CPX} (h : ta ρ ω (fun ss ω1 => Lf (allDk ss) fun ds => C ds (fun d => q (.d d) ω1) x) x) : dCallX C ta ρ ω q x := h
theorem g_callG {G : CG} (h : ta ρ ω (fun ss ω1 => G ss ω1 q) x) : dCallG G ta ρ ω q x := h
theorem g_callGX {G : CGX} (h : ta ρ ω (fun ss ω1 => G ss ω1 q x) x) : dCallGX G ta ρ ω q x := h
theorem g_loc {i : Nat} {fa : Addr} (h0 : ρ[i]? = some (some (.d (.fn fa)))) (h : t ρ ω q x) : dLoc i fa t ρ ω q x := ⟨h0, h⟩
theorem g_sl {l h : TOD} (hh : t ρ ω (fun s ω1 => l ρ ω1 (fun lo ω2 => h ρ ω2 (fun hi ω3 => Lf (slD s lo hi ω3) q) x) x) x) : dSl t l h ρ ω q x := hh
theorem g_noPart {Q : Option Int → Sto → Prop} (h : Q none ω) : dNoPart ρ ω Q x := h
def PartI (s : S) (ω : Sto) (Q : Option Int → Sto → Prop) : Prop := match s with | .d (.int i) => Q (some i) ω | _ => False
theorem g_part {Q : Option Int → Sto → Prop} (h : t ρ ω (fun s ω' => PartI s ω' Q) x) : dPart t ρ ω Q x := h
theorem g_partI {Q : Option Int → Sto → Prop} {i : Int} (h : Q (some i) ω) : PartI (.d (.int i)) ω Q := h
theorem g_newK (h : q (.pin ω.length) (ω ++ [.dK []])) : dNewK ρ ω q x := h
theorem g_newT (h : q (.pin ω.length) (ω ++ [.dT []])) : dNewT ρ ω q x := h
theorem g_pairs0 {Q : List (Key × S) → Sto → Prop} (h : Q [] ω) : dPairs [] ρ ω Q x := h
theorem g_pairsS {Q : List (Key × S) → Sto → Prop} {k : Str} {r : List (TD × TD)} (h : t ρ ω (fun y ω2 => dPairs r ρ ω2 (fun kvs ω3 => Q ((.inr k, y) :: kvs) ω3) x) x) : dPairs ((dC (.str k), t) :: r) ρ ω Q x := h
theorem g_pairsI {Q : List (Key × S) → Sto → Prop} {k : Int} {r : List (TD × TD)} (h : t ρ ω (fun y ω2 => dPairs r ρ ω2 (fun kvs ω3 => Q ((.inl k, y) :: kvs) ω3) x) x) : dPairs ((dC (.int k), t) :: r) ρ ω Q x := h
theorem g_disp {tds : List (TD × TD)} (h : dPairs tds ρ ω (fun kvs ω' => Lf (fun k : S → Sto → Prop => kvs.length ≤ 15 ∧ k (.pin ω'.length) (ω' ++ [.dK (mergeS [] kvs)])) q) x) : dDisp tds ρ ω q x := h
theorem g_yes {Q : Bool → Sto → Prop} (h : Q true ω) : dYes ρ ω Q x := h
/-! targets -/
theorem g_gNil {Q : Env → Sto → Prop} (h : Q ρ ω) : dgNil [] ρ ω Q := ⟨rfl, h⟩
theorem g_gCons {Q : Env → Sto → Prop} {gd : TGD} {us : TGsD} {d : D} {r : List D} (h : gd (.d d) ρ ω (fun ρ1 ω1 => us r ρ1 ω1 Q)) : dgCons gd us (d :: r) ρ ω Q := h
theorem g_gTup2 {Q : Env → Sto → Prop} {us : TGsD} {a b : D} (h : us [a, b] ρ ω Q) : dgTup 2 us (.d (.tup [a, b])) ρ ω Q := ⟨rfl, h⟩
theorem g_gTup3 {Q : Env → Sto → Prop} {us : TGsD} {a b c : D} (h : us [a, b, c] ρ ω Q) : dgTup 3 us (.d (.tup [a, b, c])) ρ ω Q := ⟨rfl, h⟩
theorem g_gTup4 {Q : Env → Sto → Prop} {us : TGsD} {a b c d : D} (h : us [a, b, c, d] ρ ω Q) : dgTup 4 us (.d (.tup [a, b, c, d])) ρ ω Q := ⟨rfl, h⟩
/-! what is walked -/
section
variable {Q : List S → (Sto → Prop) → Sto → Prop}
theorem g_seqI (h : t ρ ω (fun s ω' => Lf (seqD s ω') Q) x) : dSeqI t ρ ω Q x := h
theorem g_revI (h : t ρ ω (fun s ω' => Lf (revSeqD s ω') Q) x) : dRevI t ρ ω Q x := h
theorem g_rng1 (h : ta ρ ω (fun ss ω' => Lf (fun k : List S → (Sto → Prop) → Sto → Prop => match ss with | [.d (.int j)] => int62 j ∧ k (rngS 0 j.toNat) (fun _ => True) ω' | _ => False) Q) x) : dRng1 ta ρ ω Q x := h
theorem g_rng2 (h : ta ρ ω (fun ss ω' => Lf (fun k : List S → (Sto → Prop) → Sto → Prop => match ss with | [.d (.int i), .d (.int j)] => (int62 i ∧ int62 j) ∧ k (rngS i (j - i).toNat) (fun _ => True) ω' | _ => False) Q) x) : dRng2 ta ρ ω Q x := h
end
/-! statements -/
section
variable {nx bk ct : Env → Sto → Prop} {rt : S → Sto → Prop} {ts us : TSD} {it : TID} {gd : TGD} {P : Sto → Prop} {s : S} {is r : List S}
theorem g_seq (h : ts ⟨us ⟨nx, rt, bk, ct, x⟩, rt, bk, ct, x⟩ ρ ω) : dSeq ts us ⟨nx, rt, bk, ct, x⟩ ρ ω := h
theorem seq_go (h : ∀ N, N = us ⟨nx, rt, bk, ct, x⟩ → ts ⟨N, rt, bk, ct, x⟩ ρ ω) : dSeq ts us ⟨nx, rt, bk, ct, x⟩ ρ ω := h _ rfl
theorem g_next (h : nx ρ ω) : dNext ⟨nx, rt, bk, ct, x⟩ ρ ω := h
theorem g_break (h : bk ρ ω) : dBreak ⟨nx, rt, bk, ct, x⟩ ρ ω := h
theorem g_cont (h : ct ρ ω) : dCont ⟨nx, rt, bk, ct, x⟩ ρ ω := h
theorem g_ret (h : t ρ ω rt x) : dRet t ⟨nx, rt, bk, ct, x⟩ ρ ω := h
theorem g_retN (h : rt (.d .non) ω) : dRetN ⟨nx, rt, bk, ct, x⟩ ρ ω := h
theorem g_ifS (h : c ρ ω (fun b ω1 => if b = true then ts ⟨nx, rt, bk, ct, x⟩ ρ ω1 else us ⟨nx, rt, bk, ct, x⟩ ρ ω1) x) : dIfS c ts us ⟨nx, rt, bk, ct, x⟩ ρ ω := h
theorem g_drop (h : t ρ ω (fun _ ω' => nx ρ ω') x) : dDrop t ⟨nx, rt, bk, ct, x⟩ ρ ω := h
theorem g_putS {td ty tv : TD} (h : tv ρ ω (fun y ω1 => td ρ ω1 (fun o ω2 => ty ρ ω2 (fun i ω3 => Lf (putD o i y ω3) (nx ρ)) x) x) x) : dPutS td ty tv ⟨nx, rt, bk, ct, x⟩ ρ ω := h
theorem g_for (h : it ρ ω (fun is P ω' => P ω' ∧ forR gd ts ⟨nx, rt, bk, ct, x⟩ P is ρ ω') x) : dFor it gd ts ⟨nx, rt, bk, ct, x⟩ ρ ω := h
theorem g_forNil (h : nx ρ ω) : forR gd ts ⟨nx, rt, bk, ct, x⟩ P [] ρ ω := h
theorem g_forCons (h : gd s ρ ω (fun ρ1 ω1 => ts ⟨fun ρ' ω' => P ω' ∧ forR gd ts ⟨nx, rt, bk, ct, x⟩ P r ρ' ω', rt, nx, fun ρ' ω' => P ω' ∧ forR gd ts ⟨nx, rt, bk, ct, x⟩ P r ρ' ω', x⟩ ρ1 ω1)) : forR gd ts ⟨nx, rt, bk, ct, x⟩ P (s :: r) ρ ω := h
theorem for_ind (I : List S → Env → Sto → Prop) (h0 : I is ρ ω) (hs : ∀ s r ρ ω (nx' : Env → Sto → Prop), I (s :: r) ρ ω → (∀ ρ' ω', P ω' → I r ρ' ω' → nx' ρ' ω') → gd s ρ ω (fun ρ1 ω1 => ts ⟨nx', rt, nx, nx', x⟩ ρ1 ω1)) (he : ∀ ρ ω, I [] ρ ω → nx ρ ω) : forR gd ts ⟨nx, rt, bk, ct, x⟩ P is ρ ω := by
  induction is generalizing ρ ω with
  | nil => exact he _ _ h0
  | cons s r ih => exact hs s r ρ ω _ h0 fun ρ' ω' hp hi => ⟨hp, ih hi⟩
theorem while_ind {n : Nat} (I : Nat → Env → Sto → Prop) (h0 : I n ρ ω) (hs : ∀ n ρ ω (nx' : Env → Sto → Prop), I n ρ ω → (∀ m ρ' ω', m < n → I m ρ' ω' → nx' ρ' ω') → c ρ ω (fun b ω1 => if b = true then ts ⟨nx', rt, nx, nx', x⟩ ρ ω1 else nx ρ ω1) x) : dWhile c ts ⟨nx, rt, bk, ct, x⟩ ρ ω := by
  refine ⟨n + 1, ?_⟩
  have : ∀ k n, n < k → ∀ ρ ω, I n ρ ω → whR c ts ⟨nx, rt, bk, ct, x⟩ k ρ ω := by
    intro k
    induction k with
    | zero => intro n h; omega
    | succ k ih => exact fun n h ρ ω hi => hs n ρ ω _ hi fun m ρ' ω' hm hi' => ih m (by omega) ρ' ω' hi'
  exact this (n + 1) n (by omega) ρ ω h0
end
/-! comprehensions -/
section
variable {it : TID} {gd : TGD} {td : TTD} {ed : TD} {vs : List Nat} {P : Sto → Prop} {s : S} {is r acc : List S} {fin : List S → Sto → Prop}
def Wp (vs : List Nat) (ρ : Env) (k : Env → Prop) : Prop := k (wipeD ρ vs)
theorem g_lc {fin : (S → Sto → Prop) → List S → Sto → Prop} (h : it ρ ω (fun is P ω1 => P ω1 ∧ Wp vs ρ fun ρ' => lcR gd td ed ρ' P x (fin q) is [] ω1) x) : dLc it gd td ed vs fin ρ ω q x := h
theorem g_lcB {k : Env → Prop} (h : Lf (fun k : Env → Prop => k (wipeD ρ vs)) k) : Wp vs ρ k := h
theorem g_lcNil (h : fin acc ω) : lcR gd td ed ρ P x fin [] acc ω := h
theorem g_lcCons (h : gd s ρ ω (fun ρ1 ω1 => td ρ1 ω1 (fun b ω2 => if b = true then ed ρ1 ω2 (fun y ω3 => acc.length < 1000000 ∧ P ω3 ∧ lcR gd td ed ρ P x fin r (acc ++ [y]) ω3) x else P ω2 ∧ lcR gd td ed ρ P x fin r acc ω2) x)) : lcR gd td ed ρ P x fin (s :: r) acc ω := h
theorem lc_ind (I : List S → List S → Sto → Prop) (h0 : I is acc ω) (hs : ∀ s r acc ω (k : List S → Sto → Prop), I (s :: r) acc ω → (∀ acc' ω', I r acc' ω' → k acc' ω') → gd s ρ ω (fun ρ1 ω1 => td ρ1 ω1 (fun b ω2 => if b = true then ed ρ1 ω2 (fun y ω3 => acc.length < 1000000 ∧ P ω3 ∧ k (acc ++ [y]) ω3) x else P ω2 ∧ k acc ω2) x)) (he : ∀ acc ω, I [] acc ω → fin acc ω) : lcR gd td ed ρ P x fin is acc ω := by
  induction is generalizing acc ω with
  | nil => exact he _ _ h0
  | cons s r ih => exact hs s r acc ω _ h0 fun acc' ω' hi => ih hi
theorem lc_filG {β : Type} {ts : List β} (vd : β → D) (F : β → Option D) (hl : ts.length < 1000000) (hs : ∀ t ∈ ts, ∀ (acc : List S) (k : List S → Sto → Prop), acc.length < 1000000 → (match F t with | some d => k (acc ++ [.d d]) ω | none => k acc ω) → gd (.d (vd t)) ρ ω (fun ρ1 ω1 => td ρ1 ω1 (fun b ω2 => if b = true then ed ρ1 ω2 (fun y ω3 => acc.length < 1000000 ∧ P ω3 ∧ k (acc ++ [y]) ω3) x else P ω2 ∧ k acc ω2) x)) (he : fin ((ts.filterMap F).map S.d) ω) : lcR gd td ed ρ P x fin ((ts.map vd).map S.d) [] ω := by
  refine lc_ind (fun is acc ω' => ω' = ω ∧ ∃ done rest, done ++ rest = ts ∧ is = (rest.map vd).map S.d ∧ acc = (done.filterMap F).map S.d) ⟨rfl, [], ts, rfl, rfl, rfl⟩ (fun s r acc ω' k h hk => ?_) (fun acc ω' h => ?_)
  · obtain ⟨rfl, done, rest, e, e2, rfl⟩ := h
    cases rest with
    | nil => cases e2
    | cons t rest =>
      rw [List.map_cons, List.map_cons] at e2
      obtain ⟨rfl, rfl⟩ := List.cons.inj e2
      have hlen : ((done.filterMap F).map S.d).length < 1000000 := by
        have h1 := List.length_filterMap_le F done
        have h2 := congrArg List.length e
        rw [List.length_append] at h2
        rw [List.length_map]
        omega
      refine hs t (by rw [← e]; simp) _ k hlen ?_
      have e3 : (done ++ [t]) ++ rest = ts := by rw [← e]; simp
      cases hF : F t with
      | some d => exact hk _ _ ⟨rfl, done ++ [t], rest, e3, rfl, by rw [List.filterMap_append, List.map_append, List.filterMap_cons, hF]; rfl⟩
      | none => exact hk _ _ ⟨rfl, done ++ [t], rest, e3, rfl, by rw [List.filterMap_append, List.map_append, List.filterMap_cons, hF]; simp⟩
  · obtain ⟨rfl, done, rest, e, e2, rfl⟩ := h
    cases rest with
    | cons t rest => cases e2
    | nil =>
      rw [List.append_nil] at e
      subst e
      exact he
theorem lc_mapG {β : Type} {ts : List β} (vd F : β → D) (hl : ts.length < 1000000) (hs : ∀ t ∈ ts, ∀ (acc : List S) (k : List S → Sto → Prop), acc.length < 1000000 → k (acc ++ [.d (F t)]) ω → gd (.d (vd t)) ρ ω (fun ρ1 ω1 => td ρ1 ω1 (fun b ω2 => if b = true then ed ρ1 ω2 (fun y ω3 => acc.length < 1000000 ∧ P ω3 ∧ k (acc ++ [y]) ω3) x else P ω2 ∧ k acc ω2) x)) (he : fin ((ts.map F).map S.d) ω) : lcR gd td ed ρ P x fin ((ts.map vd).map S.d) [] ω :=
  lc_filG vd (fun t => some (F t)) hl (fun t ht acc k h1 h2 => hs t ht acc k h1 h2) (by rw [List.filterMap_eq_map']; exact he)
theorem lc_mapD {ds : List D} (F : D → D) (hl : ds.length < 1000000) (hs : ∀ t ∈ ds, ∀ (acc : List S) (k : List S → Sto → Prop), acc.length < 1000000 → k (acc ++ [.d (F t)]) ω → gd (.d t) ρ ω (fun ρ1 ω1 => td ρ1 ω1 (fun b ω2 => if b = true then ed ρ1 ω2 (fun y ω3 => acc.length < 1000000 ∧ P ω3 ∧ k (acc ++ [y]) ω3) x else P ω2 ∧ k acc ω2) x)) (he : fin ((ds.map F).map S.d) ω) : lcR gd td ed ρ P x fin (ds.map S.d) [] ω := by
  have := lc_mapG (gd := gd) (td := td) (ed := ed) (ρ := ρ) (ω := ω) (P := P) (x := x) (fin := fin) (ts := ds) (fun d => d) F hl hs he
  simpa using this
theorem g_finD {ds : List D} (h : q (.d (.lst ds)) ω) : finD q (ds.map S.d) ω := by unfold finD; rw [allD_map]; exact h
theorem g_finD2 (h : Lf (fun k : S → Sto → Prop => match allD acc with | some ds => k (.d (.lst ds)) ω | none => False) q) : finD q acc ω := h
theorem g_finP (h : q (.pin ω.length) (ω ++ [.lst acc])) : finP q acc ω := h
end
/-! the ends of a def -/
theorem g_rtP {Q : D → Prop} (h : Q D0) : rtP Q (.d D0) ω := h
theorem g_rtPin {Q : D → Prop} {j : Nat} (h : Lf (fun k : D → Prop => match ω[j]? with | some (.lst ss) => allDk ss fun ds => k (.lst ds) | _ => False) Q) : rtP Q (.pin j) ω := h
theorem start_eq {N : List Str} {ss : List S} : startD N ss = ss.map some ++ List.replicate (N.length - ss.length) none := rfl
theorem g_endsP {ts : TSD} {Q : D → Prop} (h : ts ⟨fun _ _ => Q .non, rtP Q, fun _ _ => False, fun _ _ => False, x⟩ ρ ω) : ts (endsP Q x) ρ ω := h
theorem g_endsG {ts : TSD} (h : ts ⟨fun _ ω => q (.d .non) ω, q, fun _ _ => False, fun _ _ => False, x⟩ ρ ω) : ts (endsG q x) ρ ω := h
end
end Y

set_option Elab.async false
set_option linter.all false
set_option maxRecDepth 100000
set_option maxHeartbeats 2000000
namespace Y
open PySem PySem.Spec PyProof.Rows L2
def top (i : Nat) : Stmt := PySem.Challenge.pw_treesays_k25_plain_formulas.main.body.getD i (.Pass ⟨0, 0, 0, 0⟩)
abbrev d_inner : Stmt := top 2
abbrev d_outer : Stmt := top 3
abbrev d_all_parts : Stmt := top 4
abbrev d_built : Stmt := top 5
abbrev d_plain : Stmt := top 8
abbrev d_is_plain : Stmt := top 9
abbrev d__both_above : Stmt := top 10
abbrev d__law_tape : Stmt := top 12
abbrev d__law_take : Stmt := top 13
abbrev d__law_is_integer : Stmt := top 14
abbrev d__law_same_items : Stmt := top 15
abbrev d__law_same : Stmt := top 16
abbrev d__law_kind : Stmt := top 17
abbrev d__law_shape : Stmt := top 18
abbrev d__law_paths : Stmt := top 19
abbrev d__law_part : Stmt := top 20
abbrev d__law_text : Stmt := top 21
abbrev d__law_all : Stmt := top 22
abbrev d__law_atom : Stmt := top 23
abbrev d__law_matrix : Stmt := top 24
abbrev d__law_closed : Stmt := top 25
abbrev d__law_sentence : Stmt := top 26
abbrev d__law_subsets : Stmt := top 27
abbrev d__law_atom_holds : Stmt := top 28
abbrev d__law_holds : Stmt := top 29
abbrev d__law_parts : Stmt := top 30
abbrev d__law_is_plain : Stmt := top 31
abbrev d__law_atoms : Stmt := top 32
abbrev d__law_names : Stmt := top 33
abbrev d_law : Stmt := top 34
end Y

set_option Elab.async false
set_option linter.all false
set_option maxRecDepth 100000
set_option maxHeartbeats 2000000
namespace Y
open PySem PySem.Spec PyProof.Rows L2 StX
local macro_rules | `(tactic| push_cast [$xs,*]) => `(tactic| repeat (first | (with_reducible first | refine g_c ?_ | (refine g_v ?_; first | refine g_var0 ?_ | refine g_var1 ?_ | refine g_var2 ?_ | refine g_var3 ?_ | refine g_var4 ?_ | refine g_var5 ?_ | refine g_var6 ?_ | refine g_var7 ?_ | refine g_var8 ?_ | refine g_var9 ?_ | refine g_var10 ?_ | refine g_var11 ?_ | refine g_var12 ?_ | refine g_var13 ?_ | refine g_var14 ?_ | refine g_var15 ?_)) | ((with_reducible refine lf_go fun Q hQ => ?_); simp only [seqD, revSeqD, spreadS, truD, slD, tyOk, appD, popD, extD, itemsOf, negD, putD, putC, sizeC, ty_non, ty_bl, ty_int, ty_str, ty_tup, ty_ktup, ty_lst, ty_pin, kitS, intO, addD, subD, mulD, modD, fdivD, shlD, shrD, bandD, borD, eq_ii, eq_ss, eq_bb, eq_tt, eq_ll, eq_tk, ordD, ltD, leD, gtD, geD, in_tup, in_ktup, in_lst, in_str, in_pin, inSq_str, inSq_int, isND, isNon, isBD, ix_tup, ix_ktup, ix_lst, ix_str, ix_pin, lookC, keyOf, keysOf, valS_nil, valS_cons, putS_nil, putS_cons, mergeS, kgetD, kixD, revD, wipeD, allD, len_tup, len_ktup, len_lst, len_str, len_pin, intD, absD, sumD, boolsD, tupD, listD, listP, dictC, lstOf, sqOf, allB, allI, allDk, ofString_inj, atI_0, atI_1, atI_2, atI_3, atI_1m1, atI_2m1, atI_2m2, atI_3m1, atI_3m2, atI_4m1, atI_4m2, cut_1, cut_2, cut_to1, cut_to2, cut_none, allD_map, List.map_cons, List.map_nil, List.length_cons, List.length_nil, List.length_append, List.length_map, List.length_set, List.replicate, List.nil_append, List.cons_append, List.append_nil, List.append_assoc, List.getElem?_cons_zero, List.getElem?_cons_succ, List.getElem?_nil, List.set_cons_zero, List.set_cons_succ, List.find?_cons, List.find?_nil, List.any_cons, List.any_nil, List.foldl_cons, List.foldl_nil, List.isEmpty_cons, List.isEmpty_nil, List.dropLast_concat, get_new, get_new1, get_new2, get_new3, set_new, set_new1, set_new2, set_new3, Option.map_some, Option.map_none, Option.isSome_some, Option.isSome_none, Option.some.injEq, Sum.inr.injEq, Sum.inl.injEq, reduceCtorEq, if_true, if_false, ite_true, ite_false, Bool.false_eq_true, Bool.not_true, Bool.not_false, Bool.false_xor, Bool.true_xor, Bool.xor_false, Bool.xor_true, decide_true, decide_false, decide_eq_true_eq, true_and, and_true, false_and, and_false, Bool.or_true, Bool.or_false, Bool.true_or, Bool.false_or, Bool.and_true, Bool.and_false, Bool.true_and, Bool.false_and, not_true_eq_false, not_false_eq_true, Nat.reduceAdd, Nat.reduceSub, Nat.reduceLeDiff, Nat.reduceLT, Nat.reduceEqDiff, Nat.reduceMul, Int.reduceLE, Int.reduceLT, Int.reduceEq, Int.reduceAdd, Int.reduceSub, Int.reduceNeg, Int.reduceMul, Int.reduceToNat, String.reduceEq, String.reduceBEq, reduceIte, Int.cast_ofNat_Int, Nat.zero_add, rng_0, rng_1, rng_2, rng_3, Nat.add_one_sub_one, List.reverse_nil, strsOf_nil, strsOf_cons, strsOf_map, intsOf_nil, intsOf_cons, intsOf_map, List.mem_cons, List.not_mem_nil, or_false, false_or, or_true, true_or, allB_map, allI_map, allB_mapf, allI_mapf, get_newm, allD_app, allD_mapf, isEmpty_snoc, $xs,*]; subst hQ; try dsimp only) | (with_reducible first | refine g_op ?_ | refine g_cons ?_ | refine g_nil ?_ | refine g_test ?_ | refine g_asB ?_ | refine g_true ?_ | refine g_false ?_ | refine g_dec ?_ | refine g_seq ?_ | refine g_un ?_ | refine g_b ?_ | refine g_nt ?_ | refine g_ifS ?_ | refine g_ret ?_ | refine g_next ?_ | (refine g_st ?_; first | refine g_set0 ?_ | refine g_set1 ?_ | refine g_set2 ?_ | refine g_set3 ?_ | refine g_set4 ?_ | refine g_set5 ?_ | refine g_set6 ?_ | refine g_set7 ?_ | refine g_set8 ?_ | refine g_set9 ?_ | refine g_set10 ?_ | refine g_set11 ?_ | refine g_set12 ?_ | refine g_set13 ?_ | refine g_set14 ?_ | refine g_set15 ?_) | (refine g_gn ?_; first | refine g_gn0 ?_ | refine g_gn1 ?_ | refine g_gn2 ?_ | refine g_gn3 ?_ | refine g_gn4 ?_ | refine g_gn5 ?_ | refine g_gn6 ?_ | refine g_gn7 ?_ | refine g_gn8 ?_ | refine g_gn9 ?_ | refine g_gn10 ?_ | refine g_gn11 ?_ | refine g_gn12 ?_ | refine g_gn13 ?_ | refine g_gn14 ?_ | refine g_gn15 ?_) | refine g_lf1 ?_ | refine g_lf2 ?_ | refine g_notTv ?_ | refine g_andT ?_ | refine g_orT ?_ | refine g_notT ?_ | refine g_mt ?_ | refine g_mt0 ?_ | refine g_drop ?_ | refine g_tup ?_ | refine g_lstD ?_ | refine g_lst ?_ | refine g_if ?_ | refine g_call ?_ | refine g_callG ?_ | refine g_callX ?_ | refine g_callGX ?_ | refine g_tru ?_ | refine g_andV ?_ | refine g_orV ?_ | refine g_notV ?_ | refine g_sl ?_ | refine g_noPart ?_ | refine g_part ?_ | refine g_partI ?_ | refine g_chain ?_ | refine g_putS ?_ | refine g_isi ?_ | refine g_star ?_ | refine g_for ?_ | refine g_lc ?_ | refine g_seqI ?_ | refine g_revI ?_ | refine g_rng1 ?_ | refine g_rng2 ?_ | refine g_gNil ?_ | refine g_gCons ?_ | refine g_gTup2 ?_ | refine g_gTup3 ?_ | refine g_gTup4 ?_ | refine g_yes ?_ | refine g_retN ?_ | refine g_break ?_ | refine g_cont ?_ | refine g_finD ?_ | refine g_finD2 ?_ | refine g_finP ?_ | refine g_lcB ?_ | refine g_lcNil ?_ | refine g_lcCons ?_ | refine g_forNil ?_ | refine g_forCons ?_ | refine g_rtP ?_ | refine g_rtPin ?_ | refine g_disp ?_ | refine g_pairs0 ?_ | refine g_pairsS ?_ | refine g_pairsI ?_ | refine g_newK ?_ | refine g_newT ?_ | refine g_loc rfl ?_) | ((with_reducible refine g_pos ?_ ?_); · first | assumption | rfl | omega) | ((with_reducible refine g_neg ?_ ?_); · first | assumption | omega | decide) | ((with_reducible refine And.intro ?_ ?_); · first | trivial | assumption | omega | exact Or.inr (by decide) | (dsimp only; omega) | (simp; done))))
local macro_rules | `(tactic| norm_cast) => `(tactic| ((first | with_reducible refine g_endsG ?_ | with_reducible refine g_endsP ?_); simp only [start_eq, List.map_cons, List.map_nil, List.replicate, List.length_cons, List.length_nil, Nat.reduceAdd, Nat.reduceSub, Nat.zero_add, List.cons_append, List.nil_append]))
theorem room65 {k : Nat} {A : Around} (r : Room k A) : A.units + 65 < cLine := by have := r.un; omega
/-! ### the tape -/
def tp (cells : List Int) (at_ left seed salt : Int) : Cell := .dK [(.inr "cells", .d (.lst (cells.map .int))), (.inr "at", .d (.int at_)), (.inr "left", .d (.int left)), (.inr "seed", .d (.int seed)), (.inr "salt", .d (.int salt))]
def Tp (c : Cell) : Prop := ∃ cells at_ left seed salt, c = tp cells at_ left seed salt ∧ 0 ≤ at_
theorem sc__law_tape : FnScope ["script", "cells", "cell", "seed"] ["script"] (defScope d__law_tape) := ⟨rfl, rfl, rfl, by decide +kernel, rfl, by decide +kernel, by decide +kernel⟩
theorem sc__law_take : FnScope ["tape", "many", "drawn", "mixed"] ["tape", "many"] (defScope d__law_take) := ⟨rfl, rfl, rfl, by decide +kernel, rfl, by decide +kernel, by decide +kernel⟩
def GTape : CG := fun ss ω q => ∃ ns : List Int, ss = [.d (.klst (ns.map .int))] ∧ ns.length ≤ 63 ∧ ∀ c, Tp c → q (.pin ω.length) (ω ++ [c])
def GTake : CG := fun ss ω q => ∃ (j : Nat) (m : Int) (c : Cell), ss = [.pin j, .d (.int m)] ∧ ω[j]? = some c ∧ Tp c ∧ 0 < m ∧ m < 1000 ∧ ∀ z c', Tp c' → 0 ≤ z → z < m → q (.d (.int z)) (ω.set j c')
section
variable {P : Program} {w : World} {K : PySem.W.Frag} {mg : Str → Option Value} {base : Heap}
theorem ok_tape {k : Nat} (bu : Bu mg) (Dn : Dfn K mg "_law_tape" ["script"] d__law_tape) : Cal P w K mg base CX0 (k+1) "_law_tape" ["script"] (spG K GTape) := by
  refine calG Dn sc__law_tape (fun ss ω q h => ?_) fun f cdv A outer s H E ss ω q hr h => ?_
  · obtain ⟨ns, rfl, _⟩ := h
    rfl
  have hu := hu_of hr
  have hu64 := hr.units
  have hu65 := room65 hr
  have hpass := @PassesOwn.never
  obtain ⟨ns, rfl, hn, hq⟩ := h
  refine ⟨_, _, (ys_cons (y_setLc finD_ok (i := 1) (own := [("cell", 2)]) rfl sc__law_tape.nd rfl rfl (sw_true rfl rfl rfl (by decide +kernel)) (yi_seq (y_var 0)) (blkOk_by (own := [("cell", 2)]) (N := ["script", "cells", "cell", "seed"]) (sc := defScope d__law_tape) (by decide +kernel)) go_name (fun _ _ _ _ _ => (yg_name (i := 2) sc__law_tape.nd rfl)) (fun _ _ _ _ _ => yts_nil) (fun _ _ _ _ _ => (y_absC bu (ya_cons (y_intC bu (ya_cons (y_var 2) ya_nil)) ya_nil))))
      (ys_cons (y_set (i := 3) sc__law_tape.nd rfl y_int)
      (ys_cons (y_for hpass rfl (yi_seq (y_var 1)) (yg_name (i := 2) sc__law_tape.nd rfl) (ys_one (y_set (i := 3) sc__law_tape.nd rfl (y_mod (y_intC bu (ya_cons (y_add (y_mul (y_var 3) y_int) (y_var 2)) ya_nil)) y_int))))
      (ys_one (y_ret (y_disp (ypps_cons y_str (y_var 1) (ypps_cons y_str y_int (ypps_cons y_str y_int (ypps_cons y_str (y_var 3) (ypps_cons y_str y_int ypps_nil))))) (by rfl) (by rfl) (fun z => by cases z) (by decide))))))), ?_⟩
  norm_cast
  push_cast []
  refine lc_mapD (fun d => match d with | .int z => .int (if z < 0 then -z else z) | d => d) (by rw [List.length_map]; omega) (fun s hm acc k h1 h2 => ?_) ?_
  · obtain ⟨z, _, rfl⟩ := List.mem_map.mp hm
    push_cast [h1]
    exact h2
  have e : (ns.map D.int).map (fun d => match d with | .int z => .int (if z < 0 then -z else z) | d => d) = (ns.map fun z => if z < 0 then -z else z).map D.int := by
    rw [List.map_map, List.map_map]; rfl
  rw [e]
  generalize (ns.map fun z => if z < 0 then -z else z) = ms
  push_cast []
  refine for_ind (fun is ρ ω' => (∃ y z, ρ = [some (.d (.klst (ns.map .int))), some (.d (.lst (ms.map .int))), y, some (.d (.int z))]) ∧ ω' = ω ∧ ∀ s ∈ is, ∃ z, s = .d (.int z)) ⟨⟨none, 7, rfl⟩, rfl, fun s hs => ?_⟩ (fun s r ρ ω' nx h hn => ?_) (fun ρ ω' h => ?_)
  · rw [List.map_map] at hs
    obtain ⟨z, _, rfl⟩ := List.mem_map.mp hs
    exact ⟨z, rfl⟩
  · obtain ⟨⟨y, z, rfl⟩, rfl, hi⟩ := h
    obtain ⟨c, rfl⟩ := hi s (by simp)
    push_cast []
    exact hn _ _ trivial ⟨⟨_, _, rfl⟩, rfl, fun s hs => hi s (by simp [hs])⟩
  · obtain ⟨⟨y, z, rfl⟩, rfl, hi⟩ := h
    push_cast []
    exact hq _ ⟨ms, 0, 0, z, 0, rfl, Int.le_refl 0⟩
theorem ok_take {k : Nat} (bu : Bu mg) (Dn : Dfn K mg "_law_take" ["tape", "many"] d__law_take) : Cal P w K mg base CX0 (k+1) "_law_take" ["tape", "many"] (spG K GTake) := by
  refine calG Dn sc__law_take (fun ss ω q h => ?_) fun f cdv A outer s H E ss ω q hr h => ?_
  · obtain ⟨j, m, c, rfl, _⟩ := h
    rfl
  have hu := hu_of hr
  have hu64 := hr.units
  have hu65 := room65 hr
  have hpass := @PassesOwn.never
  obtain ⟨j, m, c, rfl, hj, ⟨cells, at_, left, seed, salt, rfl, ha⟩, h0, h1, hq⟩ := h
  refine ⟨_, _, (ys_cons (y_ifS (yt_w (yw_and (yt_cmp (op_eqY hu64) refO_eq (y_ix hu (y_var 0) y_str (fun _ _ => rfl)) y_int (nomark _)) (yw_and1 (yt_cmp op_ltY refO_ord (y_ix hu (y_var 0) y_str (fun _ _ => rfl)) (y_len bu (ya_cons (y_ix hu (y_var 0) y_str (fun _ _ => rfl)) ya_nil)) (nomark _))))) (ys_cons (y_dput hu (y_var 0) y_str (y_ix hu (y_ix hu (y_var 0) y_str (fun _ _ => rfl)) (y_ix hu (y_var 0) y_str (fun _ _ => rfl)) (fun _ _ => rfl)))
        (ys_one (y_dput hu (y_var 0) y_str (y_add (y_ix hu (y_var 0) y_str (fun _ _ => rfl)) y_int)))) ys_nil)
      (ys_cons (y_ifS (yt_cmp op_gtY refO_ord (y_ix hu (y_var 0) y_str (fun _ _ => rfl)) y_int (nomark _)) (ys_cons (y_set (i := 2) sc__law_take.nd rfl (y_mod (y_intC bu (ya_cons (y_ix hu (y_var 0) y_str (fun _ _ => rfl)) ya_nil)) (y_var 1)))
        (ys_cons (y_dput hu (y_var 0) y_str (y_fdiv (y_ix hu (y_var 0) y_str (fun _ _ => rfl)) (y_var 1)))
        (ys_one (y_ret (y_var 2))))) ys_nil)
      (ys_cons (y_dput hu (y_var 0) y_str (y_add (y_ix hu (y_var 0) y_str (fun _ _ => rfl)) y_int))
      (ys_cons (y_set (i := 3) sc__law_take.nd rfl (y_mod (y_intC bu (ya_cons (y_add (y_mul (y_ix hu (y_var 0) y_str (fun _ _ => rfl)) y_int) (y_mul (y_ix hu (y_var 0) y_str (fun _ _ => rfl)) y_int)) ya_nil)) y_int))
      (ys_cons (y_set (i := 3) sc__law_take.nd rfl (y_mod (y_intC bu (ya_cons (y_add (y_add (y_mul (y_var 3) (y_var 3)) (y_mul (y_ix hu (y_var 0) y_str (fun _ _ => rfl)) y_int)) y_int) ya_nil)) y_int))
      (ys_one (y_ret (y_mod (y_intC bu (ya_cons (y_var 3) ya_nil)) (y_var 1))))))))), ?_⟩
  have hl := (List.getElem?_eq_some_iff.mp hj).1
  have hs := fun c => @List.getElem?_set_self Cell ω j c hl
  norm_cast
  refine seq_go fun N hN => ?_
  have rest : ∀ (ρ : Env) cells at_ left seed salt, ρ = [some (.pin j), some (.d (.int m)), none, none] → 0 ≤ at_ → N ρ (ω.set j (tp cells at_ left seed salt)) := by
    subst hN
    intro ρ cells at_ left seed salt e ha
    subst e
    have hm : m ≠ 0 := by omega
    have cm : ∀ i : Int, CMul (i.fmod 2147483647) (i.fmod 2147483647) := fun i => by
      have h1 := Int.fmod_nonneg_of_pos i (b := 2147483647) (by decide)
      have h2 := Int.fmod_lt_of_pos i (b := 2147483647) (by decide)
      exact .inl ⟨by omega, by omega⟩
    have hd : CDivN left m := ⟨hm, by omega⟩
    have f0 : ∀ i : Int, 0 ≤ i.fmod m := fun i => Int.fmod_nonneg_of_pos i h0
    have f1 : ∀ i : Int, i.fmod m < m := fun i => Int.fmod_lt_of_pos i h0
    unfold tp
    push_cast [hs, List.set_set, ne_eq, hm, hd]
    split
    · push_cast [hs, List.set_set, ne_eq, hm, hd]
      exact hq _ _ ⟨_, _, _, _, _, rfl, ha⟩ (f0 _) (f1 _)
    · push_cast [hs, List.set_set, ne_eq, hm, hd]
      refine ⟨cm _, ?_⟩
      push_cast [hs, List.set_set, ne_eq, hm, hd]
      exact hq _ _ ⟨_, _, _, _, _, rfl, ha⟩ (f0 _) (f1 _)
  unfold tp at hj
  have e := set_same hj
  push_cast [hj, hs, List.set_set]
  split
  · push_cast [hj, hs, List.set_set]
    split
    · rename_i h3
      obtain ⟨n, rfl⟩ := Int.eq_ofNat_of_zero_le ha
      have hn : n < cells.length := by
        have h3 : ((n : Nat) : Int) < (cells.length : Int) := h3
        omega
      have h4 : (cells.map D.int)[n]? = some (.int cells[n]) := by simp [hn]
      push_cast [hj, hs, List.set_set, atI_nat, h4]
      exact rest _ _ _ _ _ _ rfl (by omega)
    · push_cast [hj, hs, List.set_set]
      rw [e]
      exact rest _ _ _ _ _ _ rfl ha
  · push_cast [hj, hs, List.set_set]
    rw [e]
    exact rest _ _ _ _ _ _ rfl ha
end
end Y


set_option Elab.async false
set_option linter.all false
set_option maxRecDepth 100000
set_option maxHeartbeats 2000000
namespace Y
open PySem PySem.Spec PyProof.Rows L2 StX
local macro_rules | `(tactic| push_cast [$xs,*]) => `(tactic| repeat (first | (with_reducible first | refine g_c ?_ | (refine g_v ?_; first | refine g_var0 ?_ | refine g_var1 ?_ | refine g_var2 ?_ | refine g_var3 ?_ | refine g_var4 ?_ | refine g_var5 ?_ | refine g_var6 ?_ | refine g_var7 ?_ | refine g_var8 ?_ | refine g_var9 ?_ | refine g_var10 ?_ | refine g_var11 ?_ | refine g_var12 ?_ | refine g_var13 ?_ | refine g_var14 ?_ | refine g_var15 ?_)) | ((with_reducible refine lf_go fun Q hQ => ?_); simp only [seqD, revSeqD, spreadS, truD, slD, tyOk, appD, popD, extD, itemsOf, negD, putD, putC, sizeC, ty_non, ty_bl, ty_int, ty_str, ty_tup, ty_ktup, ty_lst, ty_pin, kitS, intO, addD, subD, mulD, modD, fdivD, shlD, shrD, bandD, borD, eq_ii, eq_ss, eq_bb, eq_tt, eq_ll, eq_tk, ordD, ltD, leD, gtD, geD, in_tup, in_ktup, in_lst, in_str, in_pin, inSq_str, inSq_int, isND, isNon, isBD, ix_tup, ix_ktup, ix_lst, ix_str, ix_pin, lookC, keyOf, keysOf, valS_nil, valS_cons, putS_nil, putS_cons, mergeS, kgetD, kixD, revD, wipeD, allD, len_tup, len_ktup, len_lst, len_str, len_pin, intD, absD, sumD, boolsD, tupD, listD, listP, dictC, lstOf, sqOf, allB, allI, allDk, ofString_inj, atI_0, atI_1, atI_2, atI_3, atI_1m1, atI_2m1, atI_2m2, atI_3m1, atI_3m2, atI_4m1, atI_4m2, cut_1, cut_2, cut_to1, cut_to2, cut_none, allD_map, List.map_cons, List.map_nil, List.length_cons, List.length_nil, List.length_append, List.length_map, List.length_set, List.replicate, List.nil_append, List.cons_append, List.append_nil, List.append_assoc, List.getElem?_cons_zero, List.getElem?_cons_succ, List.getElem?_nil, List.set_cons_zero, List.set_cons_succ, List.find?_cons, List.find?_nil, List.any_cons, List.any_nil, List.foldl_cons, List.foldl_nil, List.isEmpty_cons, List.isEmpty_nil, List.dropLast_concat, get_new, get_new1, get_new2, get_new3, set_new, set_new1, set_new2, set_new3, Option.map_some, Option.map_none, Option.isSome_some, Option.isSome_none, Option.some.injEq, Sum.inr.injEq, Sum.inl.injEq, reduceCtorEq, if_true, if_false, ite_true, ite_false, Bool.false_eq_true, Bool.not_true, Bool.not_false, Bool.false_xor, Bool.true_xor, Bool.xor_false, Bool.xor_true, decide_true, decide_false, decide_eq_true_eq, true_and, and_true, false_and, and_false, Bool.or_true, Bool.or_false, Bool.true_or, Bool.false_or, Bool.and_true, Bool.and_false, Bool.true_and, Bool.false_and, not_true_eq_false, not_false_eq_true, Nat.reduceAdd, Nat.reduceSub, Nat.reduceLeDiff, Nat.reduceLT, Nat.reduceEqDiff, Nat.reduceMul, Int.reduceLE, Int.reduceLT, Int.reduceEq, Int.reduceAdd, Int.reduceSub, Int.reduceNeg, Int.reduceMul, Int.reduceToNat, String.reduceEq, String.reduceBEq, reduceIte, Int.cast_ofNat_Int, Nat.zero_add, rng_0, rng_1, rng_2, rng_3, Nat.add_one_sub_one, List.reverse_nil, strsOf_nil, strsOf_cons, strsOf_map, intsOf_nil, intsOf_cons, intsOf_map, List.mem_cons, List.not_mem_nil, or_false, false_or, or_true, true_or, allB_map, allI_map, allB_mapf, allI_mapf, get_newm, allD_app, allD_mapf, isEmpty_snoc, $xs,*]; subst hQ; try dsimp only) | (with_reducible first | refine g_op ?_ | refine g_cons ?_ | refine g_nil ?_ | refine g_test ?_ | refine g_asB ?_ | refine g_true ?_ | refine g_false ?_ | refine g_dec ?_ | refine g_seq ?_ | refine g_un ?_ | refine g_b ?_ | refine g_nt ?_ | refine g_ifS ?_ | refine g_ret ?_ | refine g_next ?_ | (refine g_st ?_; first | refine g_set0 ?_ | refine g_set1 ?_ | refine g_set2 ?_ | refine g_set3 ?_ | refine g_set4 ?_ | refine g_set5 ?_ | refine g_set6 ?_ | refine g_set7 ?_ | refine g_set8 ?_ | refine g_set9 ?_ | refine g_set10 ?_ | refine g_set11 ?_ | refine g_set12 ?_ | refine g_set13 ?_ | refine g_set14 ?_ | refine g_set15 ?_) | (refine g_gn ?_; first | refine g_gn0 ?_ | refine g_gn1 ?_ | refine g_gn2 ?_ | refine g_gn3 ?_ | refine g_gn4 ?_ | refine g_gn5 ?_ | refine g_gn6 ?_ | refine g_gn7 ?_ | refine g_gn8 ?_ | refine g_gn9 ?_ | refine g_gn10 ?_ | refine g_gn11 ?_ | refine g_gn12 ?_ | refine g_gn13 ?_ | refine g_gn14 ?_ | refine g_gn15 ?_) | refine g_lf1 ?_ | refine g_lf2 ?_ | refine g_notTv ?_ | refine g_andT ?_ | refine g_orT ?_ | refine g_notT ?_ | refine g_mt ?_ | refine g_mt0 ?_ | refine g_drop ?_ | refine g_tup ?_ | refine g_lstD ?_ | refine g_lst ?_ | refine g_if ?_ | refine g_call ?_ | refine g_callG ?_ | refine g_callX ?_ | refine g_callGX ?_ | refine g_tru ?_ | refine g_andV ?_ | refine g_orV ?_ | refine g_notV ?_ | refine g_sl ?_ | refine g_noPart ?_ | refine g_part ?_ | refine g_partI ?_ | refine g_chain ?_ | refine g_putS ?_ | refine g_isi ?_ | refine g_star ?_ | refine g_for ?_ | refine g_lc ?_ | refine g_seqI ?_ | refine g_revI ?_ | refine g_rng1 ?_ | refine g_rng2 ?_ | refine g_gNil ?_ | refine g_gCons ?_ | refine g_gTup2 ?_ | refine g_gTup3 ?_ | refine g_gTup4 ?_ | refine g_yes ?_ | refine g_retN ?_ | refine g_break ?_ | refine g_cont ?_ | refine g_finD ?_ | refine g_finD2 ?_ | refine g_finP ?_ | refine g_lcB ?_ | refine g_lcNil ?_ | refine g_lcCons ?_ | refine g_forNil ?_ | refine g_forCons ?_ | refine g_rtP ?_ | refine g_rtPin ?_ | refine g_disp ?_ | refine g_pairs0 ?_ | refine g_pairsS ?_ | refine g_pairsI ?_ | refine g_newK ?_ | refine g_newT ?_ | refine g_loc rfl ?_) | ((with_reducible refine g_pos ?_ ?_); · first | assumption | rfl | omega) | ((with_reducible refine g_neg ?_ ?_); · first | assumption | omega | decide) | ((with_reducible refine And.intro ?_ ?_); · first | trivial | assumption | omega | exact Or.inr (by decide) | (dsimp only; omega) | (simp; done))))
local macro_rules | `(tactic| norm_cast) => `(tactic| ((first | with_reducible refine g_endsG ?_ | with_reducible refine g_endsP ?_); simp only [start_eq, List.map_cons, List.map_nil, List.replicate, List.length_cons, List.length_nil, Nat.reduceAdd, Nat.reduceSub, Nat.zero_add, List.cons_append, List.nil_append]))
/-! ### same: what two values are told to be -/
mutual
def sameD : D → D → Bool
  | .non, a => isNon a
  | .bl b, a => match a with | .bl c => decide (c = b) | _ => false
  | .int b, a => match a with | .int c => decide (c = b) | _ => false
  | .str b, a => match a with | .str c => decide (c = b) | _ => false
  | .tup es, a => match a with | .tup as => sameDs es as | .ktup as => sameDs es as | _ => false
  | .ktup es, a => match a with | .tup as => sameDs es as | .ktup as => sameDs es as | _ => false
  | .lst es, a => match a with | .lst as => sameDs es as | _ => false
  | .klst _, _ => false
  | .fn _, _ => false
def sameDs : List D → List D → Bool
  | [], [] => true
  | e :: es, a :: as => sameD e a && sameDs es as
  | [], _ :: _ => false
  | _ :: _, [] => false
end
mutual
/-- no functions, no list of the script; short; not deeper than n -/
def goodD : Nat → D → Bool
  | _ + 1, .non => true
  | _ + 1, .bl _ => true
  | _ + 1, .int _ => true
  | _ + 1, .str _ => true
  | n + 1, .tup ds => decide (ds.length ≤ 100000) && goodDs n ds
  | n + 1, .ktup ds => decide (ds.length ≤ 100000) && goodDs n ds
  | n + 1, .lst ds => decide (ds.length ≤ 100000) && goodDs n ds
  | _, _ => false
def goodDs : Nat → List D → Bool
  | _, [] => true
  | n, d :: ds => goodD n d && goodDs n ds
end
theorem goodDs_mem {n : Nat} : ∀ {ds : List D} {d : D}, goodDs n ds = true → d ∈ ds → goodD n d = true
  | a :: ds, d, h, m => by
    rw [goodDs, Bool.and_eq_true] at h
    rcases List.mem_cons.mp m with rfl | m
    · exact h.1
    · exact goodDs_mem h.2 m
theorem sameDs_len : ∀ {es as : List D}, es.length ≠ as.length → sameDs es as = false
  | [], [], h => absurd rfl h
  | e :: es, a :: as, h => by
    rw [sameDs, sameDs_len (fun z => h (by rw [List.length_cons, List.length_cons, z])), Bool.and_false]
  | [], _ :: _, _ => by rw [sameDs]
  | _ :: _, [], _ => by rw [sameDs]
/-- a tuple or a list -/
def seqOf : D → Option (List D)
  | .tup ds => some ds
  | .ktup ds => some ds
  | .lst ds => some ds
  | _ => none
def CInt : CP := fun ds q => ∃ a m, ds = [a] ∧ goodD m a = true ∧ q (.bl (match a with | .int _ => true | _ => false))
def CSame (n : Nat) : CP := fun ds q => ∃ a e m, ds = [a, e] ∧ goodD n e = true ∧ goodD m a = true ∧ m ≤ 100 ∧ q (.bl (sameD e a))
def CItems (n : Nat) : CP := fun ds q => ∃ a e as es m, ds = [a, e] ∧ seqOf a = some as ∧ seqOf e = some es ∧ as.length ≤ 100000 ∧ es.length ≤ 100000 ∧ goodDs n es = true ∧ goodDs m as = true ∧ m ≤ 100 ∧ q (.bl (sameDs es as))
theorem sc__law_is_integer : FnScope ["actual"] ["actual"] (defScope d__law_is_integer) := ⟨rfl, rfl, rfl, by decide +kernel, rfl, by decide +kernel, by decide +kernel⟩
theorem sc__law_same_items : FnScope ["actual", "expected", "k"] ["actual", "expected"] (defScope d__law_same_items) := ⟨rfl, rfl, rfl, by decide +kernel, rfl, by decide +kernel, by decide +kernel⟩
theorem sc__law_same : FnScope ["actual", "expected", "key"] ["actual", "expected"] (defScope d__law_same) := ⟨rfl, rfl, rfl, by decide +kernel, rfl, by decide +kernel, by decide +kernel⟩
section
variable {P : Program} {w : World} {K : PySem.W.Frag} {mg : Str → Option Value} {base : Heap}
theorem ok_isint {k : Nat} (bu : Bu mg) (Dn : Dfn K mg "_law_is_integer" ["actual"] d__law_is_integer) : Cal P w K mg base CX0 (k+1) "_law_is_integer" ["actual"] (spP K CInt) := by
  refine calP Dn sc__law_is_integer (fun ds q h => ?_) fun f cdv A outer s H E ds q hr h => ?_
  · obtain ⟨a, m, rfl, _⟩ := h
    rfl
  obtain ⟨a, m, rfl, ha, hq⟩ := h
  refine ⟨_, _, (ys_one (y_ret (y_and (y_isi bu (y_var 0) bu.int rfl) (y_one (y_notT (y_isi bu (y_var 0) bu.bool rfl)))))), ?_⟩
  norm_cast
  cases a <;> first | (cases m <;> simp [goodD] at ha; done) | (push_cast [String.reduceBEq, String.reduceEq]; exact hq)
theorem ok_items {k n : Nat} (bu : Bu mg) (c__law_same : Cal P w K mg base CX0 k "_law_same" ["actual", "expected"] (spP K (CSame n))) (Dn : Dfn K mg "_law_same_items" ["actual", "expected"] d__law_same_items) : Cal P w K mg base CX0 (k+1) "_law_same_items" ["actual", "expected"] (spP K (CItems n)) := by
  refine calP Dn sc__law_same_items (fun ds q h => ?_) fun f cdv A outer s H E ds q hr h => ?_
  · obtain ⟨a, e, as, es, m, rfl, _⟩ := h
    rfl
  have hu := hu_of hr
  have hu64 := hr.units
  have hpass := @PassesOwn.never
  obtain ⟨a, e, as, es, m, rfl, ea, ee, ha, he, ge, ga, hm, hq⟩ := h
  refine ⟨_, _, (ys_cons (y_ifS (yt_cmp (op_neY hu64) refO_ne (y_len bu (ya_cons (y_var 0) ya_nil)) (y_len bu (ya_cons (y_var 1) ya_nil)) (nomark _)) (ys_one (y_ret y_bl)) ys_nil)
      (ys_cons (y_for hpass rfl (yi_range1 bu.range (ya_cons (y_len bu (ya_cons (y_var 1) ya_nil)) ya_nil)) (yg_name (i := 2) sc__law_same_items.nd rfl) (ys_one (y_ifS (yt_not (yt_tru (y_cal c__law_same hr (ya_cons (y_ix hu (y_var 0) (y_var 2) (fun _ _ => rfl)) (ya_cons (y_ix hu (y_var 1) (y_var 2) (fun _ _ => rfl)) ya_nil))))) (ys_one (y_ret y_bl)) ys_nil)))
      (ys_one (y_ret y_bl)))), ?_⟩
  norm_cast
  have la : ∀ (q : S → Sto → Prop) ω, lenD [.d a] ω q = q (.d (.int as.length)) ω := fun q ω => by
    cases a <;> simp only [seqOf, Option.some.injEq, reduceCtorEq] at ea <;> subst ea <;> rfl
  have le : ∀ (q : S → Sto → Prop) ω, lenD [.d e] ω q = q (.d (.int es.length)) ω := fun q ω => by
    cases e <;> simp only [seqOf, Option.some.injEq, reduceCtorEq] at ee <;> subst ee <;> rfl
  push_cast [la, le]
  by_cases hl : as.length = es.length
  · rw [if_pos (by omega)]
    push_cast [la, le]
    refine ⟨⟨by omega, by omega⟩, trivial, ?_⟩
    have ia : ∀ (i : Nat) d (q : S → Sto → Prop) ω, as[i]? = some d → ixD (.d a) (.d (.int (0 + (i : Nat)))) ω q = q (.d d) ω := fun i d q ω hi => by
      rw [Int.zero_add]
      cases a <;> simp only [seqOf, Option.some.injEq, reduceCtorEq] at ea <;> subst ea <;> simp only [ixD, atI_nat, hi]
    have ie : ∀ (i : Nat) d (q : S → Sto → Prop) ω, es[i]? = some d → ixD (.d e) (.d (.int (0 + (i : Nat)))) ω q = q (.d d) ω := fun i d q ω hi => by
      rw [Int.zero_add]
      cases e <;> simp only [seqOf, Option.some.injEq, reduceCtorEq] at ee <;> subst ee <;> simp only [ixD, atI_nat, hi]
    refine for_ind (fun is ρ ω => ∃ (j : Nat) (y : Option S), is = (List.range' j (es.length - j)).map (fun (i : Nat) => .d (.int (0 + (i : Nat)))) ∧ j ≤ es.length ∧ ρ = [some (.d a), some (.d e), y] ∧ ω = [] ∧ sameDs es as = sameDs (es.drop j) (as.drop j))
      ⟨0, none, by unfold rngS; rw [Int.toNat_natCast, List.range_eq_range']; rfl, by omega, rfl, rfl, rfl⟩ ?_ ?_
    · rintro s r ρ ω nx ⟨j, y, e1, hj, rfl, rfl, e2⟩ hnx
      by_cases hj2 : j = es.length
      · rw [hj2, Nat.sub_self] at e1
        cases e1
      have ej : es.length - j = (es.length - (j + 1)) + 1 := by omega
      rw [ej, List.range'_succ, List.map_cons] at e1
      obtain ⟨rfl, rfl⟩ := List.cons.inj e1
      have h1 : es[j]? = some es[j] := List.getElem?_eq_getElem (by omega)
      have h2 : as[j]? = some as[j] := List.getElem?_eq_getElem (by omega)
      rw [List.drop_eq_getElem_cons (by omega : j < es.length), List.drop_eq_getElem_cons (by omega : j < as.length), sameDs] at e2
      push_cast [ia j _ _ _ h2, ie j _ _ _ h1]
      refine ⟨_, _, m, rfl, goodDs_mem ge (List.getElem_mem _), goodDs_mem ga (List.getElem_mem _), hm, ?_⟩
      push_cast []
      cases hs : sameD es[j] as[j] with
      | true =>
        rw [hs, Bool.true_and] at e2
        push_cast []
        exact hnx _ _ trivial ⟨j + 1, _, rfl, by omega, rfl, rfl, e2⟩
      | false =>
        rw [hs, Bool.false_and] at e2
        push_cast []
        rw [e2] at hq
        exact hq
    · rintro ρ ω ⟨j, y, e1, hj, rfl, rfl, e2⟩
      have : j = es.length := by
        have := congrArg List.length e1
        simp at this
        omega
      subst this
      rw [List.drop_length, ← hl, List.drop_length, sameDs] at e2
      rw [e2] at hq
      push_cast []
      exact hq
  · rw [if_neg (by omega)]
    rw [sameDs_len (fun z => hl z.symm)] at hq
    push_cast []
    exact hq
theorem ok_same0 {k n : Nat} (bu : Bu mg) (c__law_is_integer : Cal P w K mg base CX0 k "_law_is_integer" ["actual"] (spP K CInt)) (c__law_same_items : Cal P w K mg base CX0 k "_law_same_items" ["actual", "expected"] (spP K (CItems n))) (Dn : Dfn K mg "_law_same" ["actual", "expected"] d__law_same) : Cal P w K mg base CX0 (k+1) "_law_same" ["actual", "expected"] (spP K (CSame (n + 1))) := by
  refine calP Dn sc__law_same (fun ds q h => ?_) fun f cdv A outer s H E ds q hr h => ?_
  · obtain ⟨a, e, m, rfl, _⟩ := h
    rfl
  have hu := hu_of hr
  have hu64 := hr.units
  have hpass := @PassesOwn.never
  obtain ⟨a, e, m, rfl, ge, ga, hm, hq⟩ := h
  refine ⟨_, _, (ys_cons (y_ifS (yt_cmp op_isN refO_isN (y_var 1) y_non (nomark _)) (ys_one (y_ret (y_cmp op_isN refO_isN (y_var 0) y_non (nomark _)))) ys_nil)
      (ys_cons (y_ifS (yt_tru (y_isi bu (y_var 1) bu.bool rfl)) (ys_one (y_ret (y_and (y_isi bu (y_var 0) bu.bool rfl) (y_one (y_cmp (op_eqY hu64) refO_eq (y_var 0) (y_var 1) (nomark _)))))) ys_nil)
      (ys_cons (y_ifS (yt_tru (y_isi bu (y_var 1) bu.int rfl)) (ys_one (y_ret (y_and (y_cal c__law_is_integer hr (ya_cons (y_var 0) ya_nil)) (y_one (y_cmp (op_eqY hu64) refO_eq (y_var 0) (y_var 1) (nomark _)))))) ys_nil)
      (ys_cons (y_ifS (yt_tru (y_isi bu (y_var 1) bu.str rfl)) (ys_one (y_ret (y_and (y_isi bu (y_var 0) bu.str rfl) (y_one (y_cmp (op_eqY hu64) refO_eq (y_var 0) (y_var 1) (nomark _)))))) ys_nil)
      (ys_cons (y_ifS (yt_tru (y_isi bu (y_var 1) bu.tuple rfl)) (ys_one (y_ret (y_and (y_isi bu (y_var 0) bu.tuple rfl) (y_one (y_cal c__law_same_items hr (ya_cons (y_var 0) (ya_cons (y_var 1) ya_nil))))))) ys_nil)
      (ys_cons (y_ifS (yt_tru (y_isi bu (y_var 1) bu.list rfl)) (ys_one (y_ret (y_and (y_isi bu (y_var 0) bu.list rfl) (y_one (y_cal c__law_same_items hr (ya_cons (y_var 0) (ya_cons (y_var 1) ya_nil))))))) ys_nil)
      ys_never)))))), ?_⟩
  norm_cast
  cases e with
  | non =>
    push_cast []
    cases a <;> first | (cases m <;> simp [goodD] at ga; done) | (push_cast []; exact hq)
  | bl b =>
    push_cast []
    cases a <;> first | (cases m <;> simp [goodD] at ga; done) | (push_cast []; exact hq)
  | int b =>
    push_cast []
    cases a with
    | fn b => cases m <;> simp [goodD] at ga
    | klst b => cases m <;> simp [goodD] at ga
    | _ => refine ⟨_, m, rfl, ga, ?_⟩; push_cast []; exact hq
  | str b =>
    push_cast []
    cases a <;> first | (cases m <;> simp [goodD] at ga; done) | (push_cast []; exact hq)
  | fn b => simp [goodD] at ge
  | klst b => simp [goodD] at ge
  | tup es =>
    obtain ⟨le, ge⟩ : es.length ≤ 100000 ∧ goodDs n es = true := by simpa [goodD] using ge
    push_cast []
    cases a with
    | fn b => cases m <;> simp [goodD] at ga
    | klst b => cases m <;> simp [goodD] at ga
    | tup as =>
      cases m with
      | zero => simp [goodD] at ga
      | succ m =>
        obtain ⟨la, ga⟩ : as.length ≤ 100000 ∧ goodDs m as = true := by simpa [goodD] using ga
        push_cast []
        refine ⟨_, _, as, es, m, rfl, rfl, rfl, la, le, ge, ga, by omega, ?_⟩
        push_cast []
        rw [sameD] at hq
        exact hq
    | ktup as =>
      cases m with
      | zero => simp [goodD] at ga
      | succ m =>
        obtain ⟨la, ga⟩ : as.length ≤ 100000 ∧ goodDs m as = true := by simpa [goodD] using ga
        push_cast []
        refine ⟨_, _, as, es, m, rfl, rfl, rfl, la, le, ge, ga, by omega, ?_⟩
        push_cast []
        rw [sameD] at hq
        exact hq
    | _ => push_cast []; exact hq
  | ktup es =>
    obtain ⟨le, ge⟩ : es.length ≤ 100000 ∧ goodDs n es = true := by simpa [goodD] using ge
    push_cast []
    cases a with
    | fn b => cases m <;> simp [goodD] at ga
    | klst b => cases m <;> simp [goodD] at ga
    | tup as =>
      cases m with
      | zero => simp [goodD] at ga
      | succ m =>
        obtain ⟨la, ga⟩ : as.length ≤ 100000 ∧ goodDs m as = true := by simpa [goodD] using ga
        push_cast []
        refine ⟨_, _, as, es, m, rfl, rfl, rfl, la, le, ge, ga, by omega, ?_⟩
        push_cast []
        rw [sameD] at hq
        exact hq
    | ktup as =>
      cases m with
      | zero => simp [goodD] at ga
      | succ m =>
        obtain ⟨la, ga⟩ : as.length ≤ 100000 ∧ goodDs m as = true := by simpa [goodD] using ga
        push_cast []
        refine ⟨_, _, as, es, m, rfl, rfl, rfl, la, le, ge, ga, by omega, ?_⟩
        push_cast []
        rw [sameD] at hq
        exact hq
    | _ => push_cast []; exact hq
  | lst es =>
    obtain ⟨le, ge⟩ : es.length ≤ 100000 ∧ goodDs n es = true := by simpa [goodD] using ge
    push_cast []
    cases a with
    | fn b => cases m <;> simp [goodD] at ga
    | klst b => cases m <;> simp [goodD] at ga
    | lst as =>
      cases m with
      | zero => simp [goodD] at ga
      | succ m =>
        obtain ⟨la, ga⟩ : as.length ≤ 100000 ∧ goodDs m as = true := by simpa [goodD] using ga
        push_cast []
        refine ⟨_, _, as, es, m, rfl, rfl, rfl, la, le, ge, ga, by omega, ?_⟩
        push_cast []
        rw [sameD] at hq
        exact hq
    | _ => push_cast []; exact hq
/-- of any depth up to n; 2 n levels above the integers -/
theorem ok_same {k : Nat} (bu : Bu mg) (c__law_is_integer : Cal P w K mg base CX0 k "_law_is_integer" ["actual"] (spP K CInt)) (D1 : Dfn K mg "_law_same_items" ["actual", "expected"] d__law_same_items) (D2 : Dfn K mg "_law_same" ["actual", "expected"] d__law_same) : ∀ n, Cal P w K mg base CX0 (k+2*n) "_law_same" ["actual", "expected"] (spP K (CSame n))
  | 0 => cal_noP D2 fun ds q ⟨a, e, m, _, h, _⟩ => by cases e <;> simp [goodD] at h
  | n + 1 => (ok_same0 (n := n) bu (c__law_is_integer.mono (by omega)) (ok_items bu (ok_same bu c__law_is_integer D1 D2 n) D1) D2).mono (by omega)
end
end Y


set_option Elab.async false
set_option linter.all false
set_option maxRecDepth 100000
set_option maxHeartbeats 2000000
namespace Y
open PySem PySem.Spec PyProof.Rows L2 StX
local macro_rules | `(tactic| push_cast [$xs,*]) => `(tactic| repeat (first | (with_reducible first | refine g_c ?_ | (refine g_v ?_; first | refine g_var0 ?_ | refine g_var1 ?_ | refine g_var2 ?_ | refine g_var3 ?_ | refine g_var4 ?_ | refine g_var5 ?_ | refine g_var6 ?_ | refine g_var7 ?_ | refine g_var8 ?_ | refine g_var9 ?_ | refine g_var10 ?_ | refine g_var11 ?_ | refine g_var12 ?_ | refine g_var13 ?_ | refine g_var14 ?_ | refine g_var15 ?_)) | ((with_reducible refine lf_go fun Q hQ => ?_); simp only [seqD, revSeqD, spreadS, truD, slD, tyOk, appD, popD, extD, itemsOf, negD, putD, putC, sizeC, ty_non, ty_bl, ty_int, ty_str, ty_tup, ty_ktup, ty_lst, ty_pin, kitS, intO, addD, subD, mulD, modD, fdivD, shlD, shrD, bandD, borD, eq_ii, eq_ss, eq_bb, eq_tt, eq_ll, eq_tk, ordD, ltD, leD, gtD, geD, in_tup, in_ktup, in_lst, in_str, in_pin, inSq_str, inSq_int, isND, isNon, isBD, ix_tup, ix_ktup, ix_lst, ix_str, ix_pin, lookC, keyOf, keysOf, valS_nil, valS_cons, putS_nil, putS_cons, mergeS, kgetD, kixD, revD, wipeD, allD, len_tup, len_ktup, len_lst, len_str, len_pin, intD, absD, sumD, boolsD, tupD, listD, listP, dictC, lstOf, sqOf, allB, allI, allDk, ofString_inj, atI_0, atI_1, atI_2, atI_3, atI_1m1, atI_2m1, atI_2m2, atI_3m1, atI_3m2, atI_4m1, atI_4m2, cut_1, cut_2, cut_to1, cut_to2, cut_none, allD_map, List.map_cons, List.map_nil, List.length_cons, List.length_nil, List.length_append, List.length_map, List.length_set, List.replicate, List.nil_append, List.cons_append, List.append_nil, List.append_assoc, List.getElem?_cons_zero, List.getElem?_cons_succ, List.getElem?_nil, List.set_cons_zero, List.set_cons_succ, List.find?_cons, List.find?_nil, List.any_cons, List.any_nil, List.foldl_cons, List.foldl_nil, List.isEmpty_cons, List.isEmpty_nil, List.dropLast_concat, get_new, get_new1, get_new2, get_new3, set_new, set_new1, set_new2, set_new3, Option.map_some, Option.map_none, Option.isSome_some, Option.isSome_none, Option.some.injEq, Sum.inr.injEq, Sum.inl.injEq, reduceCtorEq, if_true, if_false, ite_true, ite_false, Bool.false_eq_true, Bool.not_true, Bool.not_false, Bool.false_xor, Bool.true_xor, Bool.xor_false, Bool.xor_true, decide_true, decide_false, decide_eq_true_eq, true_and, and_true, false_and, and_false, Bool.or_true, Bool.or_false, Bool.true_or, Bool.false_or, Bool.and_true, Bool.and_false, Bool.true_and, Bool.false_and, not_true_eq_false, not_false_eq_true, Nat.reduceAdd, Nat.reduceSub, Nat.reduceLeDiff, Nat.reduceLT, Nat.reduceEqDiff, Nat.reduceMul, Int.reduceLE, Int.reduceLT, Int.reduceEq, Int.reduceAdd, Int.reduceSub, Int.reduceNeg, Int.reduceMul, Int.reduceToNat, String.reduceEq, String.reduceBEq, reduceIte, Int.cast_ofNat_Int, Nat.zero_add, rng_0, rng_1, rng_2, rng_3, Nat.add_one_sub_one, List.reverse_nil, strsOf_nil, strsOf_cons, strsOf_map, intsOf_nil, intsOf_cons, intsOf_map, List.mem_cons, List.not_mem_nil, or_false, false_or, or_true, true_or, allB_map, allI_map, allB_mapf, allI_mapf, get_newm, allD_app, allD_mapf, isEmpty_snoc, $xs,*]; subst hQ; try dsimp only) | (with_reducible first | refine g_op ?_ | refine g_cons ?_ | refine g_nil ?_ | refine g_test ?_ | refine g_asB ?_ | refine g_true ?_ | refine g_false ?_ | refine g_dec ?_ | refine g_seq ?_ | refine g_un ?_ | refine g_b ?_ | refine g_nt ?_ | refine g_ifS ?_ | refine g_ret ?_ | refine g_next ?_ | (refine g_st ?_; first | refine g_set0 ?_ | refine g_set1 ?_ | refine g_set2 ?_ | refine g_set3 ?_ | refine g_set4 ?_ | refine g_set5 ?_ | refine g_set6 ?_ | refine g_set7 ?_ | refine g_set8 ?_ | refine g_set9 ?_ | refine g_set10 ?_ | refine g_set11 ?_ | refine g_set12 ?_ | refine g_set13 ?_ | refine g_set14 ?_ | refine g_set15 ?_) | (refine g_gn ?_; first | refine g_gn0 ?_ | refine g_gn1 ?_ | refine g_gn2 ?_ | refine g_gn3 ?_ | refine g_gn4 ?_ | refine g_gn5 ?_ | refine g_gn6 ?_ | refine g_gn7 ?_ | refine g_gn8 ?_ | refine g_gn9 ?_ | refine g_gn10 ?_ | refine g_gn11 ?_ | refine g_gn12 ?_ | refine g_gn13 ?_ | refine g_gn14 ?_ | refine g_gn15 ?_) | refine g_lf1 ?_ | refine g_lf2 ?_ | refine g_notTv ?_ | refine g_andT ?_ | refine g_orT ?_ | refine g_notT ?_ | refine g_mt ?_ | refine g_mt0 ?_ | refine g_drop ?_ | refine g_tup ?_ | refine g_lstD ?_ | refine g_lst ?_ | refine g_if ?_ | refine g_call ?_ | refine g_callG ?_ | refine g_callX ?_ | refine g_callGX ?_ | refine g_tru ?_ | refine g_andV ?_ | refine g_orV ?_ | refine g_notV ?_ | refine g_sl ?_ | refine g_noPart ?_ | refine g_part ?_ | refine g_partI ?_ | refine g_chain ?_ | refine g_putS ?_ | refine g_isi ?_ | refine g_star ?_ | refine g_for ?_ | refine g_lc ?_ | refine g_seqI ?_ | refine g_revI ?_ | refine g_rng1 ?_ | refine g_rng2 ?_ | refine g_gNil ?_ | refine g_gCons ?_ | refine g_gTup2 ?_ | refine g_gTup3 ?_ | refine g_gTup4 ?_ | refine g_yes ?_ | refine g_retN ?_ | refine g_break ?_ | refine g_cont ?_ | refine g_finD ?_ | refine g_finD2 ?_ | refine g_finP ?_ | refine g_lcB ?_ | refine g_lcNil ?_ | refine g_lcCons ?_ | refine g_forNil ?_ | refine g_forCons ?_ | refine g_rtP ?_ | refine g_rtPin ?_ | refine g_disp ?_ | refine g_pairs0 ?_ | refine g_pairsS ?_ | refine g_pairsI ?_ | refine g_newK ?_ | refine g_newT ?_ | refine g_loc rfl ?_) | ((with_reducible refine g_pos ?_ ?_); · first | assumption | rfl | omega) | ((with_reducible refine g_neg ?_ ?_); · first | assumption | omega | decide) | ((with_reducible refine And.intro ?_ ?_); · first | trivial | assumption | omega | exact Or.inr (by decide) | (dsimp only; omega) | (simp; done))))
local macro_rules | `(tactic| norm_cast) => `(tactic| ((first | with_reducible refine g_endsG ?_ | with_reducible refine g_endsP ?_); simp only [start_eq, List.map_cons, List.map_nil, List.replicate, List.length_cons, List.length_nil, Nat.reduceAdd, Nat.reduceSub, Nat.zero_add, List.cons_append, List.nil_append]))
/-! ### what may be compared as a whole -/
mutual
def cleanD : Nat → D → Bool
  | _ + 1, .non => true
  | _ + 1, .bl _ => true
  | _ + 1, .int _ => true
  | _ + 1, .str x => PyData.strOk x
  | n + 1, .tup ds => cleanDs n ds
  | n + 1, .ktup ds => cleanDs n ds
  | n + 1, .lst ds => cleanDs n ds
  | _, _ => false
def cleanDs : Nat → List D → Bool
  | _, [] => true
  | n, d :: ds => cleanD n d && cleanDs n ds
end
mutual
theorem clean_ok : ∀ (n : Nat) (d : D), cleanD n d = true → pureD d = true ∧ (toP d).canLay0 = true ∧ (toP d).depth ≤ n
  | 0, d, h => by cases d <;> simp [cleanD] at h
  | n + 1, .non, _ => ⟨rfl, rfl, by simp [toP, PyData.depth]⟩
  | n + 1, .bl _, _ => ⟨rfl, rfl, by simp [toP, PyData.depth]⟩
  | n + 1, .int _, _ => ⟨rfl, rfl, by simp [toP, PyData.depth]⟩
  | n + 1, .str x, h => ⟨rfl, by simpa [toP, PyData.canLay0, cleanD] using h, by simp [toP, PyData.depth]⟩
  | n + 1, .tup ds, h => by
    obtain ⟨a, b, c⟩ := cleans_ok n ds (by simpa [cleanD] using h)
    exact ⟨by simpa [pureD] using a, by simpa [toP, PyData.canLay0] using b, by simp only [toP, PyData.depth]; omega⟩
  | n + 1, .ktup ds, h => by
    obtain ⟨a, b, c⟩ := cleans_ok n ds (by simpa [cleanD] using h)
    exact ⟨by simpa [pureD] using a, by simpa [toP, PyData.canLay0] using b, by simp only [toP, PyData.depth]; omega⟩
  | n + 1, .lst ds, h => by
    obtain ⟨a, b, c⟩ := cleans_ok n ds (by simpa [cleanD] using h)
    exact ⟨by simpa [pureD] using a, by simpa [toP, PyData.canLay0] using b, by simp only [toP, PyData.depth]; omega⟩
  | n + 1, .fn _, h => by simp [cleanD] at h
  | n + 1, .klst _, h => by simp [cleanD] at h
theorem cleans_ok : ∀ (n : Nat) (ds : List D), cleanDs n ds = true → pureDs ds = true ∧ PyData.canLayAll0 (toPs ds) = true ∧ PyData.depthAll (toPs ds) ≤ n
  | n, [], _ => ⟨rfl, rfl, by simp [toPs, PyData.depthAll]⟩
  | n, d :: ds, h => by
    rw [cleanDs, Bool.and_eq_true] at h
    obtain ⟨a, b, c⟩ := clean_ok n d h.1
    obtain ⟨a', b', c'⟩ := cleans_ok n ds h.2
    refine ⟨by rw [pureDs, a, a']; rfl, by rw [toPs, PyData.canLayAll0, b, b']; rfl, ?_⟩
    rw [toPs, PyData.depthAll]
    omega
end
theorem okD_of {n : Nat} {d : D} (h : cleanD n d = true) (hn : n ≤ 64) : okD d := by
  obtain ⟨a, b, c⟩ := clean_ok n d h
  refine ⟨a, ?_⟩
  unfold SeqAt.shaped
  rw [b]
  simp
  omega
theorem cleanDs_of {n : Nat} : ∀ {ds : List D}, (∀ d ∈ ds, cleanD n d = true) → cleanDs n ds = true
  | [], _ => by rw [cleanDs]
  | d :: ds, h => by rw [cleanDs, h d (by simp), cleanDs_of fun e he => h e (by simp [he])]; rfl
theorem path_clean (p : List Int) (n : Nat) : cleanD (n + 2) (pathD p) = true := by
  unfold pathD
  rw [cleanD]
  exact cleanDs_of fun d hd => by obtain ⟨i, _, rfl⟩ := List.mem_map.mp hd; rw [cleanD]
theorem okD_path (p : List Int) : okD (.tup (p.map .int)) := okD_of (path_clean p 0) (by omega)
theorem eqvAll_ints : ∀ {p r : List Int}, PyData.eqvAll (toPs (p.map .int)) (toPs (r.map .int)) = decide (p = r)
  | [], [] => rfl
  | a :: p, b :: r => by
    rw [List.map_cons, List.map_cons, toPs, toPs, PyData.eqvAll, eqvAll_ints, toP, toP, PyData.eqv]
    by_cases h1 : a = b <;> by_cases h2 : p = r <;> simp [h1, h2]
  | [], _ :: _ => by simp [toPs, PyData.eqvAll]
  | _ :: _, [] => by simp [toPs, PyData.eqvAll]
theorem eqv_path {p r : List Int} : PyData.eqv (toP (.tup (p.map .int))) (toP (.tup (r.map .int))) = decide (p = r) := by
  rw [toP, toP, PyData.eqv, eqvAll_ints]
theorem eqv_nil {ds : List D} : PyData.eqv (toP (.tup ds)) (toP (.tup [])) = ds.isEmpty := by
  cases ds <;> simp [toP, toPs, PyData.eqv, PyData.eqvAll]
theorem eqv_nilL {ds : List D} : PyData.eqv (toP (.lst ds)) (toP (.lst [])) = ds.isEmpty := by
  cases ds <;> simp [toP, toPs, PyData.eqv, PyData.eqvAll]
theorem e0 : ((0 : Nat) : Int) = 0 := rfl
/-! ### kinds, shapes -/
inductive Sh where
  | e | w (a : Str) (c : Sh) | t (a : Str) (l r : Sh)
def Sh.d : Sh → D
  | .e => .tup []
  | .w a c => .tup [.str a, c.d]
  | .t a l r => .tup [.str a, l.d, r.d]
def Sh.size : Sh → Nat
  | .e => 0
  | .w _ c => c.size + 1
  | .t _ l r => l.size + r.size + 1
def Sh.Kd (ways : Int) (labels : List Str) : Sh → Prop
  | .e => True
  | .w a c => ways = 1 ∧ a ∈ labels ∧ c.Kd ways labels
  | .t a l r => ways = 2 ∧ a ∈ labels ∧ l.Kd ways labels ∧ r.Kd ways labels
def Sh.paths : Sh → List Int → List (List Int)
  | .e, _ => []
  | .w _ c, p => p :: c.paths (p ++ [0])
  | .t _ l r, p => p :: (l.paths (p ++ [0]) ++ r.paths (p ++ [1]))
theorem Sh.paths_len : ∀ (s : Sh) (p : List Int), (s.paths p).length = s.size
  | .e, _ => rfl
  | .w _ c, p => by rw [Sh.paths, List.length_cons, c.paths_len, Sh.size]
  | .t _ l r, p => by rw [Sh.paths, List.length_cons, List.length_append, l.paths_len, r.paths_len, Sh.size]
def kindD (ways : Int) (labels : List Str) : D := .tup [.int ways, .tup (labels.map .str)]
def KdOk (ways : Int) (labels : List Str) : Prop := (ways = 1 ∨ ways = 2) ∧ labels ≠ [] ∧ labels.length ≤ 3 ∧ ∀ a ∈ labels, PyData.strOk a = true ∧ a.length = 1
theorem Sh.clean {ways : Int} {labels : List Str} (hk : KdOk ways labels) : ∀ (s : Sh), s.Kd ways labels → ∀ n, s.size ≤ n → cleanD (n + 2) s.d = true
  | .e, _, n, _ => by rw [Sh.d, cleanD, cleanDs]
  | .w a c, h, n, hn => by
    obtain ⟨_, h1, h2⟩ := h
    cases n with
    | zero => simp [Sh.size] at hn
    | succ n =>
      rw [Sh.size] at hn
      rw [Sh.d, cleanD, cleanDs, cleanDs, cleanDs, cleanD, (hk.2.2.2 a h1).1, c.clean hk h2 n (by omega)]
      rfl
  | .t a l r, h, n, hn => by
    obtain ⟨_, h1, h2, h3⟩ := h
    cases n with
    | zero => simp [Sh.size] at hn
    | succ n =>
      rw [Sh.size] at hn
      rw [Sh.d, cleanD, cleanDs, cleanDs, cleanDs, cleanDs, cleanD, (hk.2.2.2 a h1).1, l.clean hk h2 n (by omega), r.clean hk h3 n (by omega)]
      rfl
theorem kd_lit {ways : Int} (h : ways = 1 ∨ ways = 2) : KdOk ways ["a"] ∧ KdOk ways ["a", "b"] ∧ KdOk ways ["b", "d", "z"] := by
  have h1 : PyData.strOk "a" = true ∧ (Str.ofString "a").length = 1 := by decide +kernel
  have h2 : PyData.strOk "b" = true ∧ (Str.ofString "b").length = 1 := by decide +kernel
  have h3 : PyData.strOk "d" = true ∧ (Str.ofString "d").length = 1 := by decide +kernel
  have h4 : PyData.strOk "z" = true ∧ (Str.ofString "z").length = 1 := by decide +kernel
  exact ⟨⟨h, by simp, by simp, by simpa using h1⟩, ⟨h, by simp, by simp, by simpa using ⟨h1, h2⟩⟩, ⟨h, by simp, by simp, by simpa using ⟨h2, h3, h4⟩⟩⟩
theorem sc__law_kind : FnScope ["tape", "labels"] ["tape"] (defScope d__law_kind) := ⟨rfl, rfl, rfl, by decide +kernel, rfl, by decide +kernel, by decide +kernel⟩
theorem sc__law_shape : FnScope ["tape", "kind", "count", "label", "left"] ["tape", "kind", "count"] (defScope d__law_shape) := ⟨rfl, rfl, rfl, by decide +kernel, rfl, by decide +kernel, by decide +kernel⟩
theorem sc__law_paths : FnScope ["shape", "path", "found", "way"] ["shape", "path"] (defScope d__law_paths) := ⟨rfl, rfl, rfl, by decide +kernel, rfl, by decide +kernel, by decide +kernel⟩
theorem sc__law_part : FnScope ["shape", "path", "way"] ["shape", "path"] (defScope d__law_part) := ⟨rfl, rfl, rfl, by decide +kernel, rfl, by decide +kernel, by decide +kernel⟩
def GKind : CG := fun ss ω q => ∃ (j : Nat) (c : Cell), ss = [.pin j] ∧ ω[j]? = some c ∧ Tp c ∧ ∀ ways labels c', KdOk ways labels → Tp c' → q (.d (kindD ways labels)) (ω.set j c')
def GShape (N : Nat) : CG := fun ss ω q => ∃ (j : Nat) (c : Cell) (ways : Int) (labels : List Str) (n : Nat), ss = [.pin j, .d (kindD ways labels), .d (.int (n : Nat))] ∧ n < N ∧ n < 1000 ∧ ω[j]? = some c ∧ Tp c ∧ KdOk ways labels ∧ ∀ (s : Sh) c', s.size = n → s.Kd ways labels → Tp c' → q (.d s.d) (ω.set j c')
def CPaths (N : Nat) : CP := fun ds q => ∃ (s : Sh) (p : List Int) (ways : Int) (labels : List Str), ds = [s.d, pathD p] ∧ s.size < N ∧ s.size ≤ 60 ∧ p.length + s.size ≤ 1000 ∧ KdOk ways labels ∧ s.Kd ways labels ∧ q (.lst ((s.paths p).map pathD))
section
variable {P : Program} {w : World} {K : PySem.W.Frag} {mg : Str → Option Value} {base : Heap}
theorem ok_kind {k : Nat} (c__law_take : Cal P w K mg base CX0 k "_law_take" ["tape", "many"] (spG K GTake)) (Dn : Dfn K mg "_law_kind" ["tape"] d__law_kind) : Cal P w K mg base CX0 (k+1) "_law_kind" ["tape"] (spG K GKind) := by
  refine calG Dn sc__law_kind (fun ss ω q h => ?_) fun f cdv A outer s H E ss ω q hr h => ?_
  · obtain ⟨j, c, rfl, _⟩ := h
    rfl
  have hu := hu_of hr
  obtain ⟨j, c, rfl, hj, hc, hq⟩ := h
  have hl := (List.getElem?_eq_some_iff.mp hj).1
  have hs := fun c => @List.getElem?_set_self Cell ω j c hl
  refine ⟨_, _, (ys_cons (y_set (i := 1) sc__law_kind.nd rfl (y_ix hu (y_tup (ya_cons (y_tup (ya_cons y_str ya_nil)) (ya_cons (y_tup (ya_cons y_str (ya_cons y_str ya_nil))) (ya_cons (y_tup (ya_cons y_str (ya_cons y_str ya_nil))) (ya_cons (y_tup (ya_cons y_str (ya_cons y_str (ya_cons y_str ya_nil)))) ya_nil))))) (y_calG c__law_take hr (ya_cons (y_var 0) (ya_cons y_int ya_nil))) (fun _ _ => rfl)))
      (ys_one (y_ret (y_tup (ya_cons (y_add y_int (y_fdiv (y_calG c__law_take hr (ya_cons (y_var 0) (ya_cons y_int ya_nil))) y_int)) (ya_cons (y_var 1) ya_nil)))))), ?_⟩
  norm_cast
  push_cast []
  refine ⟨j, 4, c, rfl, hj, hc, by omega, by omega, fun z c1 hc1 h0 h1 => ?_⟩
  have hz : z = 0 ∨ z = 1 ∨ z = 2 ∨ z = 3 := by omega
  rcases hz with rfl | rfl | rfl | rfl
  all_goals
    push_cast []
    refine ⟨j, 5, c1, rfl, hs c1, hc1, by omega, by omega, fun z c2 hc2 h0 h1 => ?_⟩
    have hz : z = 0 ∨ z = 1 ∨ z = 2 ∨ z = 3 ∨ z = 4 := by omega
    have hd : CDivN z 3 := ⟨by omega, by omega⟩
    have ez : 1 + z.fdiv 3 = 1 ∨ 1 + z.fdiv 3 = 2 := by rcases hz with rfl | rfl | rfl | rfl | rfl <;> decide
    push_cast [List.set_set]
    first
      | exact hq _ ["a"] _ (kd_lit ez).1 hc2
      | exact hq _ ["a", "b"] _ (kd_lit ez).2.1 hc2
      | exact hq _ ["b", "d", "z"] _ (kd_lit ez).2.2 hc2
theorem ok_shape0 {k N : Nat} (bu : Bu mg) (c__law_take : Cal P w K mg base CX0 k "_law_take" ["tape", "many"] (spG K GTake)) (c__law_shape : Cal P w K mg base CX0 k "_law_shape" ["tape", "kind", "count"] (spG K (GShape N))) (Dn : Dfn K mg "_law_shape" ["tape", "kind", "count"] d__law_shape) : Cal P w K mg base CX0 (k+1) "_law_shape" ["tape", "kind", "count"] (spG K (GShape (N + 1))) := by
  refine calG Dn sc__law_shape (fun ss ω q h => ?_) fun f cdv A outer s H E ss ω q hr h => ?_
  · obtain ⟨j, c, ways, labels, n, rfl, _⟩ := h
    rfl
  have hu := hu_of hr
  have hu64 := hr.units
  obtain ⟨j, c, ways, labels, n, rfl, hn, hn2, hj, hc, hk, hq⟩ := h
  have hl := (List.getElem?_eq_some_iff.mp hj).1
  have hs := fun c => @List.getElem?_set_self Cell ω j c hl
  refine ⟨_, _, (ys_cons (y_ifS (yt_cmp (op_eqY hu64) refO_eq (y_var 2) y_int (nomark _)) (ys_one (y_ret (y_tup ya_nil))) ys_nil)
      (ys_cons (y_set (i := 3) sc__law_shape.nd rfl (y_ix hu (y_ix hu (y_var 1) y_int (fun _ _ => rfl)) (y_calG c__law_take hr (ya_cons (y_var 0) (ya_cons (y_len bu (ya_cons (y_ix hu (y_var 1) y_int (fun _ _ => rfl)) ya_nil)) ya_nil))) (fun _ _ => rfl)))
      (ys_cons (y_ifS (yt_cmp (op_eqY hu64) refO_eq (y_ix hu (y_var 1) y_int (fun _ _ => rfl)) y_int (nomark _)) (ys_one (y_ret (y_tup (ya_cons (y_var 3) (ya_cons (y_calG c__law_shape hr (ya_cons (y_var 0) (ya_cons (y_var 1) (ya_cons (y_sub (y_var 2) y_int) ya_nil)))) ya_nil))))) ys_nil)
      (ys_cons (y_set (i := 4) sc__law_shape.nd rfl (y_calG c__law_take hr (ya_cons (y_var 0) (ya_cons (y_var 2) ya_nil))))
      (ys_one (y_ret (y_tup (ya_cons (y_var 3) (ya_cons (y_calG c__law_shape hr (ya_cons (y_var 0) (ya_cons (y_var 1) (ya_cons (y_var 4) ya_nil)))) (ya_cons (y_calG c__law_shape hr (ya_cons (y_var 0) (ya_cons (y_var 1) (ya_cons (y_sub (y_sub (y_var 2) y_int) (y_var 4)) ya_nil)))) ya_nil)))))))))), ?_⟩
  norm_cast
  unfold kindD
  cases n with
  | zero =>
    push_cast []
    rw [set_same hj]
    exact hq .e c rfl trivial hc
  | succ n =>
    obtain ⟨hw, hne, hlen, hlab⟩ := id hk
    have hlen0 : labels.length ≠ 0 := by simpa using hne
    push_cast []
    refine ⟨j, labels.length, c, rfl, hj, hc, by omega, by omega, fun z c1 hc1 h0 h1 => ?_⟩
    obtain ⟨i, rfl⟩ := Int.eq_ofNat_of_zero_le h0
    have hi : i < labels.length := by omega
    have h4 : (labels.map D.str)[i]? = some (.str labels[i]) := by simp [hi]
    push_cast [atI_nat, h4]
    have hin := List.getElem_mem hi
    rcases hw with rfl | rfl
    · push_cast []
      refine ⟨j, c1, 1, labels, n, by rw [kindD, show ((n + 1 : Nat) : Int) - 1 = (n : Nat) by omega], by omega, by omega, hs c1, hc1, hk, fun sh c2 e1 e2 hc2 => ?_⟩
      rw [List.set_set]
      push_cast []
      exact hq (.w labels[i] sh) c2 (by rw [Sh.size, e1]) ⟨rfl, hin, e2⟩ hc2
    · push_cast []
      refine ⟨j, _, c1, rfl, hs c1, hc1, by omega, by omega, fun z c2 hc2 z0 z1 => ?_⟩
      obtain ⟨m, rfl⟩ := Int.eq_ofNat_of_zero_le z0
      rw [List.set_set]
      push_cast []
      refine ⟨j, c2, 2, labels, m, rfl, by omega, by omega, hs c2, hc2, hk, fun sl c3 e1 e2 hc3 => ?_⟩
      rw [List.set_set]
      push_cast []
      refine ⟨j, c3, 2, labels, n - m, by rw [kindD, show ((n + 1 : Nat) : Int) - 1 - (m : Nat) = (n - m : Nat) by omega], by omega, by omega, hs c3, hc3, hk, fun sr c4 e3 e4 hc4 => ?_⟩
      rw [List.set_set]
      push_cast []
      exact hq (.t labels[i] sl sr) c4 (by rw [Sh.size, e1, e3]; omega) ⟨rfl, hin, e2, e4⟩ hc4
theorem ok_shape {k : Nat} (bu : Bu mg) (c__law_take : Cal P w K mg base CX0 k "_law_take" ["tape", "many"] (spG K GTake)) (Dn : Dfn K mg "_law_shape" ["tape", "kind", "count"] d__law_shape) : ∀ N, Cal P w K mg base CX0 (k+N) "_law_shape" ["tape", "kind", "count"] (spG K (GShape N))
  | 0 => cal_noG Dn fun ss ω q ⟨j, c, ways, labels, n, _, h, _⟩ => by omega
  | N + 1 => ok_shape0 bu (c__law_take.mono (Nat.le_add_right k N)) (ok_shape bu c__law_take Dn N) Dn
theorem ok_paths0 {k N : Nat} (bu : Bu mg) (c__law_paths : Cal P w K mg base CX0 k "_law_paths" ["shape", "path"] (spP K (CPaths N))) (Dn : Dfn K mg "_law_paths" ["shape", "path"] d__law_paths) : Cal P w K mg base CX0 (k+1) "_law_paths" ["shape", "path"] (spP K (CPaths (N + 1))) := by
  refine calP Dn sc__law_paths (fun ds q h => ?_) fun f cdv A outer s H E ds q hr h => ?_
  · obtain ⟨s, p, ways, labels, rfl, _⟩ := h
    rfl
  have hu := hu_of hr
  have hu64 := hr.units
  have hpass := @PassesOwn.never
  obtain ⟨s, p, ways, labels, rfl, hn, hn2, hp, hk, hs, hq⟩ := h
  refine ⟨_, _, (ys_cons (y_ifS (yt_cmp (op_eqY hu64) refO_eq (y_var 0) (y_tup ya_nil) (nomark _)) (ys_one (y_ret (y_lstD ya_nil))) ys_nil)
      (ys_cons (y_set (i := 2) sc__law_paths.nd rfl (y_lstD (ya_cons (y_var 1) ya_nil)))
      (ys_cons (y_for hpass rfl (yi_range1 bu.range (ya_cons (y_sub (y_len bu (ya_cons (y_var 0) ya_nil)) y_int) ya_nil)) (yg_name (i := 3) sc__law_paths.nd rfl) (ys_one (y_set (i := 2) sc__law_paths.nd rfl (y_add (y_var 2) (y_cal c__law_paths hr (ya_cons (y_ix hu (y_var 0) (y_add (y_var 3) y_int) (fun _ _ => rfl)) (ya_cons (y_add (y_var 1) (y_tup (ya_cons (y_var 3) ya_nil))) ya_nil)))))))
      (ys_one (y_ret (y_var 2)))))), ?_⟩
  have oks := okD_of (s.clean hk hs 60 hn2) (by omega)
  have ok0 : okD (.tup []) := okD_path []
  unfold pathD
  norm_cast
  cases s with
  | e =>
    unfold Sh.d at oks ⊢
    push_cast [oks, eqv_nil]
    exact hq
  | w a c =>
    obtain ⟨_, h1, h2⟩ := hs
    rw [Sh.size] at hn hn2 hp
    unfold Sh.d at oks ⊢
    have l1 := c.paths_len (p ++ [0])
    push_cast [oks, ok0, eqv_nil]
    refine ⟨c, p ++ [0], _, _, by unfold pathD; rw [List.map_append]; rfl, by omega, by omega, by rw [List.length_append]; simp; omega, hk, h2, ?_⟩
    rw [Sh.paths, List.map_cons] at hq
    push_cast []
    exact hq
  | t a l r =>
    obtain ⟨_, h1, h2, h3⟩ := hs
    rw [Sh.size] at hn hn2 hp
    unfold Sh.d at oks ⊢
    have l1 := l.paths_len (p ++ [0])
    have l2 := r.paths_len (p ++ [1])
    push_cast [oks, ok0, eqv_nil]
    refine ⟨l, p ++ [0], _, _, by unfold pathD; rw [List.map_append]; rfl, by omega, by omega, by rw [List.length_append]; simp; omega, hk, h2, ?_⟩
    rw [Sh.paths, List.map_cons, List.map_append] at hq
    push_cast []
    refine ⟨r, p ++ [1], _, _, by unfold pathD; rw [List.map_append]; rfl, by omega, by omega, by rw [List.length_append]; simp; omega, hk, h3, ?_⟩
    push_cast []
    exact hq
theorem ok_paths {k : Nat} (bu : Bu mg) (Dn : Dfn K mg "_law_paths" ["shape", "path"] d__law_paths) : ∀ N, Cal P w K mg base CX0 (k+N) "_law_paths" ["shape", "path"] (spP K (CPaths N))
  | 0 => cal_noP Dn fun ds q ⟨s, p, ways, labels, _, h, _⟩ => by omega
  | N + 1 => ok_paths0 bu (ok_paths bu Dn N) Dn
/-- the shape at a path -/
def Sh.at_ : Sh → List Int → Option Sh
  | s, [] => some s
  | .w _ c, i :: p => if i = 0 then c.at_ p else none
  | .t _ l r, i :: p => if i = 0 then l.at_ p else if i = 1 then r.at_ p else none
  | .e, _ :: _ => none
def CPart : CP := fun ds q => ∃ (s t : Sh) (p : List Int), ds = [s.d, pathD p] ∧ s.at_ p = some t ∧ q t.d
theorem ok_part {k : Nat} (Dn : Dfn K mg "_law_part" ["shape", "path"] d__law_part) : Cal P w K mg base CX0 (k+1) "_law_part" ["shape", "path"] (spP K CPart) := by
  refine calP Dn sc__law_part (fun ds q h => ?_) fun f cdv A outer s H E ds q hr h => ?_
  · obtain ⟨s, t, p, rfl, _⟩ := h
    rfl
  have hu := hu_of hr
  have hpass := @PassesOwn.never
  obtain ⟨s, t, p, rfl, ht, hq⟩ := h
  refine ⟨_, _, (ys_cons (y_for hpass rfl (yi_seq (y_var 1)) (yg_name (i := 2) sc__law_part.nd rfl) (ys_one (y_set (i := 0) sc__law_part.nd rfl (y_ix hu (y_var 0) (y_add (y_var 2) y_int) (fun _ _ => rfl)))))
      (ys_one (y_ret (y_var 0)))), ?_⟩
  unfold pathD
  norm_cast
  push_cast []
  refine for_ind (fun is ρ ω => ∃ (s : Sh) (r : List Int) (y : Option S), is = (r.map D.int).map S.d ∧ ρ = [some (.d s.d), some (.d (.tup (p.map .int))), y] ∧ s.at_ r = some t) ⟨s, p, none, rfl, rfl, ht⟩ ?_ ?_
  · rintro s0 r0 ρ ω nx ⟨s, r, y, e1, rfl, e2⟩ hnx
    cases r with
    | nil => cases e1
    | cons i r =>
      rw [List.map_cons, List.map_cons] at e1
      obtain ⟨rfl, rfl⟩ := List.cons.inj e1
      cases s with
      | e => simp [Sh.at_] at e2
      | w a c =>
        rw [Sh.at_] at e2
        by_cases hi : i = 0
        · rw [if_pos hi] at e2
          subst hi
          rw [Sh.d]
          push_cast []
          exact hnx _ _ trivial ⟨c, r, _, rfl, rfl, e2⟩
        · rw [if_neg hi] at e2
          cases e2
      | t a u v =>
        rw [Sh.at_] at e2
        by_cases hi : i = 0
        · rw [if_pos hi] at e2
          subst hi
          rw [Sh.d]
          push_cast []
          exact hnx _ _ trivial ⟨u, r, _, rfl, rfl, e2⟩
        · rw [if_neg hi] at e2
          by_cases hi : i = 1
          · rw [if_pos hi] at e2
            subst hi
            rw [Sh.d]
            push_cast []
            exact hnx _ _ trivial ⟨v, r, _, rfl, rfl, e2⟩
          · rw [if_neg hi] at e2
            cases e2
  · rintro ρ ω ⟨s, r, y, e1, rfl, e2⟩
    cases r with
    | cons i r => cases e1
    | nil =>
      rw [Sh.at_] at e2
      cases e2
      push_cast []
      exact hq
end
end Y


set_option Elab.async false
set_option linter.all false
set_option maxRecDepth 100000
set_option maxHeartbeats 2000000
namespace Y
open PySem PySem.Spec PyProof.Rows L2 StX
local macro_rules | `(tactic| push_cast [$xs,*]) => `(tactic| repeat (first | (with_reducible first | refine g_c ?_ | (refine g_v ?_; first | refine g_var0 ?_ | refine g_var1 ?_ | refine g_var2 ?_ | refine g_var3 ?_ | refine g_var4 ?_ | refine g_var5 ?_ | refine g_var6 ?_ | refine g_var7 ?_ | refine g_var8 ?_ | refine g_var9 ?_ | refine g_var10 ?_ | refine g_var11 ?_ | refine g_var12 ?_ | refine g_var13 ?_ | refine g_var14 ?_ | refine g_var15 ?_)) | ((with_reducible refine lf_go fun Q hQ => ?_); simp only [seqD, revSeqD, spreadS, truD, slD, tyOk, appD, popD, extD, itemsOf, negD, putD, putC, sizeC, ty_non, ty_bl, ty_int, ty_str, ty_tup, ty_ktup, ty_lst, ty_pin, kitS, intO, addD, subD, mulD, modD, fdivD, shlD, shrD, bandD, borD, eq_ii, eq_ss, eq_bb, eq_tt, eq_ll, eq_tk, ordD, ltD, leD, gtD, geD, in_tup, in_ktup, in_lst, in_str, in_pin, inSq_str, inSq_int, isND, isNon, isBD, ix_tup, ix_ktup, ix_lst, ix_str, ix_pin, lookC, keyOf, keysOf, valS_nil, valS_cons, putS_nil, putS_cons, mergeS, kgetD, kixD, revD, wipeD, allD, len_tup, len_ktup, len_lst, len_str, len_pin, intD, absD, sumD, boolsD, tupD, listD, listP, dictC, lstOf, sqOf, allB, allI, allDk, ofString_inj, atI_0, atI_1, atI_2, atI_3, atI_1m1, atI_2m1, atI_2m2, atI_3m1, atI_3m2, atI_4m1, atI_4m2, cut_1, cut_2, cut_to1, cut_to2, cut_none, allD_map, List.map_cons, List.map_nil, List.length_cons, List.length_nil, List.length_append, List.length_map, List.length_set, List.replicate, List.nil_append, List.cons_append, List.append_nil, List.append_assoc, List.getElem?_cons_zero, List.getElem?_cons_succ, List.getElem?_nil, List.set_cons_zero, List.set_cons_succ, List.find?_cons, List.find?_nil, List.any_cons, List.any_nil, List.foldl_cons, List.foldl_nil, List.isEmpty_cons, List.isEmpty_nil, List.dropLast_concat, get_new, get_new1, get_new2, get_new3, set_new, set_new1, set_new2, set_new3, Option.map_some, Option.map_none, Option.isSome_some, Option.isSome_none, Option.some.injEq, Sum.inr.injEq, Sum.inl.injEq, reduceCtorEq, if_true, if_false, ite_true, ite_false, Bool.false_eq_true, Bool.not_true, Bool.not_false, Bool.false_xor, Bool.true_xor, Bool.xor_false, Bool.xor_true, decide_true, decide_false, decide_eq_true_eq, true_and, and_true, false_and, and_false, Bool.or_true, Bool.or_false, Bool.true_or, Bool.false_or, Bool.and_true, Bool.and_false, Bool.true_and, Bool.false_and, not_true_eq_false, not_false_eq_true, Nat.reduceAdd, Nat.reduceSub, Nat.reduceLeDiff, Nat.reduceLT, Nat.reduceEqDiff, Nat.reduceMul, Int.reduceLE, Int.reduceLT, Int.reduceEq, Int.reduceAdd, Int.reduceSub, Int.reduceNeg, Int.reduceMul, Int.reduceToNat, String.reduceEq, String.reduceBEq, reduceIte, Int.cast_ofNat_Int, Nat.zero_add, rng_0, rng_1, rng_2, rng_3, Nat.add_one_sub_one, List.reverse_nil, strsOf_nil, strsOf_cons, strsOf_map, intsOf_nil, intsOf_cons, intsOf_map, List.mem_cons, List.not_mem_nil, or_false, false_or, or_true, true_or, allB_map, allI_map, allB_mapf, allI_mapf, get_newm, allD_app, allD_mapf, isEmpty_snoc, $xs,*]; subst hQ; try dsimp only) | (with_reducible first | refine g_op ?_ | refine g_cons ?_ | refine g_nil ?_ | refine g_test ?_ | refine g_asB ?_ | refine g_true ?_ | refine g_false ?_ | refine g_dec ?_ | refine g_seq ?_ | refine g_un ?_ | refine g_b ?_ | refine g_nt ?_ | refine g_ifS ?_ | refine g_ret ?_ | refine g_next ?_ | (refine g_st ?_; first | refine g_set0 ?_ | refine g_set1 ?_ | refine g_set2 ?_ | refine g_set3 ?_ | refine g_set4 ?_ | refine g_set5 ?_ | refine g_set6 ?_ | refine g_set7 ?_ | refine g_set8 ?_ | refine g_set9 ?_ | refine g_set10 ?_ | refine g_set11 ?_ | refine g_set12 ?_ | refine g_set13 ?_ | refine g_set14 ?_ | refine g_set15 ?_) | (refine g_gn ?_; first | refine g_gn0 ?_ | refine g_gn1 ?_ | refine g_gn2 ?_ | refine g_gn3 ?_ | refine g_gn4 ?_ | refine g_gn5 ?_ | refine g_gn6 ?_ | refine g_gn7 ?_ | refine g_gn8 ?_ | refine g_gn9 ?_ | refine g_gn10 ?_ | refine g_gn11 ?_ | refine g_gn12 ?_ | refine g_gn13 ?_ | refine g_gn14 ?_ | refine g_gn15 ?_) | refine g_lf1 ?_ | refine g_lf2 ?_ | refine g_notTv ?_ | refine g_andT ?_ | refine g_orT ?_ | refine g_notT ?_ | refine g_mt ?_ | refine g_mt0 ?_ | refine g_drop ?_ | refine g_tup ?_ | refine g_lstD ?_ | refine g_lst ?_ | refine g_if ?_ | refine g_call ?_ | refine g_callG ?_ | refine g_callX ?_ | refine g_callGX ?_ | refine g_tru ?_ | refine g_andV ?_ | refine g_orV ?_ | refine g_notV ?_ | refine g_sl ?_ | refine g_noPart ?_ | refine g_part ?_ | refine g_partI ?_ | refine g_chain ?_ | refine g_putS ?_ | refine g_isi ?_ | refine g_star ?_ | refine g_for ?_ | refine g_lc ?_ | refine g_seqI ?_ | refine g_revI ?_ | refine g_rng1 ?_ | refine g_rng2 ?_ | refine g_gNil ?_ | refine g_gCons ?_ | refine g_gTup2 ?_ | refine g_gTup3 ?_ | refine g_gTup4 ?_ | refine g_yes ?_ | refine g_retN ?_ | refine g_break ?_ | refine g_cont ?_ | refine g_finD ?_ | refine g_finD2 ?_ | refine g_finP ?_ | refine g_lcB ?_ | refine g_lcNil ?_ | refine g_lcCons ?_ | refine g_forNil ?_ | refine g_forCons ?_ | refine g_rtP ?_ | refine g_rtPin ?_ | refine g_disp ?_ | refine g_pairs0 ?_ | refine g_pairsS ?_ | refine g_pairsI ?_ | refine g_newK ?_ | refine g_newT ?_ | refine g_loc rfl ?_) | ((with_reducible refine g_pos ?_ ?_); · first | assumption | rfl | omega) | ((with_reducible refine g_neg ?_ ?_); · first | assumption | omega | decide) | ((with_reducible refine And.intro ?_ ?_); · first | trivial | assumption | omega | exact Or.inr (by decide) | (dsimp only; omega) | (simp; done))))
local macro_rules | `(tactic| norm_cast) => `(tactic| ((first | with_reducible refine g_endsG ?_ | with_reducible refine g_endsP ?_); simp only [start_eq, List.map_cons, List.map_nil, List.replicate, List.length_cons, List.length_nil, Nat.reduceAdd, Nat.reduceSub, Nat.zero_add, List.cons_append, List.nil_append]))
/-! ### formulas and expressions as trees -/
inductive Tr where
  | leaf (h : List Key) | un (h : List Key) (f : Tr) | bin (h : List Key) (f g : Tr)
  deriving DecidableEq
def keyD : Key → D
  | .inl i => .int i
  | .inr x => .str x
def Tr.hd : Tr → List Key
  | .leaf h => h
  | .un h _ => h
  | .bin h _ _ => h
def Tr.ins : Tr → List Tr
  | .leaf _ => []
  | .un _ f => [f]
  | .bin _ f g => [f, g]
def Tr.d : Tr → D
  | .leaf h => .tup (h.map keyD)
  | .un h f => .tup (h.map keyD ++ [f.d])
  | .bin h f g => .tup (h.map keyD ++ [f.d, g.d])
theorem Tr.d_eq (t : Tr) : t.d = .tup (t.hd.map keyD ++ t.ins.map Tr.d) := by
  cases t <;> simp [Tr.d, Tr.hd, Tr.ins]
/-- all parts, each ahead of those inside of it -/
def Tr.pre : Tr → List Tr
  | .leaf h => [.leaf h]
  | .un h f => .un h f :: f.pre
  | .bin h f g => .bin h f g :: (f.pre ++ g.pre)
theorem Tr.pre_eq (t : Tr) : t.pre = t :: (t.ins.map Tr.pre).flatten := by
  cases t <;> simp [Tr.pre, Tr.ins]
theorem Tr.pre_self (t : Tr) : t ∈ t.pre := by rw [t.pre_eq]; simp
def tabI (w : Str) : Option D := if w ∈ (["not", "and", "or", "then", "either", "many"] : List Str) then some (.int 1) else if w ∈ (["some", "all", "someset", "allset"] : List Str) then some (.int 2) else none
def WALL : List Str := ["true", "label", "child", "below", "same", "top", "in", "inside", "not", "and", "or", "some", "all", "someset", "allset", "none", "empty", "letter", "then", "either", "many"]
/-- the head tells where the parts begin -/
def Tr.Root (t : Tr) : Prop := ∃ w r, t.hd = .inr w :: r ∧ tabI w = (match t.ins with | [] => none | _ => some (.int t.hd.length)) ∧ r.length ≤ 100 ∧ w ∈ WALL
def Tr.Ok (t : Tr) : Prop := ∀ s ∈ t.pre, s.Root
theorem Tr.Ok.root {t : Tr} (h : t.Ok) : t.Root := h t t.pre_self
theorem Tr.pre_ins {t s : Tr} (h : s ∈ t.ins) {u : Tr} (hu : u ∈ s.pre) : u ∈ t.pre := by
  rw [t.pre_eq]
  exact List.mem_cons_of_mem _ (List.mem_flatten.mpr ⟨s.pre, List.mem_map.mpr ⟨s, h, rfl⟩, hu⟩)
theorem Tr.Ok.ins {t s : Tr} (h : t.Ok) (hs : s ∈ t.ins) : s.Ok := fun u hu => h u (Tr.pre_ins hs hu)
theorem allD_mapD (ds : List D) : allD (ds.map S.d) = some ds := allD_map ds
theorem sc_inner : FnScope ["whole"] ["whole"] (defScope d_inner) := ⟨rfl, rfl, rfl, by decide +kernel, rfl, by decide +kernel, by decide +kernel⟩
theorem sc_outer : FnScope ["whole"] ["whole"] (defScope d_outer) := ⟨rfl, rfl, rfl, by decide +kernel, rfl, by decide +kernel, by decide +kernel⟩
theorem sc_all_parts : FnScope ["whole", "waiting", "found", "now"] ["whole"] (defScope d_all_parts) := ⟨rfl, rfl, rfl, by decide +kernel, rfl, by decide +kernel, by decide +kernel⟩
def CInner : CP := fun ds q => ∃ t : Tr, ds = [t.d] ∧ t.Root ∧ q (.tup (t.ins.map Tr.d))
def COuter : CP := fun ds q => ∃ t : Tr, ds = [t.d] ∧ t.Root ∧ q (.tup (t.hd.map keyD))
def CAll : CP := fun ds q => ∃ t : Tr, ds = [t.d] ∧ t.Ok ∧ t.pre.length ≤ 100000 ∧ q (.lst (t.pre.map Tr.d))
section
variable {P : Program} {w : World} {K : PySem.W.Frag} {mg : Str → Option Value} {base : Heap} {aI : Addr}
theorem ok_inner {k : Nat} (bu : Bu mg) (k_INSIDE : KTab K w mg "INSIDE" aI WALL tabI) (Dn : Dfn K mg "inner" ["whole"] d_inner) : Cal P w K mg base CX0 (k+1) "inner" ["whole"] (spP K CInner) := by
  refine calP Dn sc_inner (fun ds q h => ?_) fun f cdv A outer s H E ds q hr h => ?_
  · obtain ⟨t, rfl, _⟩ := h
    rfl
  have hu := hu_of hr
  obtain ⟨t, rfl, ⟨x, r, e1, e2, _, hw⟩, hq⟩ := h
  refine ⟨_, _, (ys_one (y_ret (y_slice (y_var 0) (yo_some (y_kget k_INSIDE (y_ix hu (y_var 0) y_int (fun _ _ => rfl)) (y_len bu (ya_cons (y_var 0) ya_nil)))) yo_none))), ?_⟩
  rw [t.d_eq]
  norm_cast
  push_cast [e1, keyD, e2]
  have hn : (t.hd.map keyD).length = (r.map keyD).length + 1 := by rw [e1]; simp
  cases ei : t.ins with
  | nil =>
    rw [ei] at hq
    push_cast []
    rw [show r.length + 0 + 1 = r.length + 1 by omega, cut_from, List.drop_of_length_le (by rw [hn, List.length_map]; omega)]
    exact hq
  | cons a l =>
    rw [ei] at hq
    push_cast []
    rw [cut_from, List.drop_append_of_le_length (by rw [hn, List.length_map]; omega), List.drop_of_length_le (by rw [hn, List.length_map]; omega)]
    exact hq
theorem ok_outer {k : Nat} (bu : Bu mg) (k_INSIDE : KTab K w mg "INSIDE" aI WALL tabI) (Dn : Dfn K mg "outer" ["whole"] d_outer) : Cal P w K mg base CX0 (k+1) "outer" ["whole"] (spP K COuter) := by
  refine calP Dn sc_outer (fun ds q h => ?_) fun f cdv A outer s H E ds q hr h => ?_
  · obtain ⟨t, rfl, _⟩ := h
    rfl
  have hu := hu_of hr
  obtain ⟨t, rfl, ⟨x, r, e1, e2, _, hw⟩, hq⟩ := h
  refine ⟨_, _, (ys_one (y_ret (y_slice (y_var 0) yo_none (yo_some (y_kget k_INSIDE (y_ix hu (y_var 0) y_int (fun _ _ => rfl)) (y_len bu (ya_cons (y_var 0) ya_nil))))))), ?_⟩
  rw [t.d_eq]
  norm_cast
  push_cast [e1, keyD, e2]
  have hn : (t.hd.map keyD).length = (r.map keyD).length + 1 := by rw [e1]; simp
  cases ei : t.ins with
  | nil =>
    push_cast []
    rw [show r.length + 0 + 1 = r.length + 1 by omega, cut_to, List.take_of_length_le (by rw [hn, List.length_map]; omega)]
    exact hq
  | cons a l =>
    push_cast []
    rw [cut_to, List.take_append_of_le_length (by rw [hn, List.length_map]; omega), List.take_of_length_le (by rw [hn, List.length_map]; omega)]
    exact hq
theorem ok_all {k : Nat} (bu : Bu mg) (c_inner : Cal P w K mg base CX0 k "inner" ["whole"] (spP K CInner)) (Dn : Dfn K mg "all_parts" ["whole"] d_all_parts) : Cal P w K mg base CX0 (k+1) "all_parts" ["whole"] (spP K CAll) := by
  refine calP Dn sc_all_parts (fun ds q h => ?_) fun f cdv A outer s H E ds q hr h => ?_
  · obtain ⟨t, rfl, _⟩ := h
    rfl
  have hu := hu_of hr
  have hpass := @PassesOwn.never
  obtain ⟨t, rfl, ht, hn, hq⟩ := h
  refine ⟨_, _, (ys_cons (y_set (i := 1) sc_all_parts.nd rfl (y_lst (ya_cons (y_var 0) ya_nil)))
      (ys_cons (y_set (i := 2) sc_all_parts.nd rfl (y_lst ya_nil))
      (ys_cons (y_while hpass (yt_tru (y_var 1)) (ys_cons (y_set (i := 3) sc_all_parts.nd rfl (y_pop (y_var 1)))
        (ys_cons (y_expr (y_append (y_var 2) (ya_cons (y_var 3) ya_nil)))
        (ys_one (y_expr (y_extend (y_var 1) (ya_cons (y_listRev bu rfl (y_cal c_inner hr (ya_cons (y_var 3) ya_nil))) ya_nil)))))))
      (ys_one (y_ret (y_var 2)))))), ?_⟩
  norm_cast
  push_cast []
  refine while_ind (n := t.pre.length) (fun n ρ ω => ∃ (stk done : List Tr) (y : Option S), ρ = [some (.d t.d), some (.pin 0), some (.pin 1), y] ∧ ω = [.lst (stk.reverse.map fun s => .d s.d), .lst (done.map fun s => .d s.d)] ∧ done ++ (stk.map Tr.pre).flatten = t.pre ∧ n = (stk.map Tr.pre).flatten.length ∧ ∀ s ∈ stk, s.Ok) ⟨[t], [], none, rfl, rfl, by simp, by simp, by simpa using ht⟩ ?_
  rintro n ρ ω nx ⟨stk, done, y, rfl, rfl, e1, e2, ho⟩ hnx
  have hl := congrArg List.length e1
  rw [List.length_append] at hl
  cases stk with
  | nil =>
    push_cast []
    rw [List.map_nil, List.flatten_nil, List.append_nil] at e1
    rw [e1]
    exact hq
  | cons s rest =>
    rw [List.reverse_cons, List.map_append]
    push_cast []
    refine ⟨s, rfl, (ho s (by simp)).root, ?_⟩
    have hs : s.pre.length = 1 + ((s.ins.map Tr.pre).flatten).length := by rw [s.pre_eq]; simp; omega
    have hr' : ∀ l : List Tr, l.length ≤ ((l.map Tr.pre).flatten).length := fun l => by
      induction l with
      | nil => simp
      | cons a l ih =>
        rw [List.map_cons, List.flatten_cons, List.length_append, List.length_cons, a.pre_eq, List.length_cons]
        omega
    have h1 := hr' rest
    have h2 := hr' s.ins
    rw [List.map_cons, List.flatten_cons, List.length_append] at hl
    push_cast []
    refine ⟨by rw [List.length_reverse, List.length_reverse, List.length_map]; omega, ?_⟩
    refine hnx ((s.ins ++ rest).map Tr.pre).flatten.length _ _ ?_ ⟨s.ins ++ rest, done ++ [s], _, rfl, ?_, ?_, rfl, fun u hu => ?_⟩
    · rw [e2, List.map_cons, List.flatten_cons, List.map_append, List.flatten_append, List.length_append, List.length_append, hs]
      omega
    · simp [Function.comp_def]
    · rw [← e1, List.map_cons, List.flatten_cons, s.pre_eq]
      simp
    · rcases List.mem_append.mp hu with hu | hu
      · exact (ho s (by simp)).ins hu
      · exact ho u (by simp [hu])
end
end Y


set_option Elab.async false
set_option linter.all false
set_option maxRecDepth 100000
set_option maxHeartbeats 2000000
namespace Y
open PySem PySem.Spec PyProof.Rows L2 StX
local macro_rules | `(tactic| push_cast [$xs,*]) => `(tactic| repeat (first | (with_reducible first | refine g_c ?_ | (refine g_v ?_; first | refine g_var0 ?_ | refine g_var1 ?_ | refine g_var2 ?_ | refine g_var3 ?_ | refine g_var4 ?_ | refine g_var5 ?_ | refine g_var6 ?_ | refine g_var7 ?_ | refine g_var8 ?_ | refine g_var9 ?_ | refine g_var10 ?_ | refine g_var11 ?_ | refine g_var12 ?_ | refine g_var13 ?_ | refine g_var14 ?_ | refine g_var15 ?_)) | ((with_reducible refine lf_go fun Q hQ => ?_); simp only [seqD, revSeqD, spreadS, truD, slD, tyOk, appD, popD, extD, itemsOf, negD, putD, putC, sizeC, ty_non, ty_bl, ty_int, ty_str, ty_tup, ty_ktup, ty_lst, ty_pin, kitS, intO, addD, subD, mulD, modD, fdivD, shlD, shrD, bandD, borD, eq_ii, eq_ss, eq_bb, eq_tt, eq_ll, eq_tk, ordD, ltD, leD, gtD, geD, in_tup, in_ktup, in_lst, in_str, in_pin, inSq_str, inSq_int, isND, isNon, isBD, ix_tup, ix_ktup, ix_lst, ix_str, ix_pin, lookC, keyOf, keysOf, valS_nil, valS_cons, putS_nil, putS_cons, mergeS, kgetD, kixD, revD, wipeD, allD, len_tup, len_ktup, len_lst, len_str, len_pin, intD, absD, sumD, boolsD, tupD, listD, listP, dictC, lstOf, sqOf, allB, allI, allDk, ofString_inj, atI_0, atI_1, atI_2, atI_3, atI_1m1, atI_2m1, atI_2m2, atI_3m1, atI_3m2, atI_4m1, atI_4m2, cut_1, cut_2, cut_to1, cut_to2, cut_none, allD_map, List.map_cons, List.map_nil, List.length_cons, List.length_nil, List.length_append, List.length_map, List.length_set, List.replicate, List.nil_append, List.cons_append, List.append_nil, List.append_assoc, List.getElem?_cons_zero, List.getElem?_cons_succ, List.getElem?_nil, List.set_cons_zero, List.set_cons_succ, List.find?_cons, List.find?_nil, List.any_cons, List.any_nil, List.foldl_cons, List.foldl_nil, List.isEmpty_cons, List.isEmpty_nil, List.dropLast_concat, get_new, get_new1, get_new2, get_new3, set_new, set_new1, set_new2, set_new3, Option.map_some, Option.map_none, Option.isSome_some, Option.isSome_none, Option.some.injEq, Sum.inr.injEq, Sum.inl.injEq, reduceCtorEq, if_true, if_false, ite_true, ite_false, Bool.false_eq_true, Bool.not_true, Bool.not_false, Bool.false_xor, Bool.true_xor, Bool.xor_false, Bool.xor_true, decide_true, decide_false, decide_eq_true_eq, true_and, and_true, false_and, and_false, Bool.or_true, Bool.or_false, Bool.true_or, Bool.false_or, Bool.and_true, Bool.and_false, Bool.true_and, Bool.false_and, not_true_eq_false, not_false_eq_true, Nat.reduceAdd, Nat.reduceSub, Nat.reduceLeDiff, Nat.reduceLT, Nat.reduceEqDiff, Nat.reduceMul, Int.reduceLE, Int.reduceLT, Int.reduceEq, Int.reduceAdd, Int.reduceSub, Int.reduceNeg, Int.reduceMul, Int.reduceToNat, String.reduceEq, String.reduceBEq, reduceIte, Int.cast_ofNat_Int, Nat.zero_add, rng_0, rng_1, rng_2, rng_3, Nat.add_one_sub_one, List.reverse_nil, strsOf_nil, strsOf_cons, strsOf_map, intsOf_nil, intsOf_cons, intsOf_map, List.mem_cons, List.not_mem_nil, or_false, false_or, or_true, true_or, allB_map, allI_map, allB_mapf, allI_mapf, get_newm, allD_app, allD_mapf, isEmpty_snoc, $xs,*]; subst hQ; try dsimp only) | (with_reducible first | refine g_op ?_ | refine g_cons ?_ | refine g_nil ?_ | refine g_test ?_ | refine g_asB ?_ | refine g_true ?_ | refine g_false ?_ | refine g_dec ?_ | refine g_seq ?_ | refine g_un ?_ | refine g_b ?_ | refine g_nt ?_ | refine g_ifS ?_ | refine g_ret ?_ | refine g_next ?_ | (refine g_st ?_; first | refine g_set0 ?_ | refine g_set1 ?_ | refine g_set2 ?_ | refine g_set3 ?_ | refine g_set4 ?_ | refine g_set5 ?_ | refine g_set6 ?_ | refine g_set7 ?_ | refine g_set8 ?_ | refine g_set9 ?_ | refine g_set10 ?_ | refine g_set11 ?_ | refine g_set12 ?_ | refine g_set13 ?_ | refine g_set14 ?_ | refine g_set15 ?_) | (refine g_gn ?_; first | refine g_gn0 ?_ | refine g_gn1 ?_ | refine g_gn2 ?_ | refine g_gn3 ?_ | refine g_gn4 ?_ | refine g_gn5 ?_ | refine g_gn6 ?_ | refine g_gn7 ?_ | refine g_gn8 ?_ | refine g_gn9 ?_ | refine g_gn10 ?_ | refine g_gn11 ?_ | refine g_gn12 ?_ | refine g_gn13 ?_ | refine g_gn14 ?_ | refine g_gn15 ?_) | refine g_lf1 ?_ | refine g_lf2 ?_ | refine g_notTv ?_ | refine g_andT ?_ | refine g_orT ?_ | refine g_notT ?_ | refine g_mt ?_ | refine g_mt0 ?_ | refine g_drop ?_ | refine g_tup ?_ | refine g_lstD ?_ | refine g_lst ?_ | refine g_if ?_ | refine g_call ?_ | refine g_callG ?_ | refine g_callX ?_ | refine g_callGX ?_ | refine g_tru ?_ | refine g_andV ?_ | refine g_orV ?_ | refine g_notV ?_ | refine g_sl ?_ | refine g_noPart ?_ | refine g_part ?_ | refine g_partI ?_ | refine g_chain ?_ | refine g_putS ?_ | refine g_isi ?_ | refine g_star ?_ | refine g_for ?_ | refine g_lc ?_ | refine g_seqI ?_ | refine g_revI ?_ | refine g_rng1 ?_ | refine g_rng2 ?_ | refine g_gNil ?_ | refine g_gCons ?_ | refine g_gTup2 ?_ | refine g_gTup3 ?_ | refine g_gTup4 ?_ | refine g_yes ?_ | refine g_retN ?_ | refine g_break ?_ | refine g_cont ?_ | refine g_finD ?_ | refine g_finD2 ?_ | refine g_finP ?_ | refine g_lcB ?_ | refine g_lcNil ?_ | refine g_lcCons ?_ | refine g_forNil ?_ | refine g_forCons ?_ | refine g_rtP ?_ | refine g_rtPin ?_ | refine g_disp ?_ | refine g_pairs0 ?_ | refine g_pairsS ?_ | refine g_pairsI ?_ | refine g_newK ?_ | refine g_newT ?_ | refine g_loc rfl ?_) | ((with_reducible refine g_pos ?_ ?_); · first | assumption | rfl | omega) | ((with_reducible refine g_neg ?_ ?_); · first | assumption | omega | decide) | ((with_reducible refine And.intro ?_ ?_); · first | trivial | assumption | omega | exact Or.inr (by decide) | (dsimp only; omega) | (simp; done))))
local macro_rules | `(tactic| norm_cast) => `(tactic| ((first | with_reducible refine g_endsG ?_ | with_reducible refine g_endsP ?_); simp only [start_eq, List.map_cons, List.map_nil, List.replicate, List.length_cons, List.length_nil, Nat.reduceAdd, Nat.reduceSub, Nat.zero_add, List.cons_append, List.nil_append]))
/-! ### formulas -/
inductive Qw where | some | all | someset | allset
inductive At where
  | tru | label (a x : Str) | child (k : Int) (x y : Str) | below (x y : Str) | same (x y : Str) | top (x : Str) | isin (x X : Str) | inside (X Y : Str)
inductive Fo where
  | at_ (a : At) | not (f : Fo) | and (f g : Fo) | or (f g : Fo) | qu (w : Qw) (x : Str) (f : Fo)
def Qw.word : Qw → Str
  | .some => "some"
  | .all => "all"
  | .someset => "someset"
  | .allset => "allset"
def At.hd : At → List Key
  | .tru => [.inr "true"]
  | .label a x => [.inr "label", .inr a, .inr x]
  | .child k x y => [.inr "child", .inl k, .inr x, .inr y]
  | .below x y => [.inr "below", .inr x, .inr y]
  | .same x y => [.inr "same", .inr x, .inr y]
  | .top x => [.inr "top", .inr x]
  | .isin x y => [.inr "in", .inr x, .inr y]
  | .inside x y => [.inr "inside", .inr x, .inr y]
def Fo.tr : Fo → Tr
  | .at_ a => .leaf a.hd
  | .not f => .un [.inr "not"] f.tr
  | .and f g => .bin [.inr "and"] f.tr g.tr
  | .or f g => .bin [.inr "or"] f.tr g.tr
  | .qu w x f => .un [.inr w.word, .inr x] f.tr
def Fo.d (f : Fo) : D := f.tr.d
theorem At.d_eq (a : At) : (Fo.at_ a).d = .tup (a.hd.map keyD) := rfl
theorem Fo.not_d (f : Fo) : (Fo.not f).d = .tup [.str "not", f.d] := rfl
theorem Fo.and_d (f g : Fo) : (Fo.and f g).d = .tup [.str "and", f.d, g.d] := rfl
theorem Fo.or_d (f g : Fo) : (Fo.or f g).d = .tup [.str "or", f.d, g.d] := rfl
theorem Fo.qu_d (w : Qw) (x : Str) (f : Fo) : (Fo.qu w x f).d = .tup [.str w.word, .str x, f.d] := rfl
theorem tabI_not : tabI "not" = some (.int 1) := by simp [tabI, ofString_inj]
theorem tabI_and : tabI "and" = some (.int 1) := by simp [tabI, ofString_inj]
theorem tabI_or : tabI "or" = some (.int 1) := by simp [tabI, ofString_inj]
theorem tabI_q (w : Qw) : tabI w.word = some (.int 2) := by cases w <;> simp [tabI, Qw.word, ofString_inj]
theorem tabI_at (a : At) : ∃ w r, a.hd = .inr w :: r ∧ tabI w = none ∧ r.length ≤ 3 ∧ w ∈ WALL := by
  cases a <;> exact ⟨_, _, rfl, by simp [tabI, ofString_inj], by simp, by simp [WALL]⟩
theorem Fo.root (f : Fo) : f.tr.Root := by
  cases f with
  | at_ a =>
    obtain ⟨w, r, h1, h2, h3, h4⟩ := tabI_at a
    exact ⟨w, r, h1, h2, by omega, h4⟩
  | not f => exact ⟨_, _, rfl, tabI_not, by simp, by simp [WALL]⟩
  | and f g => exact ⟨_, _, rfl, tabI_and, by simp, by simp [WALL]⟩
  | or f g => exact ⟨_, _, rfl, tabI_or, by simp, by simp [WALL]⟩
  | qu w x f => exact ⟨_, _, rfl, tabI_q w, by simp, by cases w <;> simp [Qw.word, WALL]⟩
/-- all parts -/
def Fo.pre : Fo → List Fo
  | .at_ a => [.at_ a]
  | .not f => .not f :: f.pre
  | .and f g => .and f g :: (f.pre ++ g.pre)
  | .or f g => .or f g :: (f.pre ++ g.pre)
  | .qu w x f => .qu w x f :: f.pre
theorem Fo.pre_tr : ∀ f : Fo, f.tr.pre = f.pre.map Fo.tr
  | .at_ a => rfl
  | .not f => by rw [Fo.tr, Tr.pre, f.pre_tr]; rfl
  | .and f g => by rw [Fo.tr, Tr.pre, f.pre_tr, g.pre_tr, Fo.pre, List.map_cons, List.map_append]; rfl
  | .or f g => by rw [Fo.tr, Tr.pre, f.pre_tr, g.pre_tr, Fo.pre, List.map_cons, List.map_append]; rfl
  | .qu w x f => by rw [Fo.tr, Tr.pre, f.pre_tr]; rfl
theorem Fo.ok (f : Fo) : f.tr.Ok := fun s hs => by
  rw [f.pre_tr] at hs
  obtain ⟨g, _, rfl⟩ := List.mem_map.mp hs
  exact g.root
def Fo.num : Fo → Nat
  | .at_ _ => 1
  | .not f => f.num + 1
  | .and f g => f.num + g.num + 1
  | .or f g => f.num + g.num + 1
  | .qu _ _ f => f.num + 1
def Fo.dep : Fo → Nat
  | .at_ _ => 1
  | .not f => f.dep + 1
  | .and f g => max f.dep g.dep + 1
  | .or f g => max f.dep g.dep + 1
  | .qu _ _ f => f.dep + 1
theorem Fo.pre_len : ∀ f : Fo, f.tr.pre.length = f.num
  | .at_ a => rfl
  | .not f => by rw [Fo.tr, Tr.pre, List.length_cons, f.pre_len]; rfl
  | .and f g => by rw [Fo.tr, Tr.pre, List.length_cons, List.length_append, f.pre_len, g.pre_len]; rfl
  | .or f g => by rw [Fo.tr, Tr.pre, List.length_cons, List.length_append, f.pre_len, g.pre_len]; rfl
  | .qu w x f => by rw [Fo.tr, Tr.pre, List.length_cons, f.pre_len]; rfl
theorem Fo.num_dep : ∀ f : Fo, f.num < 2 ^ f.dep
  | .at_ a => by show 1 < 2 ^ 1; decide
  | .not f => by have := f.num_dep; rw [Fo.num, Fo.dep, Nat.pow_succ]; omega
  | .and f g => by
    have h1 := Nat.pow_le_pow_right (n := 2) (by omega) (Nat.le_max_left f.dep g.dep)
    have h2 := Nat.pow_le_pow_right (n := 2) (by omega) (Nat.le_max_right f.dep g.dep)
    have h3 := f.num_dep
    have h4 := g.num_dep
    rw [Fo.num, Fo.dep, Nat.pow_succ]
    omega
  | .or f g => by
    have h1 := Nat.pow_le_pow_right (n := 2) (by omega) (Nat.le_max_left f.dep g.dep)
    have h2 := Nat.pow_le_pow_right (n := 2) (by omega) (Nat.le_max_right f.dep g.dep)
    have h3 := f.num_dep
    have h4 := g.num_dep
    rw [Fo.num, Fo.dep, Nat.pow_succ]
    omega
  | .qu w x f => by have := f.num_dep; rw [Fo.num, Fo.dep, Nat.pow_succ]; omega
/-- where its variables stand: element variables among xs, set variables among Xs; the names themselves: small ones and capitals -/
def At.In (ways : Int) (labels xs Xs : List Str) : At → Prop
  | .tru => True
  | .label a x => a ∈ labels ∧ x ∈ xs
  | .child k x y => 0 ≤ k ∧ k < ways ∧ x ∈ xs ∧ y ∈ xs
  | .below x y => x ∈ xs ∧ y ∈ xs
  | .same x y => x ∈ xs ∧ y ∈ xs
  | .top x => x ∈ xs
  | .isin x X => x ∈ xs ∧ X ∈ Xs
  | .inside X Y => X ∈ Xs ∧ Y ∈ Xs
def smalls : List Str := ["x", "y", "z"]
def capitals : List Str := ["X", "Y", "Z"]
def Fo.In (ways : Int) (labels : List Str) : List Str → List Str → Fo → Prop
  | xs, Xs, .at_ a => a.In ways labels xs Xs
  | xs, Xs, .not f => f.In ways labels xs Xs
  | xs, Xs, .and f g => f.In ways labels xs Xs ∧ g.In ways labels xs Xs
  | xs, Xs, .or f g => f.In ways labels xs Xs ∧ g.In ways labels xs Xs
  | xs, Xs, .qu .some x f => x ∈ smalls ∧ f.In ways labels (xs ++ [x]) Xs
  | xs, Xs, .qu .all x f => x ∈ smalls ∧ f.In ways labels (xs ++ [x]) Xs
  | xs, Xs, .qu .someset x f => x ∈ capitals ∧ f.In ways labels xs (Xs ++ [x])
  | xs, Xs, .qu .allset x f => x ∈ capitals ∧ f.In ways labels xs (Xs ++ [x])
def NamesOk (xs : List Str) : Prop := xs.length ≤ 100 ∧ ∀ x ∈ xs, PyData.strOk x = true
theorem small_ok {x : Str} (h : x ∈ smalls) : PyData.strOk x = true := by
  have : ∀ x ∈ smalls, PyData.strOk x = true := by decide +kernel
  exact this x h
theorem NamesOk.clean {xs : List Str} (h : NamesOk xs) : okD (.lst (xs.map .str)) := okD_of (n := 2) (by
  rw [cleanD]
  exact cleanDs_of fun d hd => by
    obtain ⟨x, hx, rfl⟩ := List.mem_map.mp hd
    rw [cleanD]
    exact h.2 x hx) (by omega)
theorem ok_nilL : okD (.lst []) := okD_of (n := 2) (by rw [cleanD, cleanDs]) (by omega)
theorem pick {l : List Str} {z : Int} (h0 : 0 ≤ z) (h1 : z < l.length) : ∃ x ∈ l, atI (l.map D.str) z = some (.str x) := by
  obtain ⟨i, rfl⟩ := Int.eq_ofNat_of_zero_le h0
  have hi : i < l.length := by omega
  exact ⟨l[i], List.getElem_mem hi, by rw [atI_nat]; simp [hi]⟩
theorem sc__law_atom : FnScope ["tape", "kind", "singles", "sets", "choice", "x", "y"] ["tape", "kind", "singles", "sets"] (defScope d__law_atom) := ⟨rfl, rfl, rfl, by decide +kernel, rfl, by decide +kernel, by decide +kernel⟩
theorem sc__law_matrix : FnScope ["tape", "kind", "singles", "sets", "depth", "choice", "word", "left", "name"] ["tape", "kind", "singles", "sets", "depth"] (defScope d__law_matrix) := ⟨rfl, rfl, rfl, by decide +kernel, rfl, by decide +kernel, by decide +kernel⟩
def GAtom : CG := fun ss ω q => ∃ (j : Nat) (c : Cell) (ways : Int) (labels xs Xs : List Str), ss = [.pin j, .d (kindD ways labels), .d (.lst (xs.map .str)), .d (.lst (Xs.map .str))] ∧ ω[j]? = some c ∧ Tp c ∧ KdOk ways labels ∧ NamesOk xs ∧ NamesOk Xs ∧ ∀ (a : At) c', a.In ways labels xs Xs → Tp c' → q (.d (Fo.at_ a).d) (ω.set j c')
def GMatrix (n : Nat) : CG := fun ss ω q => ∃ (j : Nat) (c : Cell) (ways : Int) (labels xs Xs : List Str) (m : Nat), ss = [.pin j, .d (kindD ways labels), .d (.lst (xs.map .str)), .d (.lst (Xs.map .str)), .d (.int (m : Nat))] ∧ m < n ∧ xs.length + m ≤ 90 ∧ ω[j]? = some c ∧ Tp c ∧ KdOk ways labels ∧ NamesOk xs ∧ NamesOk Xs ∧ ∀ (f : Fo) c', f.In ways labels xs Xs → f.dep ≤ m + 1 → Tp c' → q (.d f.d) (ω.set j c')
section
variable {P : Program} {w : World} {K : PySem.W.Frag} {mg : Str → Option Value} {base : Heap}
theorem ok_atom {k : Nat} (bu : Bu mg) (c__law_take : Cal P w K mg base CX0 k "_law_take" ["tape", "many"] (spG K GTake)) (Dn : Dfn K mg "_law_atom" ["tape", "kind", "singles", "sets"] d__law_atom) : Cal P w K mg base CX0 (k+1) "_law_atom" ["tape", "kind", "singles", "sets"] (spG K GAtom) := by
  refine calG Dn sc__law_atom (fun ss ω q h => ?_) fun f cdv A outer s H E ss ω q hr h => ?_
  · obtain ⟨j, c, ways, labels, xs, Xs, rfl, _⟩ := h
    rfl
  have hu := hu_of hr
  have hu64 := hr.units
  obtain ⟨j, c, ways, labels, xs, Xs, rfl, hj, hc, hk, hx, hX, hq⟩ := h
  have hl := (List.getElem?_eq_some_iff.mp hj).1
  have hs := fun c => @List.getElem?_set_self Cell ω j c hl
  have o1 := hx.clean
  have o2 := hX.clean
  have o3 := ok_nilL
  refine ⟨_, _, (ys_cons (y_set (i := 4) sc__law_atom.nd rfl (y_calG c__law_take hr (ya_cons (y_var 0) (ya_cons y_int ya_nil))))
      (ys_cons (y_ifS (yt_w (yw_and (yt_cmp (op_neY hu64) refO_ne (y_var 3) (y_lstD ya_nil) (nomark _)) (yw_and1 (yt_w (yw_or (yt_cmp op_ltY refO_ord (y_var 4) y_int (nomark _)) (yw_or1 (yt_cmp (op_eqY hu64) refO_eq (y_var 2) (y_lstD ya_nil) (nomark _)))))))) (ys_cons (y_ifS (yt_w (yw_or (yt_cmp (op_eqY hu64) refO_eq (y_var 2) (y_lstD ya_nil) (nomark _)) (yw_or1 (yt_cmp (op_eqY hu64) refO_eq (y_var 4) y_int (nomark _))))) (ys_one (y_ret (y_tup (ya_cons y_str (ya_cons (y_ix hu (y_var 3) (y_calG c__law_take hr (ya_cons (y_var 0) (ya_cons (y_len bu (ya_cons (y_var 3) ya_nil)) ya_nil))) (fun _ _ => rfl)) (ya_cons (y_ix hu (y_var 3) (y_calG c__law_take hr (ya_cons (y_var 0) (ya_cons (y_len bu (ya_cons (y_var 3) ya_nil)) ya_nil))) (fun _ _ => rfl)) ya_nil)))))) ys_nil)
        (ys_one (y_ret (y_tup (ya_cons y_str (ya_cons (y_ix hu (y_var 2) (y_calG c__law_take hr (ya_cons (y_var 0) (ya_cons (y_len bu (ya_cons (y_var 2) ya_nil)) ya_nil))) (fun _ _ => rfl)) (ya_cons (y_ix hu (y_var 3) (y_calG c__law_take hr (ya_cons (y_var 0) (ya_cons (y_len bu (ya_cons (y_var 3) ya_nil)) ya_nil))) (fun _ _ => rfl)) ya_nil))))))) ys_nil)
      (ys_cons (y_ifS (yt_cmp (op_eqY hu64) refO_eq (y_var 2) (y_lstD ya_nil) (nomark _)) (ys_one (y_ret (y_tup (ya_cons y_str ya_nil)))) ys_nil)
      (ys_cons (y_set (i := 5) sc__law_atom.nd rfl (y_ix hu (y_var 2) (y_calG c__law_take hr (ya_cons (y_var 0) (ya_cons (y_len bu (ya_cons (y_var 2) ya_nil)) ya_nil))) (fun _ _ => rfl)))
      (ys_cons (y_set (i := 6) sc__law_atom.nd rfl (y_ix hu (y_var 2) (y_calG c__law_take hr (ya_cons (y_var 0) (ya_cons (y_len bu (ya_cons (y_var 2) ya_nil)) ya_nil))) (fun _ _ => rfl)))
      (ys_cons (y_ifS (yt_cmp op_ltY refO_ord (y_var 4) y_int (nomark _)) (ys_one (y_ret (y_tup (ya_cons y_str (ya_cons (y_ix hu (y_ix hu (y_var 1) y_int (fun _ _ => rfl)) (y_calG c__law_take hr (ya_cons (y_var 0) (ya_cons (y_len bu (ya_cons (y_ix hu (y_var 1) y_int (fun _ _ => rfl)) ya_nil)) ya_nil))) (fun _ _ => rfl)) (ya_cons (y_var 5) ya_nil)))))) ys_nil)
      (ys_cons (y_ifS (yt_cmp (op_eqY hu64) refO_eq (y_var 4) y_int (nomark _)) (ys_one (y_ret (y_tup (ya_cons y_str (ya_cons (y_var 5) ya_nil))))) ys_nil)
      (ys_cons (y_ifS (yt_cmp (op_eqY hu64) refO_eq (y_var 4) y_int (nomark _)) (ys_one (y_ret (y_tup (ya_cons y_str (ya_cons (y_var 5) (ya_cons (y_var 6) ya_nil)))))) ys_nil)
      (ys_one (y_ret (y_if (yt_cmp op_ltY refO_ord (y_var 4) y_int (nomark _)) (y_tup (ya_cons y_str (ya_cons (y_calG c__law_take hr (ya_cons (y_var 0) (ya_cons (y_ix hu (y_var 1) y_int (fun _ _ => rfl)) ya_nil))) (ya_cons (y_var 5) (ya_cons (y_var 6) ya_nil))))) (y_tup (ya_cons y_str (ya_cons (y_var 5) (ya_cons (y_var 6) ya_nil))))))))))))))), ?_⟩
  unfold kindD
  norm_cast
  push_cast []
  refine ⟨j, 12, c, rfl, hj, hc, by omega, by omega, fun z c1 hc1 z0 z1 => ?_⟩
  have e1 : ((xs.map D.str).isEmpty) = xs.isEmpty := by cases xs <;> rfl
  have e2 : ((Xs.map D.str).isEmpty) = Xs.isEmpty := by cases Xs <;> rfl
  refine seq_go fun N hN => ?_
  -- a label, top, same, child, below
  have tail : ∀ ρ, ρ = [some (.pin j), some (.d (.tup [.int ways, .tup (labels.map .str)])), some (.d (.lst (xs.map .str))), some (.d (.lst (Xs.map .str))), some (.d (.int z)), none, none] → N ρ (ω.set j c1) := by
    intro ρ eρ
    subst eρ hN
    by_cases hxe : xs = []
    · have f1 : xs.isEmpty = true := by rw [hxe]; rfl
      push_cast [o1, o3, eqv_nilL, e1, f1]
      exact hq .tru c1 trivial hc1
    have f1 : xs.isEmpty = false := by cases xs with | nil => exact absurd rfl hxe | cons a l => rfl
    have hxl : 0 < xs.length := by cases xs with | nil => exact absurd rfl hxe | cons a l => simp
    have hx1 := hx.1
    push_cast [o1, o3, eqv_nilL, e1, f1]
    refine ⟨j, _, c1, rfl, hs c1, hc1, by omega, by omega, fun z2 c2 hc2 y0 y1 => ?_⟩
    rw [List.set_set]
    obtain ⟨x, mx, ex⟩ := pick y0 y1
    push_cast [ex]
    refine ⟨j, _, c2, rfl, hs c2, hc2, by omega, by omega, fun z3 c3 hc3 y2 y3 => ?_⟩
    rw [List.set_set]
    obtain ⟨y, my, ey⟩ := pick y2 y3
    by_cases h7 : z < 7
    · push_cast [ey]
      obtain ⟨hw, hne, hlen, hlab⟩ := hk
      have hlen0 : labels.length ≠ 0 := by simpa using hne
      refine ⟨j, _, c3, rfl, hs c3, hc3, by omega, by omega, fun z4 c4 hc4 y4 y5 => ?_⟩
      rw [List.set_set]
      obtain ⟨a, ma, ea⟩ := pick y4 y5
      push_cast [ea]
      exact hq (.label a x) c4 ⟨ma, mx⟩ hc4
    by_cases h8 : z = 7
    · push_cast [ey]
      exact hq (.top x) c3 mx hc3
    by_cases h9 : z = 8
    · push_cast [ey]
      exact hq (.same x y) c3 ⟨mx, my⟩ hc3
    by_cases h10 : z < 11
    · push_cast [ey]
      have hw := hk.1
      refine ⟨j, _, c3, rfl, hs c3, hc3, by omega, by omega, fun z4 c4 hc4 y4 y5 => ?_⟩
      rw [List.set_set]
      push_cast []
      exact hq (.child z4 x y) c4 ⟨y4, y5, mx, my⟩ hc4
    · push_cast [ey]
      exact hq (.below x y) c3 ⟨mx, my⟩ hc3
  by_cases hXe : Xs = []
  · have f2 : Xs.isEmpty = true := by rw [hXe]; rfl
    push_cast [o2, o3, eqv_nilL, e2, f2]
    exact tail _ rfl
  have f2 : Xs.isEmpty = false := by cases Xs with | nil => exact absurd rfl hXe | cons a l => rfl
  have hXl : 0 < Xs.length := by cases Xs with | nil => exact absurd rfl hXe | cons a l => simp
  have hX1 := hX.1
  have two : xs.isEmpty = true ∨ z = 0 ∨ ¬ z = 0 ∧ xs.isEmpty = false ∧ 0 < xs.length := by
    cases xs with
    | nil => exact .inl rfl
    | cons a l =>
      by_cases h : z = 0
      · exact .inr (.inl h)
      · exact .inr (.inr ⟨h, rfl, by simp⟩)
  by_cases h4 : z < 4 ∨ xs.isEmpty = true
  · rcases two with f1 | h0 | ⟨h0, f1, hxl⟩
    · by_cases h4 : z < 4
      all_goals
        push_cast [o1, o2, o3, eqv_nilL, e1, e2, f1, f2]
        refine ⟨j, _, c1, rfl, hs c1, hc1, by omega, by omega, fun z2 c2 hc2 y0 y1 => ?_⟩
        rw [List.set_set]
        obtain ⟨x, mx, ex⟩ := pick y0 y1
        push_cast [ex]
        refine ⟨j, _, c2, rfl, hs c2, hc2, by omega, by omega, fun z3 c3 hc3 y2 y3 => ?_⟩
        rw [List.set_set]
        obtain ⟨y, my, ey⟩ := pick y2 y3
        push_cast [ey]
        exact hq (.inside x y) c3 ⟨mx, my⟩ hc3
    · have h4 : z < 4 := by omega
      cases f1 : xs.isEmpty
      all_goals
        push_cast [o1, o2, o3, eqv_nilL, e1, e2, f1, f2]
        refine ⟨j, _, c1, rfl, hs c1, hc1, by omega, by omega, fun z2 c2 hc2 y0 y1 => ?_⟩
        rw [List.set_set]
        obtain ⟨x, mx, ex⟩ := pick y0 y1
        push_cast [ex]
        refine ⟨j, _, c2, rfl, hs c2, hc2, by omega, by omega, fun z3 c3 hc3 y2 y3 => ?_⟩
        rw [List.set_set]
        obtain ⟨y, my, ey⟩ := pick y2 y3
        push_cast [ey]
        exact hq (.inside x y) c3 ⟨mx, my⟩ hc3
    · have h4 : z < 4 := by
        rcases h4 with h | h
        · exact h
        · rw [f1] at h; cases h
      have hx1 := hx.1
      push_cast [o1, o2, o3, eqv_nilL, e1, e2, f1, f2]
      refine ⟨j, _, c1, rfl, hs c1, hc1, by omega, by omega, fun z2 c2 hc2 y0 y1 => ?_⟩
      rw [List.set_set]
      obtain ⟨x, mx, ex⟩ := pick y0 y1
      push_cast [ex]
      refine ⟨j, _, c2, rfl, hs c2, hc2, by omega, by omega, fun z3 c3 hc3 y2 y3 => ?_⟩
      rw [List.set_set]
      obtain ⟨y, my, ey⟩ := pick y2 y3
      push_cast [ey]
      exact hq (.isin x y) c3 ⟨mx, my⟩ hc3
  · have f1 : xs.isEmpty = false := by
      cases f : xs.isEmpty
      · rfl
      · exact absurd (.inr f) h4
    have h5 : ¬ z < 4 := fun h => h4 (.inl h)
    push_cast [o1, o2, o3, eqv_nilL, e1, e2, f1, f2]
    exact tail _ rfl
theorem ok_matrix0 {k n : Nat} (c__law_take : Cal P w K mg base CX0 k "_law_take" ["tape", "many"] (spG K GTake)) (c__law_atom : Cal P w K mg base CX0 k "_law_atom" ["tape", "kind", "singles", "sets"] (spG K GAtom)) (c__law_matrix : Cal P w K mg base CX0 k "_law_matrix" ["tape", "kind", "singles", "sets", "depth"] (spG K (GMatrix n))) (Dn : Dfn K mg "_law_matrix" ["tape", "kind", "singles", "sets", "depth"] d__law_matrix) : Cal P w K mg base CX0 (k+1) "_law_matrix" ["tape", "kind", "singles", "sets", "depth"] (spG K (GMatrix (n + 1))) := by
  refine calG Dn sc__law_matrix (fun ss ω q h => ?_) fun f cdv A outer s H E ss ω q hr h => ?_
  · obtain ⟨j, c, ways, labels, xs, Xs, m, rfl, _⟩ := h
    rfl
  have hu := hu_of hr
  have hu64 := hr.units
  obtain ⟨j, c, ways, labels, xs, Xs, m, rfl, hm, hxm, hj, hc, hk, hx, hX, hq⟩ := h
  have hl := (List.getElem?_eq_some_iff.mp hj).1
  have hs := fun c => @List.getElem?_set_self Cell ω j c hl
  refine ⟨_, _, (ys_cons (y_set (i := 5) sc__law_matrix.nd rfl (y_if (yt_cmp op_gtY refO_ord (y_var 4) y_int (nomark _)) (y_calG c__law_take hr (ya_cons (y_var 0) (ya_cons y_int ya_nil))) y_int))
      (ys_cons (y_ifS (yt_cmp op_ltY refO_ord (y_var 5) y_int (nomark _)) (ys_one (y_ret (y_calG c__law_atom hr (ya_cons (y_var 0) (ya_cons (y_var 1) (ya_cons (y_var 2) (ya_cons (y_var 3) ya_nil))))))) ys_nil)
      (ys_cons (y_ifS (yt_cmp (op_eqY hu64) refO_eq (y_var 5) y_int (nomark _)) (ys_one (y_ret (y_tup (ya_cons y_str (ya_cons (y_calG c__law_matrix hr (ya_cons (y_var 0) (ya_cons (y_var 1) (ya_cons (y_var 2) (ya_cons (y_var 3) (ya_cons (y_sub (y_var 4) y_int) ya_nil)))))) ya_nil))))) ys_nil)
      (ys_cons (y_ifS (yt_cmp op_ltY refO_ord (y_var 5) y_int (nomark _)) (ys_cons (y_set (i := 6) sc__law_matrix.nd rfl (y_ix hu (y_lstD (ya_cons y_str (ya_cons y_str ya_nil))) (y_calG c__law_take hr (ya_cons (y_var 0) (ya_cons y_int ya_nil))) (fun _ _ => rfl)))
        (ys_cons (y_set (i := 7) sc__law_matrix.nd rfl (y_calG c__law_matrix hr (ya_cons (y_var 0) (ya_cons (y_var 1) (ya_cons (y_var 2) (ya_cons (y_var 3) (ya_cons (y_sub (y_var 4) y_int) ya_nil)))))))
        (ys_one (y_ret (y_tup (ya_cons (y_var 6) (ya_cons (y_var 7) (ya_cons (y_calG c__law_matrix hr (ya_cons (y_var 0) (ya_cons (y_var 1) (ya_cons (y_var 2) (ya_cons (y_var 3) (ya_cons (y_sub (y_var 4) y_int) ya_nil)))))) ya_nil)))))))) ys_nil)
      (ys_cons (y_set (i := 6) sc__law_matrix.nd rfl (y_ix hu (y_lstD (ya_cons y_str (ya_cons y_str ya_nil))) (y_calG c__law_take hr (ya_cons (y_var 0) (ya_cons y_int ya_nil))) (fun _ _ => rfl)))
      (ys_cons (y_set (i := 8) sc__law_matrix.nd rfl (y_ix hu (y_lstD (ya_cons y_str (ya_cons y_str (ya_cons y_str ya_nil)))) (y_calG c__law_take hr (ya_cons (y_var 0) (ya_cons y_int ya_nil))) (fun _ _ => rfl)))
      (ys_one (y_ret (y_tup (ya_cons (y_var 6) (ya_cons (y_var 8) (ya_cons (y_calG c__law_matrix hr (ya_cons (y_var 0) (ya_cons (y_var 1) (ya_cons (y_add (y_var 2) (y_lstD (ya_cons (y_var 8) ya_nil))) (ya_cons (y_var 3) (ya_cons (y_sub (y_var 4) y_int) ya_nil)))))) ya_nil)))))))))))), ?_⟩
  cases m with
  | zero =>
    norm_cast
    push_cast []
    refine ⟨j, c, ways, labels, xs, Xs, rfl, hj, hc, hk, hx, hX, fun a c1 ha hc1 => ?_⟩
    push_cast []
    exact hq (.at_ a) c1 ha (by show 1 ≤ 0 + 1; omega) hc1
  | succ m =>
    have em : ((m + 1 : Nat) : Int) - 1 = (m : Nat) := by omega
    norm_cast
    push_cast []
    refine ⟨j, 8, c, rfl, hj, hc, by omega, by omega, fun z c1 hc1 z0 z1 => ?_⟩
    by_cases h3 : z < 3
    · push_cast []
      refine ⟨j, c1, ways, labels, xs, Xs, rfl, hs c1, hc1, hk, hx, hX, fun a c2 ha hc2 => ?_⟩
      rw [List.set_set]
      push_cast []
      exact hq (.at_ a) c2 ha (by show 1 ≤ _; omega) hc2
    by_cases h4 : z = 3
    · push_cast []
      refine ⟨j, c1, ways, labels, xs, Xs, m, by rw [em], by omega, by omega, hs c1, hc1, hk, hx, hX, fun f c2 hf hd hc2 => ?_⟩
      rw [List.set_set]
      push_cast []
      exact hq (.not f) c2 hf (by rw [Fo.dep]; omega) hc2
    by_cases h7 : z < 7
    · push_cast []
      refine ⟨j, 2, c1, rfl, hs c1, hc1, by omega, by omega, fun z2 c2 hc2 y0 y1 => ?_⟩
      rw [List.set_set]
      have hz2 : z2 = 0 ∨ z2 = 1 := by omega
      rcases hz2 with rfl | rfl
      all_goals
        push_cast []
        refine ⟨j, c2, ways, labels, xs, Xs, m, by rw [em], by omega, by omega, hs c2, hc2, hk, hx, hX, fun f c3 hf hd hc3 => ?_⟩
        rw [List.set_set]
        push_cast []
        refine ⟨j, c3, ways, labels, xs, Xs, m, by rw [em], by omega, by omega, hs c3, hc3, hk, hx, hX, fun g c4 hg hd2 hc4 => ?_⟩
        rw [List.set_set]
        push_cast []
        first
          | exact hq (.and f g) c4 ⟨hf, hg⟩ (by rw [Fo.dep]; omega) hc4
          | exact hq (.or f g) c4 ⟨hf, hg⟩ (by rw [Fo.dep]; omega) hc4
    · push_cast []
      refine ⟨j, 2, c1, rfl, hs c1, hc1, by omega, by omega, fun z2 c2 hc2 y0 y1 => ?_⟩
      rw [List.set_set]
      have hz2 : z2 = 0 ∨ z2 = 1 := by omega
      have hx' : ∀ x ∈ smalls, NamesOk (xs ++ [x]) := fun x hxs => ⟨by rw [List.length_append, List.length_singleton]; omega, fun y hy => by
        rcases List.mem_append.mp hy with hy | hy
        · exact hx.2 y hy
        · rw [List.mem_singleton.mp hy]
          exact small_ok hxs⟩
      rcases hz2 with rfl | rfl
      all_goals
        push_cast []
        refine ⟨j, 3, c2, rfl, hs c2, hc2, by omega, by omega, fun z3 c3 hc3 y2 y3 => ?_⟩
        rw [List.set_set]
        have hz3 : z3 = 0 ∨ z3 = 1 ∨ z3 = 2 := by omega
        rcases hz3 with rfl | rfl | rfl
        all_goals
          push_cast []
          refine ⟨j, c3, ways, labels, xs ++ [_], Xs, m, by rw [em, List.map_append]; rfl, by omega, by rw [List.length_append, List.length_singleton]; omega, hs c3, hc3, hk, hx' _ (by simp [smalls]), hX, fun f c4 hf hd hc4 => ?_⟩
          rw [List.set_set]
          push_cast []
          first
            | exact hq (.qu .some _ f) c4 ⟨by simp [smalls], hf⟩ (by rw [Fo.dep]; omega) hc4
            | exact hq (.qu .all _ f) c4 ⟨by simp [smalls], hf⟩ (by rw [Fo.dep]; omega) hc4
theorem ok_matrix {k : Nat} (c__law_take : Cal P w K mg base CX0 k "_law_take" ["tape", "many"] (spG K GTake)) (c__law_atom : Cal P w K mg base CX0 k "_law_atom" ["tape", "kind", "singles", "sets"] (spG K GAtom)) (Dn : Dfn K mg "_law_matrix" ["tape", "kind", "singles", "sets", "depth"] d__law_matrix) : ∀ n, Cal P w K mg base CX0 (k+n) "_law_matrix" ["tape", "kind", "singles", "sets", "depth"] (spG K (GMatrix n))
  | 0 => cal_noG Dn fun ss ω q ⟨j, c, ways, labels, xs, Xs, m, _, h, _⟩ => by omega
  | n + 1 => ok_matrix0 (c__law_take.mono (Nat.le_add_right k n)) (c__law_atom.mono (Nat.le_add_right k n)) (ok_matrix c__law_take c__law_atom Dn n) Dn
end
end Y


set_option Elab.async false
set_option linter.all false
set_option maxRecDepth 100000
set_option maxHeartbeats 2000000
namespace Y
open PySem PySem.Spec PyProof.Rows L2 StX
local macro_rules | `(tactic| push_cast [$xs,*]) => `(tactic| repeat (first | (with_reducible first | refine g_c ?_ | (refine g_v ?_; first | refine g_var0 ?_ | refine g_var1 ?_ | refine g_var2 ?_ | refine g_var3 ?_ | refine g_var4 ?_ | refine g_var5 ?_ | refine g_var6 ?_ | refine g_var7 ?_ | refine g_var8 ?_ | refine g_var9 ?_ | refine g_var10 ?_ | refine g_var11 ?_ | refine g_var12 ?_ | refine g_var13 ?_ | refine g_var14 ?_ | refine g_var15 ?_)) | ((with_reducible refine lf_go fun Q hQ => ?_); simp only [seqD, revSeqD, spreadS, truD, slD, tyOk, appD, popD, extD, itemsOf, negD, putD, putC, sizeC, ty_non, ty_bl, ty_int, ty_str, ty_tup, ty_ktup, ty_lst, ty_pin, kitS, intO, addD, subD, mulD, modD, fdivD, shlD, shrD, bandD, borD, eq_ii, eq_ss, eq_bb, eq_tt, eq_ll, eq_tk, ordD, ltD, leD, gtD, geD, in_tup, in_ktup, in_lst, in_str, in_pin, inSq_str, inSq_int, isND, isNon, isBD, ix_tup, ix_ktup, ix_lst, ix_str, ix_pin, lookC, keyOf, keysOf, valS_nil, valS_cons, putS_nil, putS_cons, mergeS, kgetD, kixD, revD, wipeD, allD, len_tup, len_ktup, len_lst, len_str, len_pin, intD, absD, sumD, boolsD, tupD, listD, listP, dictC, lstOf, sqOf, allB, allI, allDk, ofString_inj, atI_0, atI_1, atI_2, atI_3, atI_1m1, atI_2m1, atI_2m2, atI_3m1, atI_3m2, atI_4m1, atI_4m2, cut_1, cut_2, cut_to1, cut_to2, cut_none, allD_map, List.map_cons, List.map_nil, List.length_cons, List.length_nil, List.length_append, List.length_map, List.length_set, List.replicate, List.nil_append, List.cons_append, List.append_nil, List.append_assoc, List.getElem?_cons_zero, List.getElem?_cons_succ, List.getElem?_nil, List.set_cons_zero, List.set_cons_succ, List.find?_cons, List.find?_nil, List.any_cons, List.any_nil, List.foldl_cons, List.foldl_nil, List.isEmpty_cons, List.isEmpty_nil, List.dropLast_concat, get_new, get_new1, get_new2, get_new3, set_new, set_new1, set_new2, set_new3, Option.map_some, Option.map_none, Option.isSome_some, Option.isSome_none, Option.some.injEq, Sum.inr.injEq, Sum.inl.injEq, reduceCtorEq, if_true, if_false, ite_true, ite_false, Bool.false_eq_true, Bool.not_true, Bool.not_false, Bool.false_xor, Bool.true_xor, Bool.xor_false, Bool.xor_true, decide_true, decide_false, decide_eq_true_eq, true_and, and_true, false_and, and_false, Bool.or_true, Bool.or_false, Bool.true_or, Bool.false_or, Bool.and_true, Bool.and_false, Bool.true_and, Bool.false_and, not_true_eq_false, not_false_eq_true, Nat.reduceAdd, Nat.reduceSub, Nat.reduceLeDiff, Nat.reduceLT, Nat.reduceEqDiff, Nat.reduceMul, Int.reduceLE, Int.reduceLT, Int.reduceEq, Int.reduceAdd, Int.reduceSub, Int.reduceNeg, Int.reduceMul, Int.reduceToNat, String.reduceEq, String.reduceBEq, reduceIte, Int.cast_ofNat_Int, Nat.zero_add, rng_0, rng_1, rng_2, rng_3, Nat.add_one_sub_one, List.reverse_nil, strsOf_nil, strsOf_cons, strsOf_map, intsOf_nil, intsOf_cons, intsOf_map, List.mem_cons, List.not_mem_nil, or_false, false_or, or_true, true_or, allB_map, allI_map, allB_mapf, allI_mapf, get_newm, allD_app, allD_mapf, isEmpty_snoc, $xs,*]; subst hQ; try dsimp only) | (with_reducible first | refine g_op ?_ | refine g_cons ?_ | refine g_nil ?_ | refine g_test ?_ | refine g_asB ?_ | refine g_true ?_ | refine g_false ?_ | refine g_dec ?_ | refine g_seq ?_ | refine g_un ?_ | refine g_b ?_ | refine g_nt ?_ | refine g_ifS ?_ | refine g_ret ?_ | refine g_next ?_ | (refine g_st ?_; first | refine g_set0 ?_ | refine g_set1 ?_ | refine g_set2 ?_ | refine g_set3 ?_ | refine g_set4 ?_ | refine g_set5 ?_ | refine g_set6 ?_ | refine g_set7 ?_ | refine g_set8 ?_ | refine g_set9 ?_ | refine g_set10 ?_ | refine g_set11 ?_ | refine g_set12 ?_ | refine g_set13 ?_ | refine g_set14 ?_ | refine g_set15 ?_) | (refine g_gn ?_; first | refine g_gn0 ?_ | refine g_gn1 ?_ | refine g_gn2 ?_ | refine g_gn3 ?_ | refine g_gn4 ?_ | refine g_gn5 ?_ | refine g_gn6 ?_ | refine g_gn7 ?_ | refine g_gn8 ?_ | refine g_gn9 ?_ | refine g_gn10 ?_ | refine g_gn11 ?_ | refine g_gn12 ?_ | refine g_gn13 ?_ | refine g_gn14 ?_ | refine g_gn15 ?_) | refine g_lf1 ?_ | refine g_lf2 ?_ | refine g_notTv ?_ | refine g_andT ?_ | refine g_orT ?_ | refine g_notT ?_ | refine g_mt ?_ | refine g_mt0 ?_ | refine g_drop ?_ | refine g_tup ?_ | refine g_lstD ?_ | refine g_lst ?_ | refine g_if ?_ | refine g_call ?_ | refine g_callG ?_ | refine g_callX ?_ | refine g_callGX ?_ | refine g_tru ?_ | refine g_andV ?_ | refine g_orV ?_ | refine g_notV ?_ | refine g_sl ?_ | refine g_noPart ?_ | refine g_part ?_ | refine g_partI ?_ | refine g_chain ?_ | refine g_putS ?_ | refine g_isi ?_ | refine g_star ?_ | refine g_for ?_ | refine g_lc ?_ | refine g_seqI ?_ | refine g_revI ?_ | refine g_rng1 ?_ | refine g_rng2 ?_ | refine g_gNil ?_ | refine g_gCons ?_ | refine g_gTup2 ?_ | refine g_gTup3 ?_ | refine g_gTup4 ?_ | refine g_yes ?_ | refine g_retN ?_ | refine g_break ?_ | refine g_cont ?_ | refine g_finD ?_ | refine g_finD2 ?_ | refine g_finP ?_ | refine g_lcB ?_ | refine g_lcNil ?_ | refine g_lcCons ?_ | refine g_forNil ?_ | refine g_forCons ?_ | refine g_rtP ?_ | refine g_rtPin ?_ | refine g_disp ?_ | refine g_pairs0 ?_ | refine g_pairsS ?_ | refine g_pairsI ?_ | refine g_newK ?_ | refine g_newT ?_ | refine g_loc rfl ?_) | ((with_reducible refine g_pos ?_ ?_); · first | assumption | rfl | omega) | ((with_reducible refine g_neg ?_ ?_); · first | assumption | omega | decide) | ((with_reducible refine And.intro ?_ ?_); · first | trivial | assumption | omega | exact Or.inr (by decide) | (dsimp only; omega) | (simp; done))))
local macro_rules | `(tactic| norm_cast) => `(tactic| ((first | with_reducible refine g_endsG ?_ | with_reducible refine g_endsP ?_); simp only [start_eq, List.map_cons, List.map_nil, List.replicate, List.length_cons, List.length_nil, Nat.reduceAdd, Nat.reduceSub, Nat.zero_add, List.cons_append, List.nil_append]))
/-! ### the plain meaning -/
def Sh.lab : Sh → Str
  | .e => ""
  | .w a _ => a
  | .t a _ _ => a
def Sh.labAt (s : Sh) (p : List Int) : Str := match s.at_ p with | some u => u.lab | none => ""
abbrev EnvE := Str → List Int
abbrev EnvS := Str → List (List Int)
def evA (s : Sh) (e : EnvE) (E : EnvS) : At → Bool
  | .tru => true
  | .label a x => decide (s.labAt (e x) = a)
  | .child k x y => decide (e y = e x ++ [k])
  | .below x y => decide ((e x).length < (e y).length ∧ (e y).take (e x).length = e x)
  | .same x y => decide (e x = e y)
  | .top x => decide (e x = [])
  | .isin x X => decide (e x ∈ E X)
  | .inside X Y => decide (∀ p ∈ E X, p ∈ E Y)
def subs (ps : List (List Int)) : List (List (List Int)) := ps.foldl (fun acc p => acc ++ acc.map (· ++ [p])) [[]]
def upd1 {β : Type} (e : Str → β) (x : Str) (v : β) : Str → β := fun y => if y = x then v else e y
def ev (s : Sh) : EnvE → EnvS → Fo → Bool
  | e, E, .at_ a => evA s e E a
  | e, E, .not f => !ev s e E f
  | e, E, .and f g => ev s e E f && ev s e E g
  | e, E, .or f g => ev s e E f || ev s e E g
  | e, E, .qu .some x f => (s.paths []).any fun p => ev s (upd1 e x p) E f
  | e, E, .qu .all x f => (s.paths []).all fun p => ev s (upd1 e x p) E f
  | e, E, .qu .someset x f => (subs (s.paths [])).any fun p => ev s e (upd1 E x p) f
  | e, E, .qu .allset x f => (subs (s.paths [])).all fun p => ev s e (upd1 E x p) f
/-- the elements are there -/
theorem Sh.at_paths : ∀ (s : Sh) (q p : List Int), p ∈ s.paths q → ∃ r t, p = q ++ r ∧ s.at_ r = some t ∧ t ≠ .e
  | .e, q, p, h => by simp [Sh.paths] at h
  | .w a c, q, p, h => by
    rw [Sh.paths, List.mem_cons] at h
    rcases h with rfl | h
    · exact ⟨[], .w a c, by simp, rfl, by simp⟩
    · obtain ⟨r, t, rfl, h2, h3⟩ := c.at_paths _ p h
      exact ⟨0 :: r, t, by simp, by rw [Sh.at_, if_pos rfl, h2], h3⟩
  | .t a u v, q, p, h => by
    rw [Sh.paths, List.mem_cons, List.mem_append] at h
    rcases h with rfl | h | h
    · exact ⟨[], .t a u v, by simp, rfl, by simp⟩
    · obtain ⟨r, t, rfl, h2, h3⟩ := u.at_paths _ p h
      exact ⟨0 :: r, t, by simp, by rw [Sh.at_, if_pos rfl, h2], h3⟩
    · obtain ⟨r, t, rfl, h2, h3⟩ := v.at_paths _ p h
      exact ⟨1 :: r, t, by simp, by rw [Sh.at_, if_neg (by decide), if_pos rfl, h2], h3⟩
theorem Sh.paths_short : ∀ (s : Sh) (q p : List Int), p ∈ s.paths q → p.length < q.length + s.size
  | .e, q, p, h => by simp [Sh.paths] at h
  | .w a c, q, p, h => by
    rw [Sh.paths, List.mem_cons] at h
    rw [Sh.size]
    rcases h with rfl | h
    · omega
    · have := c.paths_short _ p h
      rw [List.length_append, List.length_singleton] at this
      omega
  | .t a u v, q, p, h => by
    rw [Sh.paths, List.mem_cons, List.mem_append] at h
    rw [Sh.size]
    rcases h with rfl | h | h
    · omega
    · have := u.paths_short _ p h
      rw [List.length_append, List.length_singleton] at this
      omega
    · have := v.paths_short _ p h
      rw [List.length_append, List.length_singleton] at this
      omega
theorem subs_len : ∀ (ps : List (List Int)) (acc : List (List (List Int))), (ps.foldl (fun acc p => acc ++ acc.map (· ++ [p])) acc).length = 2 ^ ps.length * acc.length
  | [], acc => by simp
  | p :: ps, acc => by
    rw [List.foldl_cons, subs_len ps, List.length_append, List.length_map, List.length_cons, Nat.pow_succ, ← Nat.two_mul, Nat.mul_assoc]
theorem subs_sub : ∀ (ps : List (List Int)) (acc : List (List (List Int))) (U : List (List Int)), (∀ s ∈ acc, ∀ p ∈ s, p ∈ U) → (∀ s ∈ acc, s.length + ps.length ≤ 1000) → (∀ p ∈ ps, p ∈ U) → ∀ s ∈ ps.foldl (fun acc p => acc ++ acc.map (· ++ [p])) acc, (∀ p ∈ s, p ∈ U) ∧ s.length ≤ 1000
  | [], acc, U, h1, h2, h3, s, hs => ⟨h1 s hs, by have := h2 s hs; simpa using this⟩
  | p :: ps, acc, U, h1, h2, h3, s, hs => by
    rw [List.foldl_cons] at hs
    refine subs_sub ps _ U (fun t ht u hu => ?_) (fun t ht => ?_) (fun u hu => h3 u (by simp [hu])) s hs
    · rcases List.mem_append.mp ht with ht | ht
      · exact h1 t ht u hu
      · obtain ⟨t', ht', rfl⟩ := List.mem_map.mp ht
        rcases List.mem_append.mp hu with hu | hu
        · exact h1 t' ht' u hu
        · rw [List.mem_singleton.mp hu]
          exact h3 p (by simp)
    · rcases List.mem_append.mp ht with ht | ht
      · have := h2 t ht
        rw [List.length_cons] at this
        omega
      · obtain ⟨t', ht', rfl⟩ := List.mem_map.mp ht
        have := h2 t' ht'
        rw [List.length_cons] at this
        rw [List.length_append, List.length_singleton]
        omega
def setD (ps : List (List Int)) : D := .tup (ps.map pathD)
theorem set_clean (ps : List (List Int)) : okD (setD ps) := okD_of (n := 3) (by
  unfold setD
  rw [cleanD]
  exact cleanDs_of fun d hd => by obtain ⟨p, _, rfl⟩ := List.mem_map.mp hd; exact path_clean p 0) (by omega)
theorem list_clean (ps : List (List Int)) : okD (.lst (ps.map pathD)) := okD_of (n := 3) (by
  rw [cleanD]
  exact cleanDs_of fun d hd => by obtain ⟨p, _, rfl⟩ := List.mem_map.mp hd; exact path_clean p 0) (by omega)
theorem memP_paths {p : List Int} {ps : List (List Int)} : memP (pathD p) (ps.map pathD) = decide (p ∈ ps) := by
  induction ps with
  | nil => rfl
  | cons b ps ih =>
    unfold memP at ih ⊢
    rw [List.map_cons, toPs, List.any_cons, ih]
    unfold pathD
    rw [eqv_path]
    by_cases h1 : b = p
    · subst h1; simp
    · by_cases h2 : p ∈ ps
      · simp [h2]
      · have : ¬ p = b := fun z => h1 z.symm
        simp [h1, h2, this]
theorem in_paths {neg : Bool} {p : List Int} {ps : List (List Int)} {ω : Sto} {q : S → Sto → Prop} : inSq neg (.tup (p.map .int)) (ps.map pathD) ω q = q (.d (.bl (neg ^^ decide (p ∈ ps)))) ω := by
  rw [inSq_deep rfl (okD_path p) (set_clean ps), ← memP_paths]
  rfl
theorem in_paths2 {neg : Bool} {p : List Int} {ps : List (List Int)} {ω : Sto} {q : S → Sto → Prop} : inSq neg (pathD p) (ps.map pathD) ω q = q (.d (.bl (neg ^^ decide (p ∈ ps)))) ω := in_paths
/-- what the dict of the values holds -/
structure ValOk (s : Sh) (kvs : List (Key × S)) (xs Xs : List Str) (e : EnvE) (E : EnvS) : Prop where
  sm : ∀ x ∈ xs, valS kvs (.inr x) = some (.d (pathD (e x))) ∧ e x ∈ s.paths []
  cp : ∀ X ∈ Xs, valS kvs (.inr X) = some (.d (setD (E X))) ∧ (E X).length ≤ 1000
  nx : ∀ x ∈ xs, x ∈ smalls
  nX : ∀ X ∈ Xs, X ∈ capitals
theorem valS_put {κ : Type} [DecidableEq κ] {kvs : List (κ × S)} {k k' : κ} {v : S} : valS (putS kvs k v) k' = if k = k' then some v else valS kvs k' := by
  induction kvs with
  | nil => rw [putS_nil, valS_cons]
  | cons a r ih =>
    obtain ⟨a1, a2⟩ := a
    rw [putS_cons]
    by_cases e : a1 = k
    · subst e
      rw [if_pos rfl, valS_cons, valS_cons]
      by_cases e2 : a1 = k'
      · rw [if_pos e2, if_pos e2]
      · rw [if_neg e2, if_neg e2, if_neg e2]
        clear ih
        unfold valS
        congr 1
        rw [List.find?_map]
        have : ((fun kv : κ × S => decide (kv.1 = k')) ∘ fun kv : κ × S => if kv.1 = a1 then (kv.1, v) else kv) = fun kv => decide (kv.1 = k') := by
          funext kv
          by_cases h : kv.1 = a1 <;> simp [h]
        rw [this]
        cases h : r.find? fun kv => decide (kv.1 = k') with
        | none => rfl
        | some kv =>
          have := List.find?_some h
          have h3 : kv.1 = k' := by simpa using this
          simp only [Option.map_some]
          rw [if_neg (fun z => e2 (z.symm.trans h3))]
    · rw [if_neg e, valS_cons, valS_cons, ih]
      by_cases e2 : a1 = k'
      · rw [if_pos e2, if_neg (fun z => e (e2.trans z.symm)), if_pos e2]
      · rw [if_neg e2, if_neg e2]
theorem putS_len {κ : Type} [DecidableEq κ] {kvs : List (κ × S)} {k : κ} {v : S} : (putS kvs k v).length ≤ kvs.length + 1 := by
  unfold putS
  split
  · rw [List.length_map]; omega
  · rw [List.length_append]; simp
theorem sc_ne {x X : Str} (h1 : x ∈ smalls) (h2 : X ∈ capitals) : x ≠ X := by
  have : ∀ x ∈ smalls, ∀ X ∈ capitals, x ≠ X := by decide +kernel
  exact this x h1 X h2
theorem ValOk.put1 {s : Sh} {kvs : List (Key × S)} {xs Xs : List Str} {e : EnvE} {E : EnvS} (h : ValOk s kvs xs Xs e E) {x : Str} {p : List Int} (hx : x ∈ smalls) (hp : p ∈ s.paths []) : ValOk s (putS kvs (.inr x) (.d (pathD p))) (xs ++ [x]) Xs (upd1 e x p) E where
  sm := fun y hy => by
    rw [valS_put]
    unfold upd1
    by_cases e1 : y = x
    · subst e1
      rw [if_pos rfl, if_pos rfl]
      exact ⟨rfl, hp⟩
    · rw [if_neg e1, if_neg (fun z => e1 (Sum.inr.inj z).symm)]
      refine h.sm y ?_
      rcases List.mem_append.mp hy with hy | hy
      · exact hy
      · exact absurd (List.mem_singleton.mp hy) e1
  cp := fun X hX => by
    rw [valS_put, if_neg (fun z => sc_ne hx (h.nX X hX) (Sum.inr.inj z))]
    exact h.cp X hX
  nx := fun y hy => by
    rcases List.mem_append.mp hy with hy | hy
    · exact h.nx y hy
    · rw [List.mem_singleton.mp hy]; exact hx
  nX := h.nX
theorem ValOk.put2 {s : Sh} {kvs : List (Key × S)} {xs Xs : List Str} {e : EnvE} {E : EnvS} (h : ValOk s kvs xs Xs e E) {x : Str} {p : List (List Int)} (hx : x ∈ capitals) (hp : p.length ≤ 1000) : ValOk s (putS kvs (.inr x) (.d (setD p))) xs (Xs ++ [x]) e (upd1 E x p) where
  sm := fun y hy => by
    rw [valS_put, if_neg (fun z => sc_ne (h.nx y hy) hx (Sum.inr.inj z).symm)]
    exact h.sm y hy
  cp := fun y hy => by
    rw [valS_put]
    unfold upd1
    by_cases e1 : y = x
    · subst e1
      rw [if_pos rfl, if_pos rfl]
      exact ⟨rfl, hp⟩
    · rw [if_neg e1, if_neg (fun z => e1 (Sum.inr.inj z).symm)]
      refine h.cp y ?_
      rcases List.mem_append.mp hy with hy | hy
      · exact hy
      · exact absurd (List.mem_singleton.mp hy) e1
  nx := h.nx
  nX := fun y hy => by
    rcases List.mem_append.mp hy with hy | hy
    · exact h.nX y hy
    · rw [List.mem_singleton.mp hy]; exact hx
def dropNot {β : Type} [DecidableEq β] (a b : List β) : List β := a.filter fun x => decide (x ∉ b)
theorem sc__law_subsets : FnScope ["every", "found", "path", "one"] ["every"] (defScope d__law_subsets) := ⟨rfl, rfl, rfl, by decide +kernel, rfl, by decide +kernel, by decide +kernel⟩
theorem sc__law_atom_holds : FnScope ["formula", "shape", "values", "word", "one", "two", "path"] ["formula", "shape", "values"] (defScope d__law_atom_holds) := ⟨rfl, rfl, rfl, by decide +kernel, rfl, by decide +kernel, by decide +kernel⟩
theorem sc__law_holds : FnScope ["formula", "shape", "values", "word", "every", "wanted", "value", "more"] ["formula", "shape", "values"] (defScope d__law_holds) := ⟨rfl, rfl, rfl, by decide +kernel, rfl, by decide +kernel, by decide +kernel⟩
def CSubs : CP := fun ds q => ∃ ps : List (List Int), ds = [.lst (ps.map pathD)] ∧ ps.length ≤ 16 ∧ q (.lst ((subs ps).map setD))
def GAtomHolds : CG := fun ss ω q => ∃ (a : At) (s : Sh) (j : Nat) (kvs : List (Key × S)) (ways : Int) (labels xs Xs : List Str) (e : EnvE) (E : EnvS), ss = [.d (Fo.at_ a).d, .d s.d, .pin j] ∧ ω[j]? = some (.dK kvs) ∧ ValOk s kvs xs Xs e E ∧ a.In ways labels xs Xs ∧ s.size ≤ 60 ∧ q (.d (.bl (evA s e E a))) ω
def GHolds (n : Nat) : CG := fun ss ω q => ∃ (f : Fo) (s : Sh) (j : Nat) (kvs : List (Key × S)) (ways : Int) (labels xs Xs : List Str) (e : EnvE) (E : EnvS), ss = [.d f.d, .d s.d, .pin j] ∧ f.dep ≤ n ∧ ω[j]? = some (.dK kvs) ∧ ValOk s kvs xs Xs e E ∧ f.In ways labels xs Xs ∧ s.size ≤ 16 ∧ kvs.length + f.dep ≤ 100 ∧ KdOk ways labels ∧ s.Kd ways labels ∧ ∀ τ, q (.d (.bl (ev s e E f))) (ω ++ τ)
section
variable {P : Program} {w : World} {K : PySem.W.Frag} {mg : Str → Option Value} {base : Heap}
theorem ok_subs {k : Nat} (Dn : Dfn K mg "_law_subsets" ["every"] d__law_subsets) : Cal P w K mg base CX0 (k+1) "_law_subsets" ["every"] (spP K CSubs) := by
  refine calP Dn sc__law_subsets (fun ds q h => ?_) fun f cdv A outer s H E ds q hr h => ?_
  · obtain ⟨ps, rfl, _⟩ := h
    rfl
  have hpass := @PassesOwn.never
  obtain ⟨ps, rfl, hn, hq⟩ := h
  refine ⟨_, _, (ys_cons (y_set (i := 1) sc__law_subsets.nd rfl (y_lstD (ya_cons (y_tup ya_nil) ya_nil)))
      (ys_cons (y_for hpass rfl (yi_seq (y_var 0)) (yg_name (i := 2) sc__law_subsets.nd rfl) (ys_one (y_set (i := 1) sc__law_subsets.nd rfl (y_add (y_var 1) (y_lcD (own := [("one", 3)]) rfl sc__law_subsets.nd (yi_seq (y_var 1)) (blkOk_by (own := [("one", 3)]) (N := ["every", "found", "path", "one"]) (sc := defScope d__law_subsets) (by decide +kernel)) go_name (fun _ _ _ _ _ => (yg_name (i := 3) sc__law_subsets.nd rfl)) (fun _ _ _ _ _ => yts_nil) (fun _ _ _ _ _ => (y_add (y_var 3) (y_tup (ya_cons (y_var 2) ya_nil)))))))))
      (ys_one (y_ret (y_var 1))))), ?_⟩
  norm_cast
  push_cast []
  refine for_ind (fun is ρ ω => ∃ (r : List (List Int)) (acc : List (List (List Int))) (y z : Option S), is = (r.map pathD).map S.d ∧ ρ = [some (.d (.lst (ps.map pathD))), some (.d (.lst (acc.map setD))), y, z] ∧ ω = [] ∧ r.foldl (fun acc p => acc ++ acc.map (· ++ [p])) acc = subs ps ∧ acc.length * 2 ^ r.length ≤ 2 ^ 16 ∧ ∀ u ∈ acc, u.length + r.length ≤ 16)
    ⟨ps, [[]], none, none, rfl, rfl, rfl, rfl, by rw [List.length_singleton, Nat.one_mul]; exact Nat.pow_le_pow_right (by omega) hn, by simpa using hn⟩ ?_ ?_
  · rintro s0 r0 ρ ω nx ⟨r, acc, y, z, e1, rfl, rfl, e2, e3, e4⟩ hnx
    cases r with
    | nil => cases e1
    | cons p r =>
      rw [List.map_cons, List.map_cons] at e1
      obtain ⟨rfl, rfl⟩ := List.cons.inj e1
      have hb : acc.length * 2 ≤ 2 ^ 16 := by
        refine Nat.le_trans ?_ e3
        rw [List.length_cons, Nat.pow_succ, Nat.mul_comm (2 ^ r.length) 2, ← Nat.mul_assoc]
        exact Nat.le_mul_of_pos_right _ (Nat.pow_pos (by omega))
      push_cast []
      refine lc_mapG (ts := acc) setD (fun u => setD (u ++ [p])) (by omega) (fun u hu a kk h1 h2 => ?_) ?_
      · have := e4 u hu
        rw [List.length_cons] at this
        unfold setD at h2 ⊢
        rw [List.map_append] at h2
        push_cast []
        exact h2
      · push_cast []
        refine hnx _ _ trivial ⟨r, acc ++ acc.map (· ++ [p]), _, _, rfl, by rw [List.map_append, List.map_map]; rfl, rfl, e2, ?_, fun u hu => ?_⟩
        · rw [List.length_append, List.length_map, ← Nat.two_mul, Nat.mul_comm 2, Nat.mul_assoc, Nat.mul_comm 2]
          rw [List.length_cons, Nat.pow_succ] at e3
          exact e3
        · rcases List.mem_append.mp hu with hu | hu
          · have := e4 u hu
            rw [List.length_cons] at this
            omega
          · obtain ⟨u', hu', rfl⟩ := List.mem_map.mp hu
            have := e4 u' hu'
            rw [List.length_cons] at this
            rw [List.length_append, List.length_singleton]
            omega
  · rintro ρ ω ⟨r, acc, y, z, e1, rfl, rfl, e2, e3, e4⟩
    cases r with
    | cons i r => cases e1
    | nil =>
      rw [← e2] at hq
      push_cast []
      exact hq
theorem ok_atom_holds {k : Nat} (bu : Bu mg) (c__law_part : Cal P w K mg base CX0 k "_law_part" ["shape", "path"] (spP K CPart)) (Dn : Dfn K mg "_law_atom_holds" ["formula", "shape", "values"] d__law_atom_holds) : Cal P w K mg base CX0 (k+1) "_law_atom_holds" ["formula", "shape", "values"] (spG K GAtomHolds) := by
  refine calG Dn sc__law_atom_holds (fun ss ω q h => ?_) fun f cdv A outer s H E ss ω q hr h => ?_
  · obtain ⟨a, s, j, kvs, ways, labels, xs, Xs, e, E, rfl, _⟩ := h
    rfl
  have hu := hu_of hr
  have hu64 := hr.units
  have hu65 := room65 hr
  obtain ⟨a, s, j, kvs, ways, labels, xs, Xs, e, E, rfl, hj, hv, ha, hz, hq⟩ := h
  refine ⟨_, _, (ys_cons (y_set (i := 3) sc__law_atom_holds.nd rfl (y_ix hu (y_var 0) y_int (fun _ _ => rfl)))
      (ys_cons (y_ifS (yt_cmp (op_eqY hu64) refO_eq (y_var 3) y_str (nomark _)) (ys_one (y_ret y_bl)) ys_nil)
      (ys_cons (y_ifS (yt_cmp (op_eqY hu64) refO_eq (y_var 3) y_str (nomark _)) (ys_one (y_ret (y_cmp (op_eqY hu64) refO_eq (y_ix hu (y_cal c__law_part hr (ya_cons (y_var 1) (ya_cons (y_ix hu (y_var 2) (y_ix hu (y_var 0) y_int (fun _ _ => rfl)) (fun _ _ => rfl)) ya_nil))) y_int (fun _ _ => rfl)) (y_ix hu (y_var 0) y_int (fun _ _ => rfl)) (nomark _)))) ys_nil)
      (ys_cons (y_ifS (yt_cmp (op_eqY hu64) refO_eq (y_var 3) y_str (nomark _)) (ys_one (y_ret (y_cmp (op_eqY hu64) refO_eq (y_ix hu (y_var 2) (y_ix hu (y_var 0) y_int (fun _ _ => rfl)) (fun _ _ => rfl)) (y_tup ya_nil) (nomark _)))) ys_nil)
      (ys_cons (y_set (i := 4) sc__law_atom_holds.nd rfl (y_ix hu (y_var 2) (y_ix hu (y_var 0) (y_neg y_int) (fun _ _ => rfl)) (fun _ _ => rfl)))
      (ys_cons (y_set (i := 5) sc__law_atom_holds.nd rfl (y_ix hu (y_var 2) (y_ix hu (y_var 0) (y_neg y_int) (fun _ _ => rfl)) (fun _ _ => rfl)))
      (ys_cons (y_ifS (yt_cmp (op_eqY hu64) refO_eq (y_var 3) y_str (nomark _)) (ys_one (y_ret (y_cmp (op_eqY hu64) refO_eq (y_var 5) (y_add (y_var 4) (y_tup (ya_cons (y_ix hu (y_var 0) y_int (fun _ _ => rfl)) ya_nil))) (nomark _)))) ys_nil)
      (ys_cons (y_ifS (yt_cmp (op_eqY hu64) refO_eq (y_var 3) y_str (nomark _)) (ys_one (y_ret (y_and (y_cmp op_gtY refO_ord (y_len bu (ya_cons (y_var 5) ya_nil)) (y_len bu (ya_cons (y_var 4) ya_nil)) (nomark _)) (y_one (y_cmp (op_eqY hu64) refO_eq (y_slice (y_var 5) yo_none (yo_some (y_len bu (ya_cons (y_var 4) ya_nil)))) (y_var 4) (nomark _)))))) ys_nil)
      (ys_cons (y_ifS (yt_cmp (op_eqY hu64) refO_eq (y_var 3) y_str (nomark _)) (ys_one (y_ret (y_cmp (op_eqY hu64) refO_eq (y_var 4) (y_var 5) (nomark _)))) ys_nil)
      (ys_cons (y_ifS (yt_cmp (op_eqY hu64) refO_eq (y_var 3) y_str (nomark _)) (ys_one (y_ret (y_cmp (op_inY hu65) refO_in (y_var 4) (y_var 5) (by rfl)))) ys_nil)
      (ys_one (y_ret (y_cmp (op_eqY hu64) refO_eq (y_lcD (own := [("path", 6)]) rfl sc__law_atom_holds.nd (yi_seq (y_var 4)) (blkOk_by (own := [("path", 6)]) (N := ["formula", "shape", "values", "word", "one", "two", "path"]) (sc := defScope d__law_atom_holds) (by decide +kernel)) go_name (fun _ _ _ _ _ => (yg_name (i := 6) sc__law_atom_holds.nd rfl)) (fun _ _ _ _ _ => (yts_one (yt_cmp (op_notInY hu65) refO_in (y_var 6) (y_var 5) (by rfl)))) (fun _ _ _ _ _ => (y_var 6))) (y_lstD ya_nil) (nomark _)))))))))))))), ?_⟩
  have lens : ∀ x ∈ xs, (e x).length ≤ 60 := fun x hx => by
    have := s.paths_short [] _ (hv.sm x hx).2
    rw [List.length_nil] at this
    omega
  rw [At.d_eq]
  norm_cast
  cases a with
  | tru =>
    push_cast [At.hd, keyD]
    exact hq
  | label a x =>
    obtain ⟨v1, v2⟩ := hv.sm x ha.2
    obtain ⟨r, t, e1, e2, e3⟩ := s.at_paths [] _ v2
    rw [List.nil_append] at e1
    rw [← e1] at e2
    have ela : s.labAt (e x) = t.lab := by unfold Sh.labAt; rw [e2]
    rw [evA, ela] at hq
    push_cast [At.hd, keyD, hj, v1]
    refine ⟨s, t, e x, rfl, e2, ?_⟩
    cases t with
    | e => exact absurd rfl e3
    | w b c => push_cast [At.hd, keyD, Sh.d]; exact hq
    | t b c d => push_cast [At.hd, keyD, Sh.d]; exact hq
  | top x =>
    obtain ⟨v1, v2⟩ := hv.sm x ha
    have e1 : ((e x).map D.int).isEmpty = decide (e x = []) := by cases e x <;> simp
    have ok0 : okD (.tup []) := okD_path []
    push_cast [At.hd, keyD, hj, v1, pathD, okD_path, ok0, eqv_nil, e1]
    exact hq
  | child k x y =>
    obtain ⟨v1, v2⟩ := hv.sm x ha.2.2.1
    obtain ⟨v3, v4⟩ := hv.sm y ha.2.2.2
    have l1 := lens x ha.2.2.1
    have e1 : (e x).map D.int ++ [D.int k] = (e x ++ [k]).map D.int := by rw [List.map_append]; rfl
    push_cast [At.hd, keyD, hj, v1, v3, pathD]
    rw [e1]
    refine ⟨⟨okD_path _, okD_path _⟩, ?_⟩
    rw [eqv_path]
    exact hq
  | below x y =>
    obtain ⟨v1, v2⟩ := hv.sm x ha.1
    obtain ⟨v3, v4⟩ := hv.sm y ha.2
    push_cast [At.hd, keyD, hj, v1, v3, pathD]
    rw [evA] at hq
    by_cases hlt : (e x).length < (e y).length
    · push_cast [cut_to, ← List.map_take, okD_path, eqv_path]
      simpa only [hlt, true_and] using hq
    · push_cast []
      simpa only [hlt, false_and, decide_false] using hq
  | same x y =>
    obtain ⟨v1, v2⟩ := hv.sm x ha.1
    obtain ⟨v3, v4⟩ := hv.sm y ha.2
    push_cast [At.hd, keyD, hj, v1, v3, pathD, okD_path, eqv_path]
    exact hq
  | isin x X =>
    obtain ⟨v1, v2⟩ := hv.sm x ha.1
    obtain ⟨v3, v4⟩ := hv.cp X ha.2
    push_cast [At.hd, keyD, hj, v1, v3, pathD, setD, in_paths]
    exact hq
  | inside X Y =>
    obtain ⟨v1, v2⟩ := hv.cp X ha.1
    obtain ⟨v3, v4⟩ := hv.cp Y ha.2
    push_cast [At.hd, keyD, hj, v1, v3, setD, in_paths]
    refine lc_filG (ts := E X) pathD (fun p => if p ∈ E Y then none else some (pathD p)) (by omega) (fun p hp acc kk h1 h2 => ?_) ?_
    · by_cases hpy : p ∈ E Y
      · rw [if_pos hpy] at h2
        push_cast [in_paths2, hpy]
        exact h2
      · rw [if_neg hpy] at h2
        push_cast [in_paths2, hpy]
        exact h2
    · have e1 : (E X).filterMap (fun p => if p ∈ E Y then none else some (pathD p)) = ((E X).filter fun p => decide (p ∉ E Y)).map pathD := by
        rw [← List.filterMap_eq_map, List.filterMap_filter]
        congr 1
        funext p
        by_cases h : p ∈ E Y <;> simp [h]
      rw [e1]
      have e2 : (((E X).filter fun p => decide (p ∉ E Y)).map pathD).isEmpty = decide (∀ p ∈ E X, p ∈ E Y) := by
        rw [List.isEmpty_map, Bool.eq_iff_iff, List.isEmpty_iff, List.filter_eq_nil_iff]
        simp
      have ok0 := ok_nilL
      push_cast [list_clean, ok0, eqv_nilL, e2]
      exact hq
theorem all_any {β : Type} {l : List β} {g : β → Bool} : l.all g = !(l.any fun v => !g v) := by
  induction l with
  | nil => rfl
  | cons a l ih => rw [List.all_cons, List.any_cons, ih]; cases g a <;> simp
def qbody (n : Nat) : TSD := dSeq (dSet 7 (dB dictC (dCons (dVar 2) dNil))) (dSeq (dPutS (dVar 7) (dOp ixD (dVar 0) (dC (.int 1))) (dVar 6)) (dIfS (dTest (dOp (eqD false) (dCallG (GHolds n) (dCons (dOp ixD (dVar 0) (dC (.int 2))) (dCons (dVar 1) (dCons (dVar 7) dNil)))) (dVar 5))) (dRet (dVar 5)) dNext))
theorem qloop {β : Type} {n : Nat} {vals : List β} {vd : β → D} {g : β → Bool} {wanted : Bool} {wd x : Str} {fd sd : D} {j : Nat} {kvs : List (Key × S)} {ω : Sto} {s4 : S} {y6 y7 : Option S} {nx bk ct : Env → Sto → Prop} {rt : S → Sto → Prop} {xd : XD} (hj : ω[j]? = some (.dK kvs)) (hl : kvs.length < 1000000)
    (hcall : ∀ v ∈ vals, ∀ (ω' : Sto) (jj : Nat) (q' : S → Sto → Prop), ω'[jj]? = some (.dK (putS kvs (.inr x) (.d (vd v)))) → (∀ τ, q' (.d (.bl (g v))) (ω' ++ τ)) → GHolds n [.d fd, .d sd, .pin jj] ω' q')
    (hyes : ∀ τ, (vals.any fun v => g v == wanted) = true → rt (.d (.bl wanted)) (ω ++ τ))
    (hno : ∀ τ y6 y7, (vals.any fun v => g v == wanted) = false → nx [some (.d (.tup [.str wd, .str x, fd])), some (.d sd), some (.pin j), some (.d (.str wd)), some s4, some (.d (.bl wanted)), y6, y7] (ω ++ τ)) :
    forR (dgName 6) (qbody n) ⟨nx, rt, bk, ct, xd⟩ (fun _ => True) ((vals.map vd).map .d) [some (.d (.tup [.str wd, .str x, fd])), some (.d sd), some (.pin j), some (.d (.str wd)), some s4, some (.d (.bl wanted)), y6, y7] ω := by
  refine for_ind (fun is ρ ω' => ∃ (r : List β) (τ : Sto) (y6 y7 : Option S), is = (r.map vd).map S.d ∧ ρ = [some (.d (.tup [.str wd, .str x, fd])), some (.d sd), some (.pin j), some (.d (.str wd)), some s4, some (.d (.bl wanted)), y6, y7] ∧ ω' = ω ++ τ ∧ (vals.any fun v => g v == wanted) = (r.any fun v => g v == wanted) ∧ ∀ v ∈ r, v ∈ vals) ⟨vals, [], y6, y7, rfl, rfl, by simp, rfl, fun v h => h⟩ ?_ ?_
  · rintro s0 r0 ρ ω' nx' ⟨r, τ, y6, y7, e1, rfl, rfl, e2, e3⟩ hnx
    cases r with
    | nil => cases e1
    | cons v r =>
      rw [List.map_cons, List.map_cons] at e1
      obtain ⟨rfl, rfl⟩ := List.cons.inj e1
      have hj2 := get_app (m := τ) hj
      have hpl : (putS kvs (.inr x) (.d (vd v))).length ≤ kvs.length + 1 := putS_len
      have hx : (ω ++ (τ ++ [Cell.dK kvs]))[ω.length + τ.length]? = some (.dK kvs) := by
        rw [← List.append_assoc, ← List.length_append]
        exact get_new
      have hx2 : ∀ c, (ω ++ (τ ++ [Cell.dK kvs])).set (ω.length + τ.length) c = ω ++ (τ ++ [c]) := fun c => by
        rw [← List.append_assoc, ← List.length_append, set_new, List.append_assoc]
      have hx3 : ∀ c, (ω ++ (τ ++ [c]))[ω.length + τ.length]? = some c := fun c => by
        rw [← List.append_assoc, ← List.length_append]
        exact get_new
      unfold qbody
      push_cast [hj2, hx, hx2]
      refine hcall v (e3 v (by simp)) _ _ _ (hx3 _) fun τ2 => ?_
      rw [List.any_cons] at e2
      cases hg : g v == wanted with
      | true =>
        have hg2 : g v = wanted := by simpa using hg
        rw [hg, Bool.true_or] at e2
        push_cast [hg2]
        exact hyes _ e2
      | false =>
        have hg2 : ¬ g v = wanted := by simpa using hg
        rw [hg, Bool.false_or] at e2
        push_cast [hg2]
        exact hnx _ _ trivial ⟨r, _, _, _, rfl, rfl, rfl, e2, fun u hu => e3 u (by simp [hu])⟩
  · rintro ρ ω' ⟨r, τ, y6, y7, e1, rfl, rfl, e2, e3⟩
    cases r with
    | cons v r => cases e1
    | nil => exact hno τ y6 y7 (by rw [e2]; rfl)
theorem ok_holds0 {k n : Nat} (bu : Bu mg) (c__law_paths : Cal P w K mg base CX0 k "_law_paths" ["shape", "path"] (spP K (CPaths 61))) (c__law_subsets : Cal P w K mg base CX0 k "_law_subsets" ["every"] (spP K CSubs)) (c__law_atom_holds : Cal P w K mg base CX0 k "_law_atom_holds" ["formula", "shape", "values"] (spG K GAtomHolds)) (c__law_holds : Cal P w K mg base CX0 k "_law_holds" ["formula", "shape", "values"] (spG K (GHolds n))) (Dn : Dfn K mg "_law_holds" ["formula", "shape", "values"] d__law_holds) : Cal P w K mg base CX0 (k+1) "_law_holds" ["formula", "shape", "values"] (spG K (GHolds (n + 1))) := by
  refine calG Dn sc__law_holds (fun ss ω q h => ?_) fun f cdv A outer s H E ss ω q hr h => ?_
  · obtain ⟨a, s, j, kvs, ways, labels, xs, Xs, e, E, rfl, _⟩ := h
    rfl
  have hu := hu_of hr
  have hu64 := hr.units
  have hu65 := room65 hr
  have hpass := @PassesOwn.never
  obtain ⟨f, s, j, kvs, ways, labels, xs, Xs, e, E, rfl, hd, hj, hv, hin, hz, hlen, hkd, hks, hq⟩ := h
  refine ⟨_, _, (ys_cons (y_set (i := 3) sc__law_holds.nd rfl (y_ix hu (y_var 0) y_int (fun _ _ => rfl)))
      (ys_cons (y_ifS (yt_cmp (op_eqY hu64) refO_eq (y_var 3) y_str (nomark _)) (ys_one (y_ret (y_notT (y_calG c__law_holds hr (ya_cons (y_ix hu (y_var 0) y_int (fun _ _ => rfl)) (ya_cons (y_var 1) (ya_cons (y_var 2) ya_nil))))))) ys_nil)
      (ys_cons (y_ifS (yt_cmp (op_eqY hu64) refO_eq (y_var 3) y_str (nomark _)) (ys_one (y_ret (y_and (y_calG c__law_holds hr (ya_cons (y_ix hu (y_var 0) y_int (fun _ _ => rfl)) (ya_cons (y_var 1) (ya_cons (y_var 2) ya_nil)))) (y_one (y_calG c__law_holds hr (ya_cons (y_ix hu (y_var 0) y_int (fun _ _ => rfl)) (ya_cons (y_var 1) (ya_cons (y_var 2) ya_nil)))))))) ys_nil)
      (ys_cons (y_ifS (yt_cmp (op_eqY hu64) refO_eq (y_var 3) y_str (nomark _)) (ys_one (y_ret (y_or (y_calG c__law_holds hr (ya_cons (y_ix hu (y_var 0) y_int (fun _ _ => rfl)) (ya_cons (y_var 1) (ya_cons (y_var 2) ya_nil)))) (y_one (y_calG c__law_holds hr (ya_cons (y_ix hu (y_var 0) y_int (fun _ _ => rfl)) (ya_cons (y_var 1) (ya_cons (y_var 2) ya_nil)))))))) ys_nil)
      (ys_cons (y_ifS (yt_cmp (op_inY hu65) refO_in (y_var 3) (y_lstD (ya_cons y_str (ya_cons y_str (ya_cons y_str (ya_cons y_str ya_nil))))) (by rfl)) (ys_cons (y_set (i := 4) sc__law_holds.nd rfl (y_cal c__law_paths hr (ya_cons (y_var 1) (ya_cons (y_tup ya_nil) ya_nil))))
        (ys_cons (y_ifS (yt_cmp (op_inY hu65) refO_in (y_var 3) (y_lstD (ya_cons y_str (ya_cons y_str ya_nil))) (by rfl)) (ys_one (y_set (i := 4) sc__law_holds.nd rfl (y_cal c__law_subsets hr (ya_cons (y_var 4) ya_nil)))) ys_nil)
        (ys_cons (y_set (i := 5) sc__law_holds.nd rfl (y_cmp (op_inY hu65) refO_in (y_var 3) (y_lstD (ya_cons y_str (ya_cons y_str ya_nil))) (by rfl)))
        (ys_cons (y_for hpass rfl (yi_seq (y_var 4)) (yg_name (i := 6) sc__law_holds.nd rfl) (ys_cons (y_set (i := 7) sc__law_holds.nd rfl (y_dictC bu (ya_cons (y_var 2) ya_nil)))
          (ys_cons (y_dput hu (y_var 7) (y_ix hu (y_var 0) y_int (fun _ _ => rfl)) (y_var 6))
          (ys_one (y_ifS (yt_cmp (op_eqY hu64) refO_eq (y_calG c__law_holds hr (ya_cons (y_ix hu (y_var 0) y_int (fun _ _ => rfl)) (ya_cons (y_var 1) (ya_cons (y_var 7) ya_nil)))) (y_var 5) (nomark _)) (ys_one (y_ret (y_var 5))) ys_nil)))))
        (ys_one (y_ret (y_notT (y_var 5)))))))) ys_nil)
      (ys_one (y_ret (y_calG c__law_atom_holds hr (ya_cons (y_var 0) (ya_cons (y_var 1) (ya_cons (y_var 2) ya_nil))))))))))), ?_⟩
  have hl := (List.getElem?_eq_some_iff.mp hj).1
  cases f with
  | at_ a =>
    have hq0 := hq []
    rw [List.append_nil, ev] at hq0
    have fin : GAtomHolds [.d (Fo.at_ a).d, .d s.d, .pin j] ω q := ⟨a, s, j, kvs, ways, labels, xs, Xs, e, E, rfl, hj, hv, hin, by omega, hq0⟩
    rw [At.d_eq] at fin ⊢
    norm_cast
    cases a <;> push_cast [At.hd, keyD] <;> exact fin
  | not f =>
    rw [Fo.dep] at hd hlen
    rw [Fo.not_d]
    norm_cast
    push_cast []
    refine ⟨f, s, j, kvs, ways, labels, xs, Xs, e, E, rfl, by omega, hj, hv, hin, hz, by omega, hkd, hks, fun τ => ?_⟩
    push_cast []
    exact hq τ
  | and f g =>
    rw [Fo.dep] at hd hlen
    rw [Fo.and_d]
    norm_cast
    push_cast []
    refine ⟨f, s, j, kvs, ways, labels, xs, Xs, e, E, rfl, by omega, hj, hv, hin.1, hz, by omega, hkd, hks, fun τ => ?_⟩
    rw [ev] at hq
    cases hf : ev s e E f with
    | false => rw [hf] at hq; push_cast []; exact hq τ
    | true =>
      rw [hf] at hq
      push_cast []
      refine ⟨g, s, j, kvs, ways, labels, xs, Xs, e, E, rfl, by omega, get_app hj, hv, hin.2, hz, by omega, hkd, hks, fun τ2 => ?_⟩
      rw [List.append_assoc]
      exact hq _
  | or f g =>
    rw [Fo.dep] at hd hlen
    rw [Fo.or_d]
    norm_cast
    push_cast []
    refine ⟨f, s, j, kvs, ways, labels, xs, Xs, e, E, rfl, by omega, hj, hv, hin.1, hz, by omega, hkd, hks, fun τ => ?_⟩
    rw [ev] at hq
    cases hf : ev s e E f with
    | true => rw [hf] at hq; push_cast []; exact hq τ
    | false =>
      rw [hf] at hq
      push_cast []
      refine ⟨g, s, j, kvs, ways, labels, xs, Xs, e, E, rfl, by omega, get_app hj, hv, hin.2, hz, by omega, hkd, hks, fun τ2 => ?_⟩
      rw [List.append_assoc]
      exact hq _
  | qu w x f =>
    rw [Fo.dep] at hd hlen
    rw [Fo.qu_d]
    cases w with
    | some =>
      obtain ⟨hx, hin⟩ := hin
      unfold Qw.word
      norm_cast
      push_cast []
      refine ⟨s, [], ways, labels, rfl, by omega, by omega, by simp; omega, hkd, hks, ?_⟩
      push_cast []
      refine qloop (vals := s.paths []) (vd := pathD) (g := fun p => ev s (upd1 e x p) E f) hj (by omega) (fun p hp ω' jj q' hjj hq' => ⟨f, s, jj, _, ways, labels, _, _, _, _, rfl, by omega, hjj, hv.put1 hx hp, hin, hz, by have := @putS_len _ _ kvs (.inr x : Key) (.d (pathD p)); omega, hkd, hks, hq'⟩) (fun τ h => ?_) (fun τ y6 y7 h => ?_)
      · have := hq τ
        rw [ev] at this
        simp only [beq_true] at h
        rw [h] at this
        exact this
      · have := hq τ
        rw [ev] at this
        simp only [beq_true] at h
        rw [h] at this
        push_cast []
        exact this
    | all =>
      obtain ⟨hx, hin⟩ := hin
      unfold Qw.word
      norm_cast
      push_cast []
      refine ⟨s, [], ways, labels, rfl, by omega, by omega, by simp; omega, hkd, hks, ?_⟩
      push_cast []
      refine qloop (vals := s.paths []) (vd := pathD) (g := fun p => ev s (upd1 e x p) E f) hj (by omega) (fun p hp ω' jj q' hjj hq' => ⟨f, s, jj, _, ways, labels, _, _, _, _, rfl, by omega, hjj, hv.put1 hx hp, hin, hz, by have := @putS_len _ _ kvs (.inr x : Key) (.d (pathD p)); omega, hkd, hks, hq'⟩) (fun τ h => ?_) (fun τ y6 y7 h => ?_)
      · have := hq τ
        rw [ev, all_any] at this
        simp only [beq_false] at h
        rw [h] at this
        exact this
      · have := hq τ
        rw [ev, all_any] at this
        simp only [beq_false] at h
        rw [h] at this
        push_cast []
        exact this
    | someset =>
      obtain ⟨hx, hin⟩ := hin
      unfold Qw.word
      norm_cast
      push_cast []
      refine ⟨s, [], ways, labels, rfl, by omega, by omega, by simp; omega, hkd, hks, ?_⟩
      push_cast []
      have hpl := s.paths_len []
      refine ⟨s.paths [], rfl, by omega, ?_⟩
      push_cast []
      have hsub := subs_sub (s.paths []) [[]] (s.paths []) (by simp) (by simp; omega) (fun p hp => hp)
      refine qloop (vals := subs (s.paths [])) (vd := setD) (g := fun p => ev s e (upd1 E x p) f) hj (by omega) (fun p hp ω' jj q' hjj hq' => ⟨f, s, jj, _, ways, labels, _, _, _, _, rfl, by omega, hjj, hv.put2 hx (hsub p hp).2, hin, hz, by have := @putS_len _ _ kvs (.inr x : Key) (.d (setD p)); omega, hkd, hks, hq'⟩) (fun τ h => ?_) (fun τ y6 y7 h => ?_)
      · have := hq τ
        rw [ev] at this
        simp only [beq_true] at h
        rw [h] at this
        exact this
      · have := hq τ
        rw [ev] at this
        simp only [beq_true] at h
        rw [h] at this
        push_cast []
        exact this
    | allset =>
      obtain ⟨hx, hin⟩ := hin
      unfold Qw.word
      norm_cast
      push_cast []
      refine ⟨s, [], ways, labels, rfl, by omega, by omega, by simp; omega, hkd, hks, ?_⟩
      push_cast []
      have hpl := s.paths_len []
      refine ⟨s.paths [], rfl, by omega, ?_⟩
      push_cast []
      have hsub := subs_sub (s.paths []) [[]] (s.paths []) (by simp) (by simp; omega) (fun p hp => hp)
      refine qloop (vals := subs (s.paths [])) (vd := setD) (g := fun p => ev s e (upd1 E x p) f) hj (by omega) (fun p hp ω' jj q' hjj hq' => ⟨f, s, jj, _, ways, labels, _, _, _, _, rfl, by omega, hjj, hv.put2 hx (hsub p hp).2, hin, hz, by have := @putS_len _ _ kvs (.inr x : Key) (.d (setD p)); omega, hkd, hks, hq'⟩) (fun τ h => ?_) (fun τ y6 y7 h => ?_)
      · have := hq τ
        rw [ev, all_any] at this
        simp only [beq_false] at h
        rw [h] at this
        exact this
      · have := hq τ
        rw [ev, all_any] at this
        simp only [beq_false] at h
        rw [h] at this
        push_cast []
        exact this
theorem ok_holds {k : Nat} (bu : Bu mg) (c__law_paths : Cal P w K mg base CX0 k "_law_paths" ["shape", "path"] (spP K (CPaths 61))) (c__law_subsets : Cal P w K mg base CX0 k "_law_subsets" ["every"] (spP K CSubs)) (c__law_atom_holds : Cal P w K mg base CX0 k "_law_atom_holds" ["formula", "shape", "values"] (spG K GAtomHolds)) (Dn : Dfn K mg "_law_holds" ["formula", "shape", "values"] d__law_holds) : ∀ n, Cal P w K mg base CX0 (k+n) "_law_holds" ["formula", "shape", "values"] (spG K (GHolds n))
  | 0 => cal_noG Dn fun ss ω q ⟨f, s, j, kvs, ways, labels, xs, Xs, e, E, _, h, _⟩ => by cases f <;> simp [Fo.dep] at h
  | n + 1 => ok_holds0 bu (c__law_paths.mono (Nat.le_add_right k n)) (c__law_subsets.mono (Nat.le_add_right k n)) (c__law_atom_holds.mono (Nat.le_add_right k n)) (ok_holds bu c__law_paths c__law_subsets c__law_atom_holds Dn n) Dn
end
end Y


set_option Elab.async false
set_option linter.all false
set_option maxRecDepth 100000
set_option maxHeartbeats 2000000
namespace Y
open PySem PySem.Spec PyProof.Rows L2 StX
local macro_rules | `(tactic| push_cast [$xs,*]) => `(tactic| repeat (first | (with_reducible first | refine g_c ?_ | (refine g_v ?_; first | refine g_var0 ?_ | refine g_var1 ?_ | refine g_var2 ?_ | refine g_var3 ?_ | refine g_var4 ?_ | refine g_var5 ?_ | refine g_var6 ?_ | refine g_var7 ?_ | refine g_var8 ?_ | refine g_var9 ?_ | refine g_var10 ?_ | refine g_var11 ?_ | refine g_var12 ?_ | refine g_var13 ?_ | refine g_var14 ?_ | refine g_var15 ?_)) | ((with_reducible refine lf_go fun Q hQ => ?_); simp only [seqD, revSeqD, spreadS, truD, slD, tyOk, appD, popD, extD, itemsOf, negD, putD, putC, sizeC, ty_non, ty_bl, ty_int, ty_str, ty_tup, ty_ktup, ty_lst, ty_pin, kitS, intO, addD, subD, mulD, modD, fdivD, shlD, shrD, bandD, borD, eq_ii, eq_ss, eq_bb, eq_tt, eq_ll, eq_tk, ordD, ltD, leD, gtD, geD, in_tup, in_ktup, in_lst, in_str, in_pin, inSq_str, inSq_int, isND, isNon, isBD, ix_tup, ix_ktup, ix_lst, ix_str, ix_pin, lookC, keyOf, keysOf, valS_nil, valS_cons, putS_nil, putS_cons, mergeS, kgetD, kixD, revD, wipeD, allD, len_tup, len_ktup, len_lst, len_str, len_pin, intD, absD, sumD, boolsD, tupD, listD, listP, dictC, lstOf, sqOf, allB, allI, allDk, ofString_inj, atI_0, atI_1, atI_2, atI_3, atI_1m1, atI_2m1, atI_2m2, atI_3m1, atI_3m2, atI_4m1, atI_4m2, cut_1, cut_2, cut_to1, cut_to2, cut_none, allD_map, List.map_cons, List.map_nil, List.length_cons, List.length_nil, List.length_append, List.length_map, List.length_set, List.replicate, List.nil_append, List.cons_append, List.append_nil, List.append_assoc, List.getElem?_cons_zero, List.getElem?_cons_succ, List.getElem?_nil, List.set_cons_zero, List.set_cons_succ, List.find?_cons, List.find?_nil, List.any_cons, List.any_nil, List.foldl_cons, List.foldl_nil, List.isEmpty_cons, List.isEmpty_nil, List.dropLast_concat, get_new, get_new1, get_new2, get_new3, set_new, set_new1, set_new2, set_new3, Option.map_some, Option.map_none, Option.isSome_some, Option.isSome_none, Option.some.injEq, Sum.inr.injEq, Sum.inl.injEq, reduceCtorEq, if_true, if_false, ite_true, ite_false, Bool.false_eq_true, Bool.not_true, Bool.not_false, Bool.false_xor, Bool.true_xor, Bool.xor_false, Bool.xor_true, decide_true, decide_false, decide_eq_true_eq, true_and, and_true, false_and, and_false, Bool.or_true, Bool.or_false, Bool.true_or, Bool.false_or, Bool.and_true, Bool.and_false, Bool.true_and, Bool.false_and, not_true_eq_false, not_false_eq_true, Nat.reduceAdd, Nat.reduceSub, Nat.reduceLeDiff, Nat.reduceLT, Nat.reduceEqDiff, Nat.reduceMul, Int.reduceLE, Int.reduceLT, Int.reduceEq, Int.reduceAdd, Int.reduceSub, Int.reduceNeg, Int.reduceMul, Int.reduceToNat, String.reduceEq, String.reduceBEq, reduceIte, Int.cast_ofNat_Int, Nat.zero_add, rng_0, rng_1, rng_2, rng_3, Nat.add_one_sub_one, List.reverse_nil, strsOf_nil, strsOf_cons, strsOf_map, intsOf_nil, intsOf_cons, intsOf_map, List.mem_cons, List.not_mem_nil, or_false, false_or, or_true, true_or, allB_map, allI_map, allB_mapf, allI_mapf, get_newm, allD_app, allD_mapf, isEmpty_snoc, $xs,*]; subst hQ; try dsimp only) | (with_reducible first | refine g_op ?_ | refine g_cons ?_ | refine g_nil ?_ | refine g_test ?_ | refine g_asB ?_ | refine g_true ?_ | refine g_false ?_ | refine g_dec ?_ | refine g_seq ?_ | refine g_un ?_ | refine g_b ?_ | refine g_nt ?_ | refine g_ifS ?_ | refine g_ret ?_ | refine g_next ?_ | (refine g_st ?_; first | refine g_set0 ?_ | refine g_set1 ?_ | refine g_set2 ?_ | refine g_set3 ?_ | refine g_set4 ?_ | refine g_set5 ?_ | refine g_set6 ?_ | refine g_set7 ?_ | refine g_set8 ?_ | refine g_set9 ?_ | refine g_set10 ?_ | refine g_set11 ?_ | refine g_set12 ?_ | refine g_set13 ?_ | refine g_set14 ?_ | refine g_set15 ?_) | (refine g_gn ?_; first | refine g_gn0 ?_ | refine g_gn1 ?_ | refine g_gn2 ?_ | refine g_gn3 ?_ | refine g_gn4 ?_ | refine g_gn5 ?_ | refine g_gn6 ?_ | refine g_gn7 ?_ | refine g_gn8 ?_ | refine g_gn9 ?_ | refine g_gn10 ?_ | refine g_gn11 ?_ | refine g_gn12 ?_ | refine g_gn13 ?_ | refine g_gn14 ?_ | refine g_gn15 ?_) | refine g_lf1 ?_ | refine g_lf2 ?_ | refine g_notTv ?_ | refine g_andT ?_ | refine g_orT ?_ | refine g_notT ?_ | refine g_mt ?_ | refine g_mt0 ?_ | refine g_drop ?_ | refine g_tup ?_ | refine g_lstD ?_ | refine g_lst ?_ | refine g_if ?_ | refine g_call ?_ | refine g_callG ?_ | refine g_callX ?_ | refine g_callGX ?_ | refine g_tru ?_ | refine g_andV ?_ | refine g_orV ?_ | refine g_notV ?_ | refine g_sl ?_ | refine g_noPart ?_ | refine g_part ?_ | refine g_partI ?_ | refine g_chain ?_ | refine g_putS ?_ | refine g_isi ?_ | refine g_star ?_ | refine g_for ?_ | refine g_lc ?_ | refine g_seqI ?_ | refine g_revI ?_ | refine g_rng1 ?_ | refine g_rng2 ?_ | refine g_gNil ?_ | refine g_gCons ?_ | refine g_gTup2 ?_ | refine g_gTup3 ?_ | refine g_gTup4 ?_ | refine g_yes ?_ | refine g_retN ?_ | refine g_break ?_ | refine g_cont ?_ | refine g_finD ?_ | refine g_finD2 ?_ | refine g_finP ?_ | refine g_lcB ?_ | refine g_lcNil ?_ | refine g_lcCons ?_ | refine g_forNil ?_ | refine g_forCons ?_ | refine g_rtP ?_ | refine g_rtPin ?_ | refine g_disp ?_ | refine g_pairs0 ?_ | refine g_pairsS ?_ | refine g_pairsI ?_ | refine g_newK ?_ | refine g_newT ?_ | refine g_loc rfl ?_) | ((with_reducible refine g_pos ?_ ?_); · first | assumption | rfl | omega) | ((with_reducible refine g_neg ?_ ?_); · first | assumption | omega | decide) | ((with_reducible refine And.intro ?_ ?_); · first | trivial | assumption | omega | exact Or.inr (by decide) | (dsimp only; omega) | (simp; done))))
local macro_rules | `(tactic| norm_cast) => `(tactic| ((first | with_reducible refine g_endsG ?_ | with_reducible refine g_endsP ?_); simp only [start_eq, List.map_cons, List.map_nil, List.replicate, List.length_cons, List.length_nil, Nat.reduceAdd, Nat.reduceSub, Nat.zero_add, List.cons_append, List.nil_append]))
/-! ### built: equal parts once -/
theorem Tr.ext {t u : Tr} (h1 : t.hd = u.hd) (h2 : t.ins = u.ins) : t = u := by
  cases t <;> cases u <;> simp_all [Tr.hd, Tr.ins]
def Runs (t : Tr) : List Tr → List Tr → Prop
  | [], st => st = [t]
  | s :: r, st => ∃ st', st = s.ins ++ st' ∧ Runs t r (s :: st')
theorem runs_pre {t : Tr} : ∀ (s : Tr) (r st : List Tr), Runs t r (s :: st) → Runs t (s.pre.reverse ++ r) st
  | .leaf h, r, st, H => ⟨st, rfl, H⟩
  | .un h f, r, st, H => by
    rw [Tr.pre, List.reverse_cons, List.append_assoc]
    exact runs_pre f _ _ ⟨st, rfl, H⟩
  | .bin h f g, r, st, H => by
    rw [Tr.pre, List.reverse_cons, List.reverse_append, List.append_assoc, List.append_assoc]
    exact runs_pre g _ _ (runs_pre f _ _ ⟨st, rfl, H⟩)
def numK (T : List Tr) (t : Tr) : Key := .inl (T.idxOf t : Nat)
def keyT (T : List Tr) (t : Tr) : List Key := t.hd ++ t.ins.map (numK T)
theorem keysOf_map : ∀ ks : List Key, keysOf (ks.map keyD) = some ks
  | [] => rfl
  | .inl i :: ks => by rw [List.map_cons]; unfold keysOf; rw [keysOf_map ks]; rfl
  | .inr x :: ks => by rw [List.map_cons]; unfold keysOf; rw [keysOf_map ks]; rfl
theorem keyT_eq (T : List Tr) (t : Tr) : (keyT T t).map keyD = t.hd.map keyD ++ t.ins.map fun s => .int (T.idxOf s : Nat) := by
  unfold keyT
  rw [List.map_append, List.map_map]
  rfl
theorem num_inj {T : List Tr} {a b : Tr} (ha : a ∈ T) (hb : b ∈ T) (h : numK T a = numK T b) : a = b := by
  have h : T.idxOf a = T.idxOf b := by
    have := Sum.inl.inj h
    omega
  have ea := List.getElem_idxOf (List.idxOf_lt_length_of_mem ha)
  have eb := List.getElem_idxOf (List.idxOf_lt_length_of_mem hb)
  rw [← ea, ← eb]
  congr 1
theorem nums_inj {T : List Tr} : ∀ {a b : List Tr}, (∀ s ∈ a, s ∈ T) → (∀ s ∈ b, s ∈ T) → a.map (numK T) = b.map (numK T) → a = b
  | [], [], _, _, _ => rfl
  | x :: a, y :: b, ha, hb, h => by
    rw [List.map_cons, List.map_cons] at h
    rw [num_inj (ha x (by simp)) (hb y (by simp)) (List.cons.inj h).1, nums_inj (fun s hs => ha s (by simp [hs])) (fun s hs => hb s (by simp [hs])) (List.cons.inj h).2]
  | [], _ :: _, _, _, h => by simp at h
  | _ :: _, [], _, _, h => by simp at h
theorem key_same {T : List Tr} {a b : Tr} (ra : a.Root) (rb : b.Root) (ha : ∀ s ∈ a.ins, s ∈ T) (hb : ∀ s ∈ b.ins, s ∈ T) (h : keyT T a = keyT T b) : a = b := by
  obtain ⟨x, r, e1, e2, _⟩ := ra
  obtain ⟨y, r', f1, f2, _⟩ := rb
  have h : a.hd ++ a.ins.map (numK T) = b.hd ++ b.ins.map (numK T) := h
  have exy : x = y := by
    rw [e1, f1] at h
    exact Sum.inr.inj (List.cons.inj h).1
  subst exy
  rw [e2] at f2
  cases ea : a.ins with
  | nil =>
    cases eb : b.ins with
    | nil =>
      rw [ea, eb] at h
      exact Tr.ext (by simpa using h) (by rw [ea, eb])
    | cons u l => rw [ea, eb] at f2; cases f2
  | cons v m =>
    cases eb : b.ins with
    | nil => rw [ea, eb] at f2; cases f2
    | cons u l =>
      rw [ea, eb] at f2
      have hl : a.hd.length = b.hd.length := by
        have := D.int.inj (Option.some.inj f2)
        omega
      obtain ⟨h1, h2⟩ := List.append_inj h hl
      exact Tr.ext h1 (nums_inj ha hb h2)
theorem valS_map {T : List Tr} {kf : Tr → List Key} {vf : Tr → S} {u : Tr} (hi : ∀ t ∈ T, kf t = kf u → t = u) : valS (T.map fun t => (kf t, vf t)) (kf u) = if u ∈ T then some (vf u) else none := by
  induction T with
  | nil => rfl
  | cons a T ih =>
    have ih := ih fun t ht => hi t (by simp [ht])
    unfold valS at ih ⊢
    rw [List.map_cons, List.find?_cons]
    by_cases e : kf a = kf u
    · have := hi a (by simp) e
      subst this
      simp
    · have ne : u ≠ a := fun z => e (by rw [z])
      simp only [e, decide_false]
      rw [ih]
      simp [ne]
theorem putS_new {κ : Type} [DecidableEq κ] {kvs : List (κ × S)} {k : κ} {s : S} (h : valS kvs k = none) : putS kvs k s = kvs ++ [(k, s)] := by
  unfold putS
  rw [if_neg]
  unfold valS at h
  rw [Option.map_eq_none_iff, List.find?_eq_none] at h
  intro z
  obtain ⟨a, ha, e⟩ := List.any_eq_true.mp z
  exact h a ha e
theorem valS_snoc {κ : Type} [DecidableEq κ] {kvs : List (κ × S)} {k : κ} {s : S} (h : valS kvs k = none) : valS (kvs ++ [(k, s)]) k = some s := by
  unfold valS at h ⊢
  rw [Option.map_eq_none_iff] at h
  rw [List.find?_append, h]
  simp
theorem idx_old {T : List Tr} {s u : Tr} (h : u ∈ T) : (T ++ [s]).idxOf u = T.idxOf u := by
  rw [List.idxOf_append, if_pos h]
theorem idx_new {T : List Tr} {s : Tr} (h : s ∉ T) : (T ++ [s]).idxOf s = T.length := by
  rw [List.idxOf_append, if_neg h]
  simp
theorem sc_built : FnScope ["whole", "above", "numbers", "results", "waiting", "now", "inside", "_", "key", "number"] ["whole", "above"] (defScope d_built) := ⟨rfl, rfl, rfl, by decide +kernel, rfl, by decide +kernel, by decide +kernel⟩
def CBuilt (g : Addr) (AB : CP) : CP := fun ds q => ∃ (t : Tr) (val : Tr → D), ds = [t.d, .fn g] ∧ t.Ok ∧ t.pre.length ≤ 100000 ∧ (∀ s ∈ t.pre, ∀ q' : D → Prop, q' (val s) → AB [s.d, .lst (s.ins.map val)] q') ∧ q (val t)
section
variable {P : Program} {w : World} {K : PySem.W.Frag} {mg : Str → Option Value} {base : Heap} {aI : Addr}
theorem ok_built {k : Nat} {g : Addr} {AB : CP} (bu : Bu mg) (c_inner : Cal P w K mg base CX0 k "inner" ["whole"] (spP K CInner)) (c_outer : Cal P w K mg base CX0 k "outer" ["whole"] (spP K COuter)) (c_all_parts : Cal P w K mg base CX0 k "all_parts" ["whole"] (spP K CAll)) (c_above : CalF P w K mg base CX0 k g ["now", "inside"] (spP K AB)) (Dn : Dfn K mg "built" ["whole", "above"] d_built) : Cal P w K mg base CX0 (k+1) "built" ["whole", "above"] (spP K (CBuilt g AB)) := by
  refine calP Dn sc_built (fun ds q h => ?_) fun f cdv A outer s H E ds q hr h => ?_
  · obtain ⟨t, val, rfl, _⟩ := h
    rfl
  have hu := hu_of hr
  have hu65 := room65 hr
  have hpass := @PassesOwn.never
  obtain ⟨t, val, rfl, ht, hn, hab, hq⟩ := h
  refine ⟨_, _, (ys_cons (y_set (i := 2) sc_built.nd rfl y_dnewT)
      (ys_cons (y_set (i := 3) sc_built.nd rfl (y_lst ya_nil))
      (ys_cons (y_set (i := 4) sc_built.nd rfl (y_lst ya_nil))
      (ys_cons (y_for hpass rfl (yi_rev bu (y_cal c_all_parts hr (ya_cons (y_var 0) ya_nil))) (yg_name (i := 5) sc_built.nd rfl) (ys_cons (y_setLc finD_ok (i := 6) (own := [("_", 7)]) rfl sc_built.nd rfl rfl (sw_true rfl rfl rfl (by decide +kernel)) (yi_seq (y_cal c_inner hr (ya_cons (y_var 5) ya_nil))) (blkOk_by (own := [("_", 7)]) (N := ["whole", "above", "numbers", "results", "waiting", "now", "inside", "_", "key", "number"]) (sc := defScope d_built) (by decide +kernel)) go_name (fun _ _ _ _ _ => (yg_name (i := 7) sc_built.nd rfl)) (fun _ _ _ _ _ => yts_nil) (fun _ _ _ _ _ => (y_pop (y_var 4))))
        (ys_cons (y_set (i := 8) sc_built.nd rfl (y_tup (ya_star (y_cal c_outer hr (ya_cons (y_var 5) ya_nil)) (ya_star (y_var 6) ya_nil))))
        (ys_cons (y_ifS (yt_cmp (op_notInY hu65) refO_in (y_var 8) (y_var 2) (by rfl)) (ys_cons (y_expr (y_append (y_var 3) (ya_cons (y_loc 1 c_above hr (ya_cons (y_var 5) (ya_cons (y_lcD (own := [("number", 9)]) rfl sc_built.nd (yi_seq (y_var 6)) (blkOk_by (own := [("number", 9)]) (N := ["whole", "above", "numbers", "results", "waiting", "now", "inside", "_", "key", "number"]) (sc := defScope d_built) (by decide +kernel)) go_name (fun _ _ _ _ _ => (yg_name (i := 9) sc_built.nd rfl)) (fun _ _ _ _ _ => yts_nil) (fun _ _ _ _ _ => (y_ix hu (y_var 3) (y_var 9) (fun _ _ => rfl)))) ya_nil))) ya_nil)))
          (ys_one (y_dput hu (y_var 2) (y_var 8) (y_sub (y_len bu (ya_cons (y_var 3) ya_nil)) y_int)))) ys_nil)
        (ys_one (y_expr (y_append (y_var 4) (ya_cons (y_ix hu (y_var 2) (y_var 8) (fun _ _ => rfl)) ya_nil))))))))
      (ys_one (y_ret (y_ix hu (y_var 3) (y_ix hu (y_var 4) y_int (fun _ _ => rfl)) (fun _ _ => rfl)))))))), ?_⟩
  norm_cast
  push_cast []
  refine ⟨t, rfl, ht, hn, ?_⟩
  push_cast []
  have hidx : ∀ {T : List Tr} {u : Tr}, u ∈ T → ∃ n, T.idxOf u = n ∧ T[n]? = some u := fun {T u} h => ⟨_, rfl, by
    rw [List.getElem?_eq_getElem (List.idxOf_lt_length_of_mem h), List.getElem_idxOf]⟩
  refine for_ind (fun is ρ ω => ∃ (T stk rest : List Tr) (y5 y6 y7 y8 y9 : Option S), is = rest.map (fun s => .d s.d) ∧ ρ = [some (.d t.d), some (.d (.fn g)), some (.pin 0), some (.pin 1), some (.pin 2), y5, y6, y7, y8, y9] ∧
    ω = [.dT (T.map fun s => (keyT T s, .d (.int (T.idxOf s : Nat)))), .lst (T.map fun s => .d (val s)), .lst (stk.reverse.map fun s => .d (.int (T.idxOf s : Nat)))] ∧ T.Nodup ∧ (∀ u ∈ T, u.Root ∧ ∀ v ∈ u.ins, v ∈ T) ∧ (∀ u ∈ stk, u ∈ T) ∧ Runs t rest stk ∧ (∀ u ∈ rest, u ∈ t.pre) ∧ T.length + rest.length ≤ 100000 ∧ stk.length + rest.length ≤ 100000)
    ⟨[], [], t.pre.reverse, none, none, none, none, none, by rw [List.map_map, List.map_reverse]; rfl, rfl, rfl, List.nodup_nil, by simp, by simp, by simpa using runs_pre t [] [] rfl, by simp, by simpa using hn, by simpa using hn⟩ ?_ ?_
  · rintro s0 r0 ρ ω nx ⟨T, stk, rest, y5, y6, y7, y8, y9, e1, rfl, rfl, nd, hT, hst, hru, hpre, hl1, hl2⟩ hnx
    cases rest with
    | nil => cases e1
    | cons s r =>
      rw [List.map_cons] at e1
      obtain ⟨rfl, rfl⟩ := List.cons.inj e1
      obtain ⟨st', rfl, hru⟩ := hru
      have hs := hpre s (by simp)
      have hroot := ht s hs
      rw [List.length_cons] at hl1 hl2
      rw [List.length_append] at hl2
      push_cast []
      refine ⟨s, rfl, hroot, ?_⟩
      push_cast []
      refine lc_ind (fun is acc ω' => ∃ rst done : List Tr, is = rst.map (fun s => .d s.d) ∧ acc = done.map (fun s => .d (.int (T.idxOf s : Nat))) ∧ done ++ rst = s.ins ∧ ω' = [.dT (T.map fun s => (keyT T s, .d (.int (T.idxOf s : Nat)))), .lst (T.map fun s => .d (val s)), .lst ((rst ++ st').reverse.map fun s => .d (.int (T.idxOf s : Nat)))])
        ⟨s.ins, [], by rw [List.map_map]; rfl, rfl, rfl, rfl⟩ ?_ ?_
      · rintro z1 rs1 acc ω1 kk ⟨rst, done, e1, rfl, e2, rfl⟩ hk
        cases rst with
        | nil => cases e1
        | cons v rst =>
          rw [List.map_cons] at e1
          obtain ⟨rfl, rfl⟩ := List.cons.inj e1
          rw [List.cons_append, List.reverse_cons, List.map_append]
          have hd : done.length ≤ 100000 := by
            have := congrArg List.length e2
            rw [List.length_append] at this
            omega
          push_cast []
          refine ⟨by rw [List.length_map]; omega, trivial, hk _ _ ⟨rst, done ++ [v], rfl, by simp, by simpa using e2, rfl⟩⟩
      rintro acc ω1 ⟨rst, done, e1, rfl, e2, rfl⟩
      have : rst = [] := by simpa using e1.symm
      subst this
      rw [List.append_nil] at e2
      subst e2
      rw [List.nil_append]
      have efin : (s.ins.map fun s => S.d (D.int (T.idxOf s : Nat))) = (s.ins.map fun s => D.int (T.idxOf s : Nat)).map S.d := by rw [List.map_map]; rfl
      rw [efin]
      push_cast []
      refine ⟨s, rfl, hroot, ?_⟩
      push_cast []
      have hh : s.hd.length + s.ins.length ≤ 1000 := by
        obtain ⟨x, r, e1, _, e2, _⟩ := hroot
        rw [e1, List.length_cons]
        have : s.ins.length ≤ 2 := by cases s <;> simp [Tr.ins]
        omega
      refine ⟨hh, ?_⟩
      rw [← keyT_eq]
      have hins : ∀ v ∈ s.ins, v ∈ T := fun v hv => hst v (by simp [hv])
      have hv : valS (T.map fun s => (keyT T s, S.d (D.int (T.idxOf s : Nat)))) (keyT T s) = if s ∈ T then some (.d (.int (T.idxOf s : Nat))) else none := valS_map (kf := keyT T) (vf := fun s => S.d (D.int (T.idxOf s : Nat))) fun u hu e => key_same (hT u hu).1 hroot (hT u hu).2 hins e
      by_cases hm : s ∈ T
      · rw [if_pos hm] at hv
        push_cast [keysOf_map, hv]
        refine ⟨by rw [List.length_reverse]; omega, hnx _ _ trivial ⟨T, s :: st', r, _, _, _, _, _, rfl, rfl, by simp, nd, hT, fun u hu => ?_, hru, fun u hu => hpre u (by simp [hu]), by omega, by rw [List.length_cons]; omega⟩⟩
        rcases List.mem_cons.mp hu with rfl | hu
        · exact hm
        · exact hst u (by simp [hu])
      · rw [if_neg hm] at hv
        push_cast [keysOf_map, hv]
        refine lc_mapD (fun d => match d with | .int i => (match T[i.toNat]? with | some u => val u | none => d) | d => d) (by rw [List.length_map]; omega) (fun d hd acc kk h1 h2 => ?_) ?_
        · obtain ⟨v, hv2, rfl⟩ := List.mem_map.mp hd
          obtain ⟨n, en, eT⟩ := hidx (hins v hv2)
          rw [en] at h2 ⊢
          have eT2 : (T.map fun s => S.d (val s))[n]? = some (.d (val v)) := by rw [List.getElem?_map, eT]; rfl
          simp only [Int.toNat_natCast, eT] at h2
          push_cast [atI_nat, eT2]
          exact h2
        have ev : ((s.ins.map fun s => D.int (T.idxOf s : Nat)).map fun d => match d with | .int i => (match T[i.toNat]? with | some u => val u | none => d) | d => d) = s.ins.map val := by
          rw [List.map_map]
          refine List.map_congr_left fun v hv2 => ?_
          obtain ⟨n, en, eT⟩ := hidx (hins v hv2)
          simp only [Function.comp_apply, en, Int.toNat_natCast, eT]
        rw [ev]
        push_cast []
        refine hab s hs _ ?_
        have hp := fun y => putS_new (s := y) hv
        have hv2 := fun y => valS_snoc (s := y) hv
        push_cast [keysOf_map, hp, hv2]
        have e7 : ((T.length + 1 : Nat) : Int) - 1 = (T.length : Nat) := by omega
        rw [e7]
        have hk : ∀ u ∈ T, keyT (T ++ [s]) u = keyT T u := fun u hu => by
          unfold keyT
          congr 1
          exact List.map_congr_left fun v hv3 => by unfold numK; rw [idx_old ((hT u hu).2 v hv3)]
        have hks : keyT (T ++ [s]) s = keyT T s := by
          unfold keyT
          congr 1
          exact List.map_congr_left fun v hv3 => by unfold numK; rw [idx_old (hins v hv3)]
        refine ⟨by rw [List.length_reverse]; omega, hnx _ _ trivial ⟨T ++ [s], s :: st', r, _, _, _, _, _, rfl, rfl, ?_, ?_, fun u hu => ?_, fun u hu => ?_, hru, fun u hu => hpre u (by simp [hu]), by simp; omega, by rw [List.length_cons]; omega⟩⟩
        · rw [List.map_append, List.map_append, List.reverse_cons, List.map_append, List.map_singleton, List.map_singleton, List.map_singleton, hks, idx_new hm]
          congr 2
          · congr 1
            exact List.map_congr_left fun u hu => by rw [hk u hu, idx_old hu]
          · congr 3
            exact List.map_congr_left fun u hu => by rw [idx_old (hst u (by simp [List.mem_reverse.mp hu]))]
        · rw [List.nodup_append]
          exact ⟨nd, by simp, fun a ha b hb e => hm (by rw [List.mem_singleton.mp hb] at e; exact e ▸ ha)⟩
        · rcases List.mem_append.mp hu with hu | hu
          · exact ⟨(hT u hu).1, fun v hv3 => List.mem_append_left _ ((hT u hu).2 v hv3)⟩
          · rw [List.mem_singleton.mp hu]
            exact ⟨hroot, fun v hv3 => List.mem_append_left _ (hins v hv3)⟩
        · rcases List.mem_cons.mp hu with rfl | hu
          · simp
          · exact List.mem_append_left _ (hst u (by simp [hu]))
  · rintro ρ ω ⟨T, stk, rest, y5, y6, y7, y8, y9, e1, rfl, rfl, nd, hT, hst, hru, hpre, hl1, hl2⟩
    have : rest = [] := by simpa using e1.symm
    subst this
    have : stk = [t] := hru
    subst this
    obtain ⟨n, en, eT⟩ := hidx (hst t (by simp))
    have eT2 : (T.map fun s => S.d (val s))[n]? = some (.d (val t)) := by rw [List.getElem?_map, eT]; rfl
    push_cast [atI_nat, en, eT2, List.reverse_singleton]
    exact hq
end
end Y


set_option Elab.async false
set_option linter.all false
set_option maxRecDepth 100000
set_option maxHeartbeats 2000000
namespace Y
open PySem PySem.Spec PyProof.Rows L2 StX
local macro_rules | `(tactic| push_cast [$xs,*]) => `(tactic| repeat (first | (with_reducible first | refine g_c ?_ | (refine g_v ?_; first | refine g_var0 ?_ | refine g_var1 ?_ | refine g_var2 ?_ | refine g_var3 ?_ | refine g_var4 ?_ | refine g_var5 ?_ | refine g_var6 ?_ | refine g_var7 ?_ | refine g_var8 ?_ | refine g_var9 ?_ | refine g_var10 ?_ | refine g_var11 ?_ | refine g_var12 ?_ | refine g_var13 ?_ | refine g_var14 ?_ | refine g_var15 ?_)) | ((with_reducible refine lf_go fun Q hQ => ?_); simp only [seqD, revSeqD, spreadS, truD, slD, tyOk, appD, popD, extD, itemsOf, negD, putD, putC, sizeC, ty_non, ty_bl, ty_int, ty_str, ty_tup, ty_ktup, ty_lst, ty_pin, kitS, intO, addD, subD, mulD, modD, fdivD, shlD, shrD, bandD, borD, eq_ii, eq_ss, eq_bb, eq_tt, eq_ll, eq_tk, ordD, ltD, leD, gtD, geD, in_tup, in_ktup, in_lst, in_str, in_pin, inSq_str, inSq_int, isND, isNon, isBD, ix_tup, ix_ktup, ix_lst, ix_str, ix_pin, lookC, keyOf, keysOf, valS_nil, valS_cons, putS_nil, putS_cons, mergeS, kgetD, kixD, revD, wipeD, allD, len_tup, len_ktup, len_lst, len_str, len_pin, intD, absD, sumD, boolsD, tupD, listD, listP, dictC, lstOf, sqOf, allB, allI, allDk, ofString_inj, atI_0, atI_1, atI_2, atI_3, atI_1m1, atI_2m1, atI_2m2, atI_3m1, atI_3m2, atI_4m1, atI_4m2, cut_1, cut_2, cut_to1, cut_to2, cut_none, allD_map, List.map_cons, List.map_nil, List.length_cons, List.length_nil, List.length_append, List.length_map, List.length_set, List.replicate, List.nil_append, List.cons_append, List.append_nil, List.append_assoc, List.getElem?_cons_zero, List.getElem?_cons_succ, List.getElem?_nil, List.set_cons_zero, List.set_cons_succ, List.find?_cons, List.find?_nil, List.any_cons, List.any_nil, List.foldl_cons, List.foldl_nil, List.isEmpty_cons, List.isEmpty_nil, List.dropLast_concat, get_new, get_new1, get_new2, get_new3, set_new, set_new1, set_new2, set_new3, Option.map_some, Option.map_none, Option.isSome_some, Option.isSome_none, Option.some.injEq, Sum.inr.injEq, Sum.inl.injEq, reduceCtorEq, if_true, if_false, ite_true, ite_false, Bool.false_eq_true, Bool.not_true, Bool.not_false, Bool.false_xor, Bool.true_xor, Bool.xor_false, Bool.xor_true, decide_true, decide_false, decide_eq_true_eq, true_and, and_true, false_and, and_false, Bool.or_true, Bool.or_false, Bool.true_or, Bool.false_or, Bool.and_true, Bool.and_false, Bool.true_and, Bool.false_and, not_true_eq_false, not_false_eq_true, Nat.reduceAdd, Nat.reduceSub, Nat.reduceLeDiff, Nat.reduceLT, Nat.reduceEqDiff, Nat.reduceMul, Int.reduceLE, Int.reduceLT, Int.reduceEq, Int.reduceAdd, Int.reduceSub, Int.reduceNeg, Int.reduceMul, Int.reduceToNat, String.reduceEq, String.reduceBEq, reduceIte, Int.cast_ofNat_Int, Nat.zero_add, rng_0, rng_1, rng_2, rng_3, Nat.add_one_sub_one, List.reverse_nil, strsOf_nil, strsOf_cons, strsOf_map, intsOf_nil, intsOf_cons, intsOf_map, List.mem_cons, List.not_mem_nil, or_false, false_or, or_true, true_or, allB_map, allI_map, allB_mapf, allI_mapf, get_newm, allD_app, allD_mapf, isEmpty_snoc, $xs,*]; subst hQ; try dsimp only) | (with_reducible first | refine g_op ?_ | refine g_cons ?_ | refine g_nil ?_ | refine g_test ?_ | refine g_asB ?_ | refine g_true ?_ | refine g_false ?_ | refine g_dec ?_ | refine g_seq ?_ | refine g_un ?_ | refine g_b ?_ | refine g_nt ?_ | refine g_ifS ?_ | refine g_ret ?_ | refine g_next ?_ | (refine g_st ?_; first | refine g_set0 ?_ | refine g_set1 ?_ | refine g_set2 ?_ | refine g_set3 ?_ | refine g_set4 ?_ | refine g_set5 ?_ | refine g_set6 ?_ | refine g_set7 ?_ | refine g_set8 ?_ | refine g_set9 ?_ | refine g_set10 ?_ | refine g_set11 ?_ | refine g_set12 ?_ | refine g_set13 ?_ | refine g_set14 ?_ | refine g_set15 ?_) | (refine g_gn ?_; first | refine g_gn0 ?_ | refine g_gn1 ?_ | refine g_gn2 ?_ | refine g_gn3 ?_ | refine g_gn4 ?_ | refine g_gn5 ?_ | refine g_gn6 ?_ | refine g_gn7 ?_ | refine g_gn8 ?_ | refine g_gn9 ?_ | refine g_gn10 ?_ | refine g_gn11 ?_ | refine g_gn12 ?_ | refine g_gn13 ?_ | refine g_gn14 ?_ | refine g_gn15 ?_) | refine g_lf1 ?_ | refine g_lf2 ?_ | refine g_notTv ?_ | refine g_andT ?_ | refine g_orT ?_ | refine g_notT ?_ | refine g_mt ?_ | refine g_mt0 ?_ | refine g_drop ?_ | refine g_tup ?_ | refine g_lstD ?_ | refine g_lst ?_ | refine g_if ?_ | refine g_call ?_ | refine g_callG ?_ | refine g_callX ?_ | refine g_callGX ?_ | refine g_tru ?_ | refine g_andV ?_ | refine g_orV ?_ | refine g_notV ?_ | refine g_sl ?_ | refine g_noPart ?_ | refine g_part ?_ | refine g_partI ?_ | refine g_chain ?_ | refine g_putS ?_ | refine g_isi ?_ | refine g_star ?_ | refine g_for ?_ | refine g_lc ?_ | refine g_seqI ?_ | refine g_revI ?_ | refine g_rng1 ?_ | refine g_rng2 ?_ | refine g_gNil ?_ | refine g_gCons ?_ | refine g_gTup2 ?_ | refine g_gTup3 ?_ | refine g_gTup4 ?_ | refine g_yes ?_ | refine g_retN ?_ | refine g_break ?_ | refine g_cont ?_ | refine g_finD ?_ | refine g_finD2 ?_ | refine g_finP ?_ | refine g_lcB ?_ | refine g_lcNil ?_ | refine g_lcCons ?_ | refine g_forNil ?_ | refine g_forCons ?_ | refine g_rtP ?_ | refine g_rtPin ?_ | refine g_disp ?_ | refine g_pairs0 ?_ | refine g_pairsS ?_ | refine g_pairsI ?_ | refine g_newK ?_ | refine g_newT ?_ | refine g_loc rfl ?_) | ((with_reducible refine g_pos ?_ ?_); · first | assumption | rfl | omega) | ((with_reducible refine g_neg ?_ ?_); · first | assumption | omega | decide) | ((with_reducible refine And.intro ?_ ?_); · first | trivial | assumption | omega | exact Or.inr (by decide) | (dsimp only; omega) | (simp; done))))
local macro_rules | `(tactic| norm_cast) => `(tactic| ((first | with_reducible refine g_endsG ?_ | with_reducible refine g_endsP ?_); simp only [start_eq, List.map_cons, List.map_nil, List.replicate, List.length_cons, List.length_nil, Nat.reduceAdd, Nat.reduceSub, Nat.zero_add, List.cons_append, List.nil_append]))
/-! ### plain -/
def opp : Qw → Qw
  | .some => .all
  | .all => .some
  | .someset => .allset
  | .allset => .someset
def pl : Fo → Fo × Fo
  | .at_ a => (.at_ a, .not (.at_ a))
  | .not f => ((pl f).2, (pl f).1)
  | .and f g => (.and (pl f).1 (pl g).1, .or (pl f).2 (pl g).2)
  | .or f g => (.or (pl f).1 (pl g).1, .and (pl f).2 (pl g).2)
  | .qu w x f => (.qu w x (pl f).1, .qu (opp w) x (pl f).2)
/-- the same of trees -/
def oppW (w : Str) : Str := if w = "and" then "or" else if w = "or" then "and" else if w = "some" then "all" else if w = "all" then "some" else if w = "someset" then "allset" else "someset"
def oppH : List Key → List Key
  | .inr w :: r => .inr (oppW w) :: r
  | h => h
def plT : Tr → Tr × Tr
  | .leaf h => (.leaf h, .un [.inr "not"] (.leaf h))
  | .un h f => if h = [.inr "not"] then ((plT f).2, (plT f).1) else (.un h (plT f).1, .un (oppH h) (plT f).2)
  | .bin h f g => (.bin h (plT f).1 (plT g).1, .bin (oppH h) (plT f).2 (plT g).2)
theorem plT_tr : ∀ f : Fo, plT f.tr = ((pl f).1.tr, (pl f).2.tr)
  | .at_ a => rfl
  | .not f => by rw [Fo.tr, plT, if_pos rfl, plT_tr f]; rfl
  | .and f g => by rw [Fo.tr, plT, plT_tr f, plT_tr g]; simp [pl, Fo.tr, oppH, oppW]
  | .or f g => by rw [Fo.tr, plT, plT_tr f, plT_tr g]; simp [pl, Fo.tr, oppH, oppW, ofString_inj]
  | .qu w x f => by
    rw [Fo.tr, plT, if_neg (by simp), plT_tr f]
    cases w <;> simp [pl, Fo.tr, oppH, oppW, ofString_inj, opp, Qw.word]
def WOPP : List Str := ["and", "or", "some", "all", "someset", "allset"]
def tabO (w : Str) : Option D := if w = "and" then some (.str "or") else if w = "or" then some (.str "and") else if w = "some" then some (.str "all") else if w = "all" then some (.str "some") else if w = "someset" then some (.str "allset") else if w = "allset" then some (.str "someset") else none
def pairT (t : Tr) : D := .tup [(plT t).1.d, (plT t).2.d]
theorem sc_plain : FnScope ["formula"] ["formula"] (defScope d_plain) := ⟨rfl, rfl, rfl, by decide +kernel, rfl, by decide +kernel, by decide +kernel⟩
theorem sc_is_plain : FnScope ["formula", "now"] ["formula"] (defScope d_is_plain) := ⟨rfl, rfl, rfl, by decide +kernel, rfl, by decide +kernel, by decide +kernel⟩
theorem sc__both_above : FnScope ["now", "inside", "word", "ahead", "told", "pair"] ["now", "inside"] (defScope d__both_above) := ⟨rfl, rfl, rfl, by decide +kernel, rfl, by decide +kernel, by decide +kernel⟩
def CBoth : CP := fun ds q => ∃ f : Fo, ds = [f.d, .lst (f.tr.ins.map pairT)] ∧ q (pairT f.tr)
def CPlain : CP := fun ds q => ∃ f : Fo, ds = [f.d] ∧ f.num ≤ 100000 ∧ q (pl f).1.d
def isPl : Fo → Bool
  | .at_ _ => true
  | .not (.at_ _) => true
  | .not _ => false
  | .and f g => isPl f && isPl g
  | .or f g => isPl f && isPl g
  | .qu _ _ f => isPl f
def okPart : Fo → Bool
  | .not (.at_ _) => true
  | .not _ => false
  | _ => true
theorem isPl_pre : ∀ f : Fo, f.pre.all okPart = isPl f
  | .at_ a => rfl
  | .not (.at_ a) => rfl
  | .not (.not f) => rfl
  | .not (.and f g) => rfl
  | .not (.or f g) => rfl
  | .not (.qu w x f) => rfl
  | .and f g => by rw [Fo.pre, List.all_cons, List.all_append, isPl_pre f, isPl_pre g]; rfl
  | .or f g => by rw [Fo.pre, List.all_cons, List.all_append, isPl_pre f, isPl_pre g]; rfl
  | .qu w x f => by rw [Fo.pre, List.all_cons, isPl_pre f]; rfl
def CIsPlain : CP := fun ds q => ∃ f : Fo, ds = [f.d] ∧ f.num ≤ 100000 ∧ q (.bl (isPl f))
section
variable {P : Program} {w : World} {K : PySem.W.Frag} {mg : Str → Option Value} {base : Heap} {aI aO : Addr}
theorem ok_both {k : Nat} (bu : Bu mg) (k_OPPOSITES : KTab K w mg "OPPOSITES" aO WOPP tabO) (c_outer : Cal P w K mg base CX0 k "outer" ["whole"] (spP K COuter)) (Dn : Dfn K mg "_both_above" ["now", "inside"] d__both_above) : Cal P w K mg base CX0 (k+1) "_both_above" ["now", "inside"] (spP K CBoth) := by
  refine calP Dn sc__both_above (fun ds q h => ?_) fun f cdv A outer s H E ds q hr h => ?_
  · obtain ⟨f, rfl, _⟩ := h
    rfl
  have hu := hu_of hr
  have hu64 := hr.units
  obtain ⟨f, rfl, hq⟩ := h
  refine ⟨_, _, (ys_cons (y_set (i := 2) sc__both_above.nd rfl (y_ix hu (y_var 0) y_int (fun _ _ => rfl)))
      (ys_cons (y_ifS (yt_not (yt_tru (y_var 1))) (ys_one (y_ret (y_tup (ya_cons (y_var 0) (ya_cons (y_tup (ya_cons y_str (ya_cons (y_var 0) ya_nil))) ya_nil))))) ys_nil)
      (ys_cons (y_ifS (yt_cmp (op_eqY hu64) refO_eq (y_var 2) y_str (nomark _)) (ys_one (y_ret (y_tup (ya_cons (y_ix hu (y_ix hu (y_var 1) y_int (fun _ _ => rfl)) y_int (fun _ _ => rfl)) (ya_cons (y_ix hu (y_ix hu (y_var 1) y_int (fun _ _ => rfl)) y_int (fun _ _ => rfl)) ya_nil))))) ys_nil)
      (ys_cons (y_set (i := 3) sc__both_above.nd rfl (y_slice (y_cal c_outer hr (ya_cons (y_var 0) ya_nil)) (yo_some y_int) yo_none))
      (ys_cons (y_set (i := 4) sc__both_above.nd rfl (y_tup (ya_cons (y_var 2) (ya_star (y_var 3) (ya_star (y_lcD (own := [("pair", 5)]) rfl sc__both_above.nd (yi_seq (y_var 1)) (blkOk_by (own := [("pair", 5)]) (N := ["now", "inside", "word", "ahead", "told", "pair"]) (sc := defScope d__both_above) (by decide +kernel)) go_name (fun _ _ _ _ _ => (yg_name (i := 5) sc__both_above.nd rfl)) (fun _ _ _ _ _ => yts_nil) (fun _ _ _ _ _ => (y_ix hu (y_var 5) y_int (fun _ _ => rfl)))) ya_nil)))))
      (ys_one (y_ret (y_tup (ya_cons (y_var 4) (ya_cons (y_tup (ya_cons (y_kix k_OPPOSITES (y_var 2) (fun _ _ => rfl)) (ya_star (y_var 3) (ya_star (y_lcD (own := [("pair", 5)]) rfl sc__both_above.nd (yi_seq (y_var 1)) (blkOk_by (own := [("pair", 5)]) (N := ["now", "inside", "word", "ahead", "told", "pair"]) (sc := defScope d__both_above) (by decide +kernel)) go_name (fun _ _ _ _ _ => (yg_name (i := 5) sc__both_above.nd rfl)) (fun _ _ _ _ _ => yts_nil) (fun _ _ _ _ _ => (y_ix hu (y_var 5) y_int (fun _ _ => rfl)))) ya_nil)))) ya_nil)))))))))), ?_⟩
  have hroot := f.root
  unfold pairT at hq ⊢
  cases f with
  | at_ a =>
    rw [Fo.d, Fo.tr, Tr.ins]
    rw [Fo.tr, plT] at hq
    have hh : atI (a.hd.map keyD) 0 = some (.str (match a with | .tru => "true" | .label _ _ => "label" | .child _ _ _ => "child" | .below _ _ => "below" | .same _ _ => "same" | .top _ => "top" | .isin _ _ => "in" | .inside _ _ => "inside")) := by cases a <;> exact atI_0
    rw [Tr.d]
    norm_cast
    push_cast [hh]
    exact hq
  | not f =>
    rw [Fo.d, Fo.tr, Tr.ins]
    rw [Fo.tr, plT, if_pos rfl] at hq
    rw [Tr.d]
    norm_cast
    push_cast [keyD]
    exact hq
  | and f g =>
    rw [Fo.d, Tr.d_eq, Fo.tr, Tr.ins, Tr.hd]
    norm_cast
    push_cast [keyD]
    refine ⟨(Fo.and f g).tr, rfl, hroot, ?_⟩
    push_cast [keyD, Fo.tr, Tr.hd, tabO, WOPP]
    simpa [Fo.tr, plT, Tr.d, oppH, oppW, keyD, ofString_inj, Qw.word] using hq
  | or f g =>
    rw [Fo.d, Tr.d_eq, Fo.tr, Tr.ins, Tr.hd]
    norm_cast
    push_cast [keyD]
    refine ⟨(Fo.or f g).tr, rfl, hroot, ?_⟩
    push_cast [keyD, Fo.tr, Tr.hd, tabO, WOPP]
    simpa [Fo.tr, plT, Tr.d, oppH, oppW, keyD, ofString_inj, Qw.word] using hq
  | qu w x f =>
    cases w
    all_goals
      rw [Fo.d, Tr.d_eq, Fo.tr, Tr.ins, Tr.hd, Qw.word]
      norm_cast
      push_cast [keyD]
      refine ⟨_, rfl, hroot, ?_⟩
      push_cast [keyD, Fo.tr, Tr.hd, tabO, WOPP, Qw.word]
      simpa [Fo.tr, plT, Tr.d, oppH, oppW, keyD, ofString_inj, Qw.word] using hq
theorem ok_plain {k : Nat} {g : Addr} (m__both_above : mg "_both_above" = some (.ref g)) (c_built : Cal P w K mg base CX0 k "built" ["whole", "above"] (spP K (CBuilt g CBoth))) (Dn : Dfn K mg "plain" ["formula"] d_plain) : Cal P w K mg base CX0 (k+1) "plain" ["formula"] (spP K CPlain) := by
  refine calP Dn sc_plain (fun ds q h => ?_) fun f cdv A outer s H E ds q hr h => ?_
  · obtain ⟨f, rfl, _⟩ := h
    rfl
  have hu := hu_of hr
  obtain ⟨f, rfl, hn, hq⟩ := h
  refine ⟨_, _, (ys_one (y_ret (y_ix hu (y_cal c_built hr (ya_cons (y_var 0) (ya_cons (y_fn m__both_above) ya_nil))) y_int (fun _ _ => rfl)))), ?_⟩
  norm_cast
  push_cast []
  refine ⟨f.tr, pairT, rfl, f.ok, by rw [f.pre_len]; omega, fun s hs q' h' => ?_, ?_⟩
  · rw [f.pre_tr] at hs
    obtain ⟨g, _, rfl⟩ := List.mem_map.mp hs
    exact ⟨g, rfl, h'⟩
  · unfold pairT
    rw [plT_tr]
    push_cast []
    exact hq
theorem ok_is_plain {k : Nat} (bu : Bu mg) (c_inner : Cal P w K mg base CX0 k "inner" ["whole"] (spP K CInner)) (c_all_parts : Cal P w K mg base CX0 k "all_parts" ["whole"] (spP K CAll)) (Dn : Dfn K mg "is_plain" ["formula"] d_is_plain) : Cal P w K mg base CX0 (k+1) "is_plain" ["formula"] (spP K CIsPlain) := by
  refine calP Dn sc_is_plain (fun ds q h => ?_) fun f cdv A outer s H E ds q hr h => ?_
  · obtain ⟨f, rfl, _⟩ := h
    rfl
  have hu := hu_of hr
  have hu64 := hr.units
  obtain ⟨f, rfl, hn, hq⟩ := h
  refine ⟨_, _, (ys_one (y_ret (y_all bu rfl (ya_cons (y_lcD (own := [("now", 1)]) rfl sc_is_plain.nd (yi_seq (y_cal c_all_parts hr (ya_cons (y_var 0) ya_nil))) (blkOk_by (own := [("now", 1)]) (N := ["formula", "now"]) (sc := defScope d_is_plain) (by decide +kernel)) go_name (fun _ _ _ _ _ => (yg_name (i := 1) sc_is_plain.nd rfl)) (fun _ _ _ _ _ => yts_nil) (fun _ _ _ _ _ => (y_or (y_cmp (op_neY hu64) refO_ne (y_ix hu (y_var 1) y_int (fun _ _ => rfl)) y_str (nomark _)) (y_one (y_notT (y_cal c_inner hr (ya_cons (y_ix hu (y_var 1) y_int (fun _ _ => rfl)) ya_nil))))))) ya_nil)))), ?_⟩
  norm_cast
  push_cast []
  have hl := f.pre_len
  refine ⟨f.tr, rfl, f.ok, by omega, ?_⟩
  rw [f.pre_tr, List.map_map]
  push_cast []
  refine lc_mapG (ts := f.pre) (Tr.d ∘ Fo.tr) (fun g => .bl (okPart g)) (by rw [f.pre_tr, List.length_map] at hl; omega) (fun g hg acc kk h1 h2 => ?_) ?_
  · rw [Function.comp_apply]
    cases g with
    | at_ a =>
      have hh : ∃ w, atI (a.hd.map keyD) 0 = some (.str w) ∧ w ≠ "not" := by cases a <;> exact ⟨_, atI_0, by simp [ofString_inj]⟩
      obtain ⟨w, h3, h4⟩ := hh
      rw [Fo.tr, Tr.d]
      push_cast [h3, h4]
      exact h2
    | not g =>
      rw [Fo.tr, Tr.d]
      push_cast [keyD]
      refine ⟨g.tr, rfl, g.root, ?_⟩
      cases g
      all_goals
        push_cast [Fo.tr, Tr.ins]
        exact h2
    | and g1 g2 =>
      rw [Fo.tr, Tr.d]
      push_cast [keyD]
      exact h2
    | or g1 g2 =>
      rw [Fo.tr, Tr.d]
      push_cast [keyD]
      exact h2
    | qu w x g =>
      rw [Fo.tr, Tr.d]
      cases w
      all_goals
        push_cast [keyD, Qw.word]
        exact h2
  · have e : f.pre.map (fun g => D.bl (okPart g)) = (f.pre.map okPart).map D.bl := by rw [List.map_map]; rfl
    have e2 : (f.pre.map okPart).all id = isPl f := by rw [List.all_map, ← isPl_pre f]; rfl
    push_cast [e2]
    exact hq
end
end Y


set_option Elab.async false
set_option linter.all false
set_option maxRecDepth 100000
set_option maxHeartbeats 2000000
namespace Y
open PySem PySem.Spec PyProof.Rows L2 StX
local macro_rules | `(tactic| push_cast [$xs,*]) => `(tactic| repeat (first | (with_reducible first | refine g_c ?_ | (refine g_v ?_; first | refine g_var0 ?_ | refine g_var1 ?_ | refine g_var2 ?_ | refine g_var3 ?_ | refine g_var4 ?_ | refine g_var5 ?_ | refine g_var6 ?_ | refine g_var7 ?_ | refine g_var8 ?_ | refine g_var9 ?_ | refine g_var10 ?_ | refine g_var11 ?_ | refine g_var12 ?_ | refine g_var13 ?_ | refine g_var14 ?_ | refine g_var15 ?_)) | ((with_reducible refine lf_go fun Q hQ => ?_); simp only [seqD, revSeqD, spreadS, truD, slD, tyOk, appD, popD, extD, itemsOf, negD, putD, putC, sizeC, ty_non, ty_bl, ty_int, ty_str, ty_tup, ty_ktup, ty_lst, ty_pin, kitS, intO, addD, subD, mulD, modD, fdivD, shlD, shrD, bandD, borD, eq_ii, eq_ss, eq_bb, eq_tt, eq_ll, eq_tk, ordD, ltD, leD, gtD, geD, in_tup, in_ktup, in_lst, in_str, in_pin, inSq_str, inSq_int, isND, isNon, isBD, ix_tup, ix_ktup, ix_lst, ix_str, ix_pin, lookC, keyOf, keysOf, valS_nil, valS_cons, putS_nil, putS_cons, mergeS, kgetD, kixD, revD, wipeD, allD, len_tup, len_ktup, len_lst, len_str, len_pin, intD, absD, sumD, boolsD, tupD, listD, listP, dictC, lstOf, sqOf, allB, allI, allDk, ofString_inj, atI_0, atI_1, atI_2, atI_3, atI_1m1, atI_2m1, atI_2m2, atI_3m1, atI_3m2, atI_4m1, atI_4m2, cut_1, cut_2, cut_to1, cut_to2, cut_none, allD_map, List.map_cons, List.map_nil, List.length_cons, List.length_nil, List.length_append, List.length_map, List.length_set, List.replicate, List.nil_append, List.cons_append, List.append_nil, List.append_assoc, List.getElem?_cons_zero, List.getElem?_cons_succ, List.getElem?_nil, List.set_cons_zero, List.set_cons_succ, List.find?_cons, List.find?_nil, List.any_cons, List.any_nil, List.foldl_cons, List.foldl_nil, List.isEmpty_cons, List.isEmpty_nil, List.dropLast_concat, get_new, get_new1, get_new2, get_new3, set_new, set_new1, set_new2, set_new3, Option.map_some, Option.map_none, Option.isSome_some, Option.isSome_none, Option.some.injEq, Sum.inr.injEq, Sum.inl.injEq, reduceCtorEq, if_true, if_false, ite_true, ite_false, Bool.false_eq_true, Bool.not_true, Bool.not_false, Bool.false_xor, Bool.true_xor, Bool.xor_false, Bool.xor_true, decide_true, decide_false, decide_eq_true_eq, true_and, and_true, false_and, and_false, Bool.or_true, Bool.or_false, Bool.true_or, Bool.false_or, Bool.and_true, Bool.and_false, Bool.true_and, Bool.false_and, not_true_eq_false, not_false_eq_true, Nat.reduceAdd, Nat.reduceSub, Nat.reduceLeDiff, Nat.reduceLT, Nat.reduceEqDiff, Nat.reduceMul, Int.reduceLE, Int.reduceLT, Int.reduceEq, Int.reduceAdd, Int.reduceSub, Int.reduceNeg, Int.reduceMul, Int.reduceToNat, String.reduceEq, String.reduceBEq, reduceIte, Int.cast_ofNat_Int, Nat.zero_add, rng_0, rng_1, rng_2, rng_3, Nat.add_one_sub_one, List.reverse_nil, strsOf_nil, strsOf_cons, strsOf_map, intsOf_nil, intsOf_cons, intsOf_map, List.mem_cons, List.not_mem_nil, or_false, false_or, or_true, true_or, allB_map, allI_map, allB_mapf, allI_mapf, get_newm, allD_app, allD_mapf, isEmpty_snoc, $xs,*]; subst hQ; try dsimp only) | (with_reducible first | refine g_op ?_ | refine g_cons ?_ | refine g_nil ?_ | refine g_test ?_ | refine g_asB ?_ | refine g_true ?_ | refine g_false ?_ | refine g_dec ?_ | refine g_seq ?_ | refine g_un ?_ | refine g_b ?_ | refine g_nt ?_ | refine g_ifS ?_ | refine g_ret ?_ | refine g_next ?_ | (refine g_st ?_; first | refine g_set0 ?_ | refine g_set1 ?_ | refine g_set2 ?_ | refine g_set3 ?_ | refine g_set4 ?_ | refine g_set5 ?_ | refine g_set6 ?_ | refine g_set7 ?_ | refine g_set8 ?_ | refine g_set9 ?_ | refine g_set10 ?_ | refine g_set11 ?_ | refine g_set12 ?_ | refine g_set13 ?_ | refine g_set14 ?_ | refine g_set15 ?_) | (refine g_gn ?_; first | refine g_gn0 ?_ | refine g_gn1 ?_ | refine g_gn2 ?_ | refine g_gn3 ?_ | refine g_gn4 ?_ | refine g_gn5 ?_ | refine g_gn6 ?_ | refine g_gn7 ?_ | refine g_gn8 ?_ | refine g_gn9 ?_ | refine g_gn10 ?_ | refine g_gn11 ?_ | refine g_gn12 ?_ | refine g_gn13 ?_ | refine g_gn14 ?_ | refine g_gn15 ?_) | refine g_lf1 ?_ | refine g_lf2 ?_ | refine g_notTv ?_ | refine g_andT ?_ | refine g_orT ?_ | refine g_notT ?_ | refine g_mt ?_ | refine g_mt0 ?_ | refine g_drop ?_ | refine g_tup ?_ | refine g_lstD ?_ | refine g_lst ?_ | refine g_if ?_ | refine g_call ?_ | refine g_callG ?_ | refine g_callX ?_ | refine g_callGX ?_ | refine g_tru ?_ | refine g_andV ?_ | refine g_orV ?_ | refine g_notV ?_ | refine g_sl ?_ | refine g_noPart ?_ | refine g_part ?_ | refine g_partI ?_ | refine g_chain ?_ | refine g_putS ?_ | refine g_isi ?_ | refine g_star ?_ | refine g_for ?_ | refine g_lc ?_ | refine g_seqI ?_ | refine g_revI ?_ | refine g_rng1 ?_ | refine g_rng2 ?_ | refine g_gNil ?_ | refine g_gCons ?_ | refine g_gTup2 ?_ | refine g_gTup3 ?_ | refine g_gTup4 ?_ | refine g_yes ?_ | refine g_retN ?_ | refine g_break ?_ | refine g_cont ?_ | refine g_finD ?_ | refine g_finD2 ?_ | refine g_finP ?_ | refine g_lcB ?_ | refine g_lcNil ?_ | refine g_lcCons ?_ | refine g_forNil ?_ | refine g_forCons ?_ | refine g_rtP ?_ | refine g_rtPin ?_ | refine g_disp ?_ | refine g_pairs0 ?_ | refine g_pairsS ?_ | refine g_pairsI ?_ | refine g_newK ?_ | refine g_newT ?_ | refine g_loc rfl ?_) | ((with_reducible refine g_pos ?_ ?_); · first | assumption | rfl | omega) | ((with_reducible refine g_neg ?_ ?_); · first | assumption | omega | decide) | ((with_reducible refine And.intro ?_ ?_); · first | trivial | assumption | omega | exact Or.inr (by decide) | (dsimp only; omega) | (simp; done))))
local macro_rules | `(tactic| norm_cast) => `(tactic| ((first | with_reducible refine g_endsG ?_ | with_reducible refine g_endsP ?_); simp only [start_eq, List.map_cons, List.map_nil, List.replicate, List.length_cons, List.length_nil, Nat.reduceAdd, Nat.reduceSub, Nat.zero_add, List.cons_append, List.nil_append]))
/-! ### the law's own reading of formulas -/
def Fo.ins : Fo → List Fo
  | .at_ _ => []
  | .not f => [f]
  | .and f g => [f, g]
  | .or f g => [f, g]
  | .qu _ _ f => [f]
def At.strs : At → List Str
  | .tru => []
  | .label a x => [a, x]
  | .child _ x y => [x, y]
  | .below x y => [x, y]
  | .same x y => [x, y]
  | .top x => [x]
  | .isin x X => [x, X]
  | .inside X Y => [X, Y]
def Fo.strs : Fo → List Str
  | .at_ a => a.strs
  | .not f => f.strs
  | .and f g => f.strs ++ g.strs
  | .or f g => f.strs ++ g.strs
  | .qu _ x f => x :: f.strs
def Fo.atoms : Fo → Int
  | .at_ _ => 1
  | .not f => f.atoms
  | .and f g => f.atoms + g.atoms
  | .or f g => f.atoms + g.atoms
  | .qu _ _ f => f.atoms
def Fo.Cl (f : Fo) : Prop := ∀ x ∈ f.strs, PyData.strOk x = true
theorem word_ok : ∀ x ∈ WALL, PyData.strOk x = true := by decide +kernel
theorem Fo.dep_pos (f : Fo) : 1 ≤ f.dep := by cases f <;> simp [Fo.dep]
theorem Fo.clean : ∀ (f : Fo), f.Cl → ∀ n, f.dep ≤ n → cleanD (n + 1) f.d = true
  | .at_ a, h, n, hn => by
    cases n with
    | zero => simp [Fo.dep] at hn
    | succ n =>
      have hw : ∀ x ∈ a.strs, PyData.strOk x = true := h
      rw [At.d_eq, cleanD]
      refine cleanDs_of fun d hd => ?_
      obtain ⟨k, hk, rfl⟩ := List.mem_map.mp hd
      cases k with
      | inl i => rfl
      | inr x =>
        rw [keyD, cleanD]
        cases a <;> simp only [At.hd, List.mem_cons, List.not_mem_nil, or_false, Sum.inr.injEq, reduceCtorEq, false_or] at hk
        all_goals
          simp only [At.strs, List.mem_cons, List.not_mem_nil, or_false, forall_eq_or_imp, forall_eq] at hw
          first
            | (subst hk; exact word_ok _ (by simp [WALL]))
            | (rcases hk with rfl | rfl <;> first | exact hw | exact word_ok _ (by decide +kernel))
            | (rcases hk with rfl | rfl | rfl <;> first | exact hw.1 | exact hw.2 | exact word_ok _ (by decide +kernel))
  | .not f, h, n, hn => by
    cases n with
    | zero => simp [Fo.dep] at hn
    | succ n =>
      rw [Fo.dep] at hn
      rw [Fo.not_d, cleanD, cleanDs, cleanDs, cleanDs, cleanD, f.clean h n (by omega), word_ok _ (by simp [WALL])]
      rfl
  | .and f g, h, n, hn => by
    cases n with
    | zero => simp [Fo.dep] at hn
    | succ n =>
      rw [Fo.dep] at hn
      rw [Fo.and_d, cleanD, cleanDs, cleanDs, cleanDs, cleanDs, cleanD, f.clean (fun x hx => h x (List.mem_append_left _ hx)) n (by omega), g.clean (fun x hx => h x (List.mem_append_right _ hx)) n (by omega), word_ok _ (by simp [WALL])]
      rfl
  | .or f g, h, n, hn => by
    cases n with
    | zero => simp [Fo.dep] at hn
    | succ n =>
      rw [Fo.dep] at hn
      rw [Fo.or_d, cleanD, cleanDs, cleanDs, cleanDs, cleanDs, cleanD, f.clean (fun x hx => h x (List.mem_append_left _ hx)) n (by omega), g.clean (fun x hx => h x (List.mem_append_right _ hx)) n (by omega), word_ok _ (by simp [WALL])]
      rfl
  | .qu w x f, h, n, hn => by
    cases n with
    | zero => simp [Fo.dep] at hn
    | succ n =>
      rw [Fo.dep] at hn
      have hp := f.dep_pos
      have e1 : PyData.strOk w.word = true := word_ok _ (by cases w <;> simp [Qw.word, WALL])
      have e2 : PyData.strOk x = true := h x (by simp [Fo.strs])
      cases n with
      | zero => omega
      | succ n =>
        rw [Fo.qu_d, cleanD, cleanDs, cleanDs, cleanDs, cleanDs, f.clean (fun y hy => h y (by simp [Fo.strs, hy])) (n + 1) (by omega), cleanD, cleanD, e1, e2]
        rfl
theorem Fo.Cl.ins {f g : Fo} (h : f.Cl) (hg : g ∈ f.ins) : g.Cl := fun x hx => by
  refine h x ?_
  cases f <;> simp [Fo.ins] at hg
  · subst hg; exact hx
  · rcases hg with rfl | rfl <;> simp [Fo.strs, hx]
  · rcases hg with rfl | rfl <;> simp [Fo.strs, hx]
  · subst hg; simp [Fo.strs, hx]
theorem Fo.ins_dep {f g : Fo} (hg : g ∈ f.ins) : g.dep < f.dep := by
  cases f <;> simp [Fo.ins] at hg
  · subst hg; rw [Fo.dep]; omega
  · rcases hg with rfl | rfl <;> rw [Fo.dep] <;> omega
  · rcases hg with rfl | rfl <;> rw [Fo.dep] <;> omega
  · subst hg; rw [Fo.dep]; omega
theorem ins_ok {f : Fo} (h : f.Cl) (hd : f.dep ≤ 50) : okD (.lst (f.ins.map Fo.d)) := okD_of (n := 52) (by
  rw [cleanD]
  refine cleanDs_of fun d hd2 => ?_
  obtain ⟨g, hg, rfl⟩ := List.mem_map.mp hd2
  have := Fo.ins_dep hg
  exact g.clean (h.ins hg) 50 (by omega)) (by omega)
theorem isi_fo {T : String} {f : Fo} {ω : Sto} {q : S → Sto → Prop} : isiD T (.d f.d) ω q = q (.d (.bl (kitS "tuple" T))) ω := by cases f <;> rfl
theorem sc__law_parts : FnScope ["formula", "one"] ["formula"] (defScope d__law_parts) := ⟨rfl, rfl, rfl, by decide +kernel, rfl, by decide +kernel, by decide +kernel⟩
theorem sc__law_is_plain : FnScope ["formula", "one"] ["formula"] (defScope d__law_is_plain) := ⟨rfl, rfl, rfl, by decide +kernel, rfl, by decide +kernel, by decide +kernel⟩
theorem sc__law_atoms : FnScope ["formula", "inside", "one"] ["formula"] (defScope d__law_atoms) := ⟨rfl, rfl, rfl, by decide +kernel, rfl, by decide +kernel, by decide +kernel⟩
theorem sc__law_names : FnScope ["formula", "found", "one"] ["formula"] (defScope d__law_names) := ⟨rfl, rfl, rfl, by decide +kernel, rfl, by decide +kernel, by decide +kernel⟩
theorem sc_law : FnScope ["script", "tape", "kind", "shape", "listed", "values", "path", "formula", "found", "one"] ["script"] (defScope d_law) := ⟨rfl, rfl, rfl, by decide +kernel, rfl, by decide +kernel, by decide +kernel⟩
def CParts : CP := fun ds q => ∃ f : Fo, ds = [f.d] ∧ q (.lst (f.ins.map Fo.d))
def CLPlain (n : Nat) : CP := fun ds q => ∃ f : Fo, ds = [f.d] ∧ f.dep ≤ n ∧ f.dep ≤ 50 ∧ f.Cl ∧ q (.bl (isPl f))
def CAtoms (n : Nat) : CP := fun ds q => ∃ f : Fo, ds = [f.d] ∧ f.dep ≤ n ∧ f.dep ≤ 50 ∧ f.Cl ∧ q (.int f.atoms)
def CNames (n : Nat) : CP := fun ds q => ∃ f : Fo, ds = [f.d] ∧ f.dep ≤ n ∧ f.strs.length ≤ 100000 ∧ q (.lst (f.strs.map .str))
section
variable {P : Program} {w : World} {K : PySem.W.Frag} {mg : Str → Option Value} {base : Heap}
theorem ok_parts {k : Nat} (bu : Bu mg) (Dn : Dfn K mg "_law_parts" ["formula"] d__law_parts) : Cal P w K mg base CX0 (k+1) "_law_parts" ["formula"] (spP K CParts) := by
  refine calP Dn sc__law_parts (fun ds q h => ?_) fun f cdv A outer s H E ds q hr h => ?_
  · obtain ⟨f, rfl, _⟩ := h
    rfl
  have hu := hu_of hr
  obtain ⟨f, rfl, hq⟩ := h
  refine ⟨_, _, (ys_one (y_ret (y_lcD (own := [("one", 1)]) rfl sc__law_parts.nd (yi_seq (y_slice (y_var 0) (yo_some y_int) yo_none)) (blkOk_by (own := [("one", 1)]) (N := ["formula", "one"]) (sc := defScope d__law_parts) (by decide +kernel)) go_name (fun _ _ _ _ _ => (yg_name (i := 1) sc__law_parts.nd rfl)) (fun _ _ _ _ _ => (yts_one (yt_tru (y_isi bu (y_var 1) bu.tuple rfl)))) (fun _ _ _ _ _ => (y_var 1))))), ?_⟩
  cases f with
  | at_ a =>
    rw [At.d_eq]
    norm_cast
    cases a
    all_goals
      push_cast [At.hd, keyD]
      exact hq
  | not f => rw [Fo.not_d]; norm_cast; push_cast [isi_fo]; exact hq
  | and f g => rw [Fo.and_d]; norm_cast; push_cast [isi_fo]; exact hq
  | or f g => rw [Fo.or_d]; norm_cast; push_cast [isi_fo]; exact hq
  | qu w x f => rw [Fo.qu_d]; norm_cast; push_cast [isi_fo]; exact hq
theorem fo_hd (f : Fo) : ∃ w ds, f.d = .tup (.str w :: ds) ∧ (∀ g, f = .not g → w = "not" ∧ ds = [g.d]) ∧ ((∀ g, f ≠ .not g) → w ≠ "not") := by
  cases f with
  | at_ a => cases a <;> exact ⟨_, _, rfl, fun g h => (by cases h), fun _ => by simp [ofString_inj]⟩
  | not f => exact ⟨_, _, rfl, fun g h => (by cases h; exact ⟨rfl, rfl⟩), fun h => absurd rfl (h f)⟩
  | and f g => exact ⟨_, _, rfl, fun g h => (by cases h), fun _ => by simp [ofString_inj]⟩
  | or f g => exact ⟨_, _, rfl, fun g h => (by cases h), fun _ => by simp [ofString_inj]⟩
  | qu w x f => cases w <;> exact ⟨_, _, rfl, fun g h => (by cases h), fun _ => by simp [ofString_inj, Qw.word]⟩
theorem ok_lplain0 {k n : Nat} (bu : Bu mg) (c__law_parts : Cal P w K mg base CX0 k "_law_parts" ["formula"] (spP K CParts)) (c__law_is_plain : Cal P w K mg base CX0 k "_law_is_plain" ["formula"] (spP K (CLPlain n))) (Dn : Dfn K mg "_law_is_plain" ["formula"] d__law_is_plain) : Cal P w K mg base CX0 (k+1) "_law_is_plain" ["formula"] (spP K (CLPlain (n + 1))) := by
  refine calP Dn sc__law_is_plain (fun ds q h => ?_) fun f cdv A outer s H E ds q hr h => ?_
  · obtain ⟨f, rfl, _⟩ := h
    rfl
  have hu := hu_of hr
  have hu64 := hr.units
  obtain ⟨f, rfl, hd, hd2, hcl, hq⟩ := h
  refine ⟨_, _, (ys_cons (y_ifS (yt_cmp (op_eqY hu64) refO_eq (y_ix hu (y_var 0) y_int (fun _ _ => rfl)) y_str (nomark _)) (ys_one (y_ret (y_cmp (op_eqY hu64) refO_eq (y_cal c__law_parts hr (ya_cons (y_ix hu (y_var 0) y_int (fun _ _ => rfl)) ya_nil)) (y_lstD ya_nil) (nomark _)))) ys_nil)
      (ys_one (y_ret (y_all bu rfl (ya_cons (y_lcD (own := [("one", 1)]) rfl sc__law_is_plain.nd (yi_seq (y_cal c__law_parts hr (ya_cons (y_var 0) ya_nil))) (blkOk_by (own := [("one", 1)]) (N := ["formula", "one"]) (sc := defScope d__law_is_plain) (by decide +kernel)) go_name (fun _ _ _ _ _ => (yg_name (i := 1) sc__law_is_plain.nd rfl)) (fun _ _ _ _ _ => yts_nil) (fun _ _ _ _ _ => (y_cal c__law_is_plain hr (ya_cons (y_var 1) ya_nil)))) ya_nil))))), ?_⟩
  have ok0 := ok_nilL
  by_cases hnot : ∃ g, f = .not g
  · obtain ⟨g, rfl⟩ := hnot
    have hg : g ∈ (Fo.not g).ins := by simp [Fo.ins]
    have hgd := Fo.ins_dep hg
    have okg := ins_ok (hcl.ins hg) (by omega)
    have e1 : (g.ins.map Fo.d).isEmpty = isPl (.not g) := by cases g <;> rfl
    rw [Fo.not_d]
    norm_cast
    push_cast []
    refine ⟨g, rfl, ?_⟩
    push_cast [okg, ok0, eqv_nilL, e1]
    exact hq
  · obtain ⟨x, ds, e1, _, e2⟩ := fo_hd f
    have e3 := e2 fun g h => hnot ⟨g, h⟩
    have e4 : isPl f = (f.ins.map isPl).all id := by
      cases f with
      | not g => exact absurd ⟨g, rfl⟩ hnot
      | _ => simp [isPl, Fo.ins]
    rw [e4] at hq
    have fin : CParts [f.d] (fun d => d = .lst (f.ins.map Fo.d)) := ⟨f, rfl, rfl⟩
    norm_cast
    have e5 : ∀ (q : S → Sto → Prop) ω, ixD (.d f.d) (.d (.int 0)) ω q = q (.d (.str x)) ω := fun q ω => by rw [e1, ix_tup, atI_0]
    push_cast [e5, e3]
    refine ⟨f, rfl, ?_⟩
    push_cast []
    refine lc_mapG (ts := f.ins) Fo.d (fun g => .bl (isPl g)) (by cases f <;> simp [Fo.ins]) (fun g hg acc kk h1 h2 => ?_) ?_
    · push_cast []
      have := Fo.ins_dep hg
      refine ⟨g, rfl, by omega, by omega, hcl.ins hg, ?_⟩
      push_cast []
      exact h2
    · have e : f.ins.map (fun g => D.bl (isPl g)) = (f.ins.map isPl).map D.bl := by rw [List.map_map]; rfl
      push_cast []
      exact hq
theorem ok_lplain {k : Nat} (bu : Bu mg) (c__law_parts : Cal P w K mg base CX0 k "_law_parts" ["formula"] (spP K CParts)) (Dn : Dfn K mg "_law_is_plain" ["formula"] d__law_is_plain) : ∀ n, Cal P w K mg base CX0 (k+n) "_law_is_plain" ["formula"] (spP K (CLPlain n))
  | 0 => cal_noP Dn fun ds q ⟨f, _, h, _⟩ => by cases f <;> simp [Fo.dep] at h
  | n + 1 => ok_lplain0 bu (c__law_parts.mono (Nat.le_add_right k n)) (ok_lplain bu c__law_parts Dn n) Dn
theorem ok_atoms0 {k n : Nat} (bu : Bu mg) (c__law_parts : Cal P w K mg base CX0 k "_law_parts" ["formula"] (spP K CParts)) (c__law_atoms : Cal P w K mg base CX0 k "_law_atoms" ["formula"] (spP K (CAtoms n))) (Dn : Dfn K mg "_law_atoms" ["formula"] d__law_atoms) : Cal P w K mg base CX0 (k+1) "_law_atoms" ["formula"] (spP K (CAtoms (n + 1))) := by
  refine calP Dn sc__law_atoms (fun ds q h => ?_) fun f cdv A outer s H E ds q hr h => ?_
  · obtain ⟨f, rfl, _⟩ := h
    rfl
  have hu := hu_of hr
  have hu64 := hr.units
  obtain ⟨f, rfl, hd, hd2, hcl, hq⟩ := h
  refine ⟨_, _, (ys_cons (y_set (i := 1) sc__law_atoms.nd rfl (y_cal c__law_parts hr (ya_cons (y_var 0) ya_nil)))
      (ys_one (y_ret (y_if (yt_cmp (op_eqY hu64) refO_eq (y_var 1) (y_lstD ya_nil) (nomark _)) y_int (y_sum bu rfl (ya_cons (y_lcD (own := [("one", 2)]) rfl sc__law_atoms.nd (yi_seq (y_var 1)) (blkOk_by (own := [("one", 2)]) (N := ["formula", "inside", "one"]) (sc := defScope d__law_atoms) (by decide +kernel)) go_name (fun _ _ _ _ _ => (yg_name (i := 2) sc__law_atoms.nd rfl)) (fun _ _ _ _ _ => yts_nil) (fun _ _ _ _ _ => (y_cal c__law_atoms hr (ya_cons (y_var 2) ya_nil)))) ya_nil)))))), ?_⟩
  have ok0 := ok_nilL
  have okg := ins_ok hcl hd2
  norm_cast
  push_cast []
  refine ⟨f, rfl, ?_⟩
  have hi : (f.ins.map Fo.d).isEmpty = true ∧ f.atoms = 1 ∨ (f.ins.map Fo.d).isEmpty = false ∧ f.atoms = (f.ins.map Fo.atoms).sum := by
    cases f <;> simp [Fo.ins, Fo.atoms]
  rcases hi with ⟨h1, h2⟩ | ⟨h1, h2⟩
  · rw [h2] at hq
    push_cast [okg, ok0, eqv_nilL, h1]
    exact hq
  · rw [h2] at hq
    push_cast [okg, ok0, eqv_nilL, h1]
    refine lc_mapG (ts := f.ins) Fo.d (fun g => .int g.atoms) (by cases f <;> simp [Fo.ins]) (fun g hg acc kk h1 h2 => ?_) ?_
    · push_cast []
      have := Fo.ins_dep hg
      refine ⟨g, rfl, by omega, by omega, hcl.ins hg, ?_⟩
      push_cast []
      exact h2
    · push_cast []
      exact hq
theorem ok_atoms {k : Nat} (bu : Bu mg) (c__law_parts : Cal P w K mg base CX0 k "_law_parts" ["formula"] (spP K CParts)) (Dn : Dfn K mg "_law_atoms" ["formula"] d__law_atoms) : ∀ n, Cal P w K mg base CX0 (k+n) "_law_atoms" ["formula"] (spP K (CAtoms n))
  | 0 => cal_noP Dn fun ds q ⟨f, _, h, _⟩ => by cases f <;> simp [Fo.dep] at h
  | n + 1 => ok_atoms0 bu (c__law_parts.mono (Nat.le_add_right k n)) (ok_atoms bu c__law_parts Dn n) Dn
theorem ok_names0 {k n : Nat} (bu : Bu mg) (c__law_parts : Cal P w K mg base CX0 k "_law_parts" ["formula"] (spP K CParts)) (c__law_names : Cal P w K mg base CX0 k "_law_names" ["formula"] (spP K (CNames n))) (Dn : Dfn K mg "_law_names" ["formula"] d__law_names) : Cal P w K mg base CX0 (k+1) "_law_names" ["formula"] (spP K (CNames (n + 1))) := by
  refine calP Dn sc__law_names (fun ds q h => ?_) fun f cdv A outer s H E ds q hr h => ?_
  · obtain ⟨f, rfl, _⟩ := h
    rfl
  have hu := hu_of hr
  have hpass := @PassesOwn.never
  obtain ⟨f, rfl, hd, hl, hq⟩ := h
  refine ⟨_, _, (ys_cons (y_setLc finD_ok (i := 1) (own := [("one", 2)]) rfl sc__law_names.nd rfl rfl (sw_true rfl rfl rfl (by decide +kernel)) (yi_seq (y_slice (y_var 0) (yo_some y_int) yo_none)) (blkOk_by (own := [("one", 2)]) (N := ["formula", "found", "one"]) (sc := defScope d__law_names) (by decide +kernel)) go_name (fun _ _ _ _ _ => (yg_name (i := 2) sc__law_names.nd rfl)) (fun _ _ _ _ _ => (yts_one (yt_tru (y_isi bu (y_var 2) bu.str rfl)))) (fun _ _ _ _ _ => (y_var 2)))
      (ys_cons (y_for hpass rfl (yi_seq (y_cal c__law_parts hr (ya_cons (y_var 0) ya_nil))) (yg_name (i := 2) sc__law_names.nd rfl) (ys_one (y_set (i := 1) sc__law_names.nd rfl (y_add (y_var 1) (y_cal c__law_names hr (ya_cons (y_var 2) ya_nil))))))
      (ys_one (y_ret (y_var 1))))), ?_⟩
  cases f with
  | at_ a =>
    have hp : ∀ q' : D → Prop, q' (.lst []) → CParts [(Fo.at_ a).d] q' := fun q' h => ⟨.at_ a, rfl, h⟩
    rw [At.d_eq] at hp ⊢
    norm_cast
    cases a
    all_goals
      push_cast [At.hd, keyD]
      refine hp _ ?_
      push_cast [Fo.ins]
      exact hq
  | not f =>
    have hdf := Fo.ins_dep (f := .not f) (g := f) (by simp [Fo.ins])
    rw [Fo.strs] at hl hq
    rw [Fo.not_d]
    norm_cast
    push_cast [isi_fo]
    refine ⟨.not f, rfl, ?_⟩
    push_cast [Fo.ins]
    refine ⟨f, rfl, by omega, by omega, ?_⟩
    push_cast []
    exact hq
  | and f g =>
    have hdf := Fo.ins_dep (f := .and f g) (g := f) (by simp [Fo.ins])
    have hdg := Fo.ins_dep (f := .and f g) (g := g) (by simp [Fo.ins])
    rw [Fo.strs, List.length_append] at hl
    rw [Fo.strs, List.map_append] at hq
    rw [Fo.and_d]
    norm_cast
    push_cast [isi_fo]
    refine ⟨.and f g, rfl, ?_⟩
    push_cast [Fo.ins]
    refine ⟨f, rfl, by omega, by omega, ?_⟩
    push_cast []
    refine ⟨g, rfl, by omega, by omega, ?_⟩
    push_cast []
    exact hq
  | or f g =>
    have hdf := Fo.ins_dep (f := .or f g) (g := f) (by simp [Fo.ins])
    have hdg := Fo.ins_dep (f := .or f g) (g := g) (by simp [Fo.ins])
    rw [Fo.strs, List.length_append] at hl
    rw [Fo.strs, List.map_append] at hq
    rw [Fo.or_d]
    norm_cast
    push_cast [isi_fo]
    refine ⟨.or f g, rfl, ?_⟩
    push_cast [Fo.ins]
    refine ⟨f, rfl, by omega, by omega, ?_⟩
    push_cast []
    refine ⟨g, rfl, by omega, by omega, ?_⟩
    push_cast []
    exact hq
  | qu w x f =>
    have hdf := Fo.ins_dep (f := .qu w x f) (g := f) (by simp [Fo.ins])
    rw [Fo.strs, List.length_cons] at hl
    rw [Fo.strs, List.map_cons] at hq
    rw [Fo.qu_d]
    norm_cast
    push_cast [isi_fo]
    refine ⟨.qu w x f, rfl, ?_⟩
    push_cast [Fo.ins]
    refine ⟨f, rfl, by omega, by omega, ?_⟩
    push_cast []
    exact hq
theorem ok_names {k : Nat} (bu : Bu mg) (c__law_parts : Cal P w K mg base CX0 k "_law_parts" ["formula"] (spP K CParts)) (Dn : Dfn K mg "_law_names" ["formula"] d__law_names) : ∀ n, Cal P w K mg base CX0 (k+n) "_law_names" ["formula"] (spP K (CNames n))
  | 0 => cal_noP Dn fun ds q ⟨f, _, h, _⟩ => by cases f <;> simp [Fo.dep] at h
  | n + 1 => ok_names0 bu (c__law_parts.mono (Nat.le_add_right k n)) (ok_names bu c__law_parts Dn n) Dn
end
end Y


set_option Elab.async false
set_option linter.all false
set_option maxRecDepth 100000
set_option maxHeartbeats 2000000
namespace Y
open PySem PySem.Spec PyProof.Rows L2 StX
local macro_rules | `(tactic| push_cast [$xs,*]) => `(tactic| repeat (first | (with_reducible first | refine g_c ?_ | (refine g_v ?_; first | refine g_var0 ?_ | refine g_var1 ?_ | refine g_var2 ?_ | refine g_var3 ?_ | refine g_var4 ?_ | refine g_var5 ?_ | refine g_var6 ?_ | refine g_var7 ?_ | refine g_var8 ?_ | refine g_var9 ?_ | refine g_var10 ?_ | refine g_var11 ?_ | refine g_var12 ?_ | refine g_var13 ?_ | refine g_var14 ?_ | refine g_var15 ?_)) | ((with_reducible refine lf_go fun Q hQ => ?_); simp only [seqD, revSeqD, spreadS, truD, slD, tyOk, appD, popD, extD, itemsOf, negD, putD, putC, sizeC, ty_non, ty_bl, ty_int, ty_str, ty_tup, ty_ktup, ty_lst, ty_pin, kitS, intO, addD, subD, mulD, modD, fdivD, shlD, shrD, bandD, borD, eq_ii, eq_ss, eq_bb, eq_tt, eq_ll, eq_tk, ordD, ltD, leD, gtD, geD, in_tup, in_ktup, in_lst, in_str, in_pin, inSq_str, inSq_int, isND, isNon, isBD, ix_tup, ix_ktup, ix_lst, ix_str, ix_pin, lookC, keyOf, keysOf, valS_nil, valS_cons, putS_nil, putS_cons, mergeS, kgetD, kixD, revD, wipeD, allD, len_tup, len_ktup, len_lst, len_str, len_pin, intD, absD, sumD, boolsD, tupD, listD, listP, dictC, lstOf, sqOf, allB, allI, allDk, ofString_inj, atI_0, atI_1, atI_2, atI_3, atI_1m1, atI_2m1, atI_2m2, atI_3m1, atI_3m2, atI_4m1, atI_4m2, cut_1, cut_2, cut_to1, cut_to2, cut_none, allD_map, List.map_cons, List.map_nil, List.length_cons, List.length_nil, List.length_append, List.length_map, List.length_set, List.replicate, List.nil_append, List.cons_append, List.append_nil, List.append_assoc, List.getElem?_cons_zero, List.getElem?_cons_succ, List.getElem?_nil, List.set_cons_zero, List.set_cons_succ, List.find?_cons, List.find?_nil, List.any_cons, List.any_nil, List.foldl_cons, List.foldl_nil, List.isEmpty_cons, List.isEmpty_nil, List.dropLast_concat, get_new, get_new1, get_new2, get_new3, set_new, set_new1, set_new2, set_new3, Option.map_some, Option.map_none, Option.isSome_some, Option.isSome_none, Option.some.injEq, Sum.inr.injEq, Sum.inl.injEq, reduceCtorEq, if_true, if_false, ite_true, ite_false, Bool.false_eq_true, Bool.not_true, Bool.not_false, Bool.false_xor, Bool.true_xor, Bool.xor_false, Bool.xor_true, decide_true, decide_false, decide_eq_true_eq, true_and, and_true, false_and, and_false, Bool.or_true, Bool.or_false, Bool.true_or, Bool.false_or, Bool.and_true, Bool.and_false, Bool.true_and, Bool.false_and, not_true_eq_false, not_false_eq_true, Nat.reduceAdd, Nat.reduceSub, Nat.reduceLeDiff, Nat.reduceLT, Nat.reduceEqDiff, Nat.reduceMul, Int.reduceLE, Int.reduceLT, Int.reduceEq, Int.reduceAdd, Int.reduceSub, Int.reduceNeg, Int.reduceMul, Int.reduceToNat, String.reduceEq, String.reduceBEq, reduceIte, Int.cast_ofNat_Int, Nat.zero_add, rng_0, rng_1, rng_2, rng_3, Nat.add_one_sub_one, List.reverse_nil, strsOf_nil, strsOf_cons, strsOf_map, intsOf_nil, intsOf_cons, intsOf_map, List.mem_cons, List.not_mem_nil, or_false, false_or, or_true, true_or, allB_map, allI_map, allB_mapf, allI_mapf, get_newm, allD_app, allD_mapf, isEmpty_snoc, $xs,*]; subst hQ; try dsimp only) | (with_reducible first | refine g_op ?_ | refine g_cons ?_ | refine g_nil ?_ | refine g_test ?_ | refine g_asB ?_ | refine g_true ?_ | refine g_false ?_ | refine g_dec ?_ | refine g_seq ?_ | refine g_un ?_ | refine g_b ?_ | refine g_nt ?_ | refine g_ifS ?_ | refine g_ret ?_ | refine g_next ?_ | (refine g_st ?_; first | refine g_set0 ?_ | refine g_set1 ?_ | refine g_set2 ?_ | refine g_set3 ?_ | refine g_set4 ?_ | refine g_set5 ?_ | refine g_set6 ?_ | refine g_set7 ?_ | refine g_set8 ?_ | refine g_set9 ?_ | refine g_set10 ?_ | refine g_set11 ?_ | refine g_set12 ?_ | refine g_set13 ?_ | refine g_set14 ?_ | refine g_set15 ?_) | (refine g_gn ?_; first | refine g_gn0 ?_ | refine g_gn1 ?_ | refine g_gn2 ?_ | refine g_gn3 ?_ | refine g_gn4 ?_ | refine g_gn5 ?_ | refine g_gn6 ?_ | refine g_gn7 ?_ | refine g_gn8 ?_ | refine g_gn9 ?_ | refine g_gn10 ?_ | refine g_gn11 ?_ | refine g_gn12 ?_ | refine g_gn13 ?_ | refine g_gn14 ?_ | refine g_gn15 ?_) | refine g_lf1 ?_ | refine g_lf2 ?_ | refine g_notTv ?_ | refine g_andT ?_ | refine g_orT ?_ | refine g_notT ?_ | refine g_mt ?_ | refine g_mt0 ?_ | refine g_drop ?_ | refine g_tup ?_ | refine g_lstD ?_ | refine g_lst ?_ | refine g_if ?_ | refine g_call ?_ | refine g_callG ?_ | refine g_callX ?_ | refine g_callGX ?_ | refine g_tru ?_ | refine g_andV ?_ | refine g_orV ?_ | refine g_notV ?_ | refine g_sl ?_ | refine g_noPart ?_ | refine g_part ?_ | refine g_partI ?_ | refine g_chain ?_ | refine g_putS ?_ | refine g_isi ?_ | refine g_star ?_ | refine g_for ?_ | refine g_lc ?_ | refine g_seqI ?_ | refine g_revI ?_ | refine g_rng1 ?_ | refine g_rng2 ?_ | refine g_gNil ?_ | refine g_gCons ?_ | refine g_gTup2 ?_ | refine g_gTup3 ?_ | refine g_gTup4 ?_ | refine g_yes ?_ | refine g_retN ?_ | refine g_break ?_ | refine g_cont ?_ | refine g_finD ?_ | refine g_finD2 ?_ | refine g_finP ?_ | refine g_lcB ?_ | refine g_lcNil ?_ | refine g_lcCons ?_ | refine g_forNil ?_ | refine g_forCons ?_ | refine g_rtP ?_ | refine g_rtPin ?_ | refine g_disp ?_ | refine g_pairs0 ?_ | refine g_pairsS ?_ | refine g_pairsI ?_ | refine g_newK ?_ | refine g_newT ?_ | refine g_loc rfl ?_) | ((with_reducible refine g_pos ?_ ?_); · first | assumption | rfl | omega) | ((with_reducible refine g_neg ?_ ?_); · first | assumption | omega | decide) | ((with_reducible refine And.intro ?_ ?_); · first | trivial | assumption | omega | exact Or.inr (by decide) | (dsimp only; omega) | (simp; done))))
local macro_rules | `(tactic| norm_cast) => `(tactic| ((first | with_reducible refine g_endsG ?_ | with_reducible refine g_endsP ?_); simp only [start_eq, List.map_cons, List.map_nil, List.replicate, List.length_cons, List.length_nil, Nat.reduceAdd, Nat.reduceSub, Nat.zero_add, List.cons_append, List.nil_append]))
/-! ### what plain does -/
theorem ev_pl (s : Sh) : ∀ (f : Fo) (e : EnvE) (E : EnvS), ev s e E (pl f).1 = ev s e E f ∧ ev s e E (pl f).2 = !ev s e E f
  | .at_ a, e, E => ⟨rfl, rfl⟩
  | .not f, e, E => by
    obtain ⟨h1, h2⟩ := ev_pl s f e E
    rw [pl, ev, h1, h2]
    exact ⟨rfl, by rw [Bool.not_not]⟩
  | .and f g, e, E => by
    obtain ⟨h1, h2⟩ := ev_pl s f e E
    obtain ⟨h3, h4⟩ := ev_pl s g e E
    rw [pl, ev, ev, ev, h1, h2, h3, h4]
    exact ⟨rfl, by rw [Bool.not_and]⟩
  | .or f g, e, E => by
    obtain ⟨h1, h2⟩ := ev_pl s f e E
    obtain ⟨h3, h4⟩ := ev_pl s g e E
    rw [pl, ev, ev, ev, h1, h2, h3, h4]
    exact ⟨rfl, by rw [Bool.not_or]⟩
  | .qu .some x f, e, E => by
    refine ⟨?_, ?_⟩
    · rw [pl, ev, ev]
      congr 1
      funext p
      exact (ev_pl s f _ E).1
    · rw [pl, opp, ev, ev, all_any]
      congr 2
      funext p
      rw [(ev_pl s f _ E).2, Bool.not_not]
  | .qu .all x f, e, E => by
    refine ⟨?_, ?_⟩
    · rw [pl, ev, ev]
      congr 1
      funext p
      exact (ev_pl s f _ E).1
    · rw [pl, opp, ev, ev, all_any, Bool.not_not]
      congr 1
      funext p
      exact (ev_pl s f _ E).2
  | .qu .someset x f, e, E => by
    refine ⟨?_, ?_⟩
    · rw [pl, ev, ev]
      congr 1
      funext p
      exact (ev_pl s f e _).1
    · rw [pl, opp, ev, ev, all_any]
      congr 2
      funext p
      rw [(ev_pl s f e _).2, Bool.not_not]
  | .qu .allset x f, e, E => by
    refine ⟨?_, ?_⟩
    · rw [pl, ev, ev]
      congr 1
      funext p
      exact (ev_pl s f e _).1
    · rw [pl, opp, ev, ev, all_any, Bool.not_not]
      congr 1
      funext p
      exact (ev_pl s f e _).2
theorem isPl_pl : ∀ f : Fo, isPl (pl f).1 = true ∧ isPl (pl f).2 = true
  | .at_ a => ⟨rfl, rfl⟩
  | .not f => ⟨(isPl_pl f).2, (isPl_pl f).1⟩
  | .and f g => by rw [pl, isPl, isPl, (isPl_pl f).1, (isPl_pl f).2, (isPl_pl g).1, (isPl_pl g).2]; exact ⟨rfl, rfl⟩
  | .or f g => by rw [pl, isPl, isPl, (isPl_pl f).1, (isPl_pl f).2, (isPl_pl g).1, (isPl_pl g).2]; exact ⟨rfl, rfl⟩
  | .qu w x f => by rw [pl, isPl, isPl, (isPl_pl f).1, (isPl_pl f).2]; exact ⟨rfl, rfl⟩
theorem atoms_pl : ∀ f : Fo, (pl f).1.atoms = f.atoms ∧ (pl f).2.atoms = f.atoms
  | .at_ a => ⟨rfl, rfl⟩
  | .not f => ⟨(atoms_pl f).2, (atoms_pl f).1⟩
  | .and f g => by simp only [pl, Fo.atoms, (atoms_pl f).1, (atoms_pl f).2, (atoms_pl g).1, (atoms_pl g).2, and_self]
  | .or f g => by simp only [pl, Fo.atoms, (atoms_pl f).1, (atoms_pl f).2, (atoms_pl g).1, (atoms_pl g).2, and_self]
  | .qu w x f => by simp only [pl, Fo.atoms, (atoms_pl f).1, (atoms_pl f).2, and_self]
theorem strs_pl : ∀ f : Fo, (pl f).1.strs = f.strs ∧ (pl f).2.strs = f.strs
  | .at_ a => ⟨rfl, rfl⟩
  | .not f => ⟨(strs_pl f).2, (strs_pl f).1⟩
  | .and f g => by simp only [pl, Fo.strs, (strs_pl f).1, (strs_pl f).2, (strs_pl g).1, (strs_pl g).2, and_self]
  | .or f g => by simp only [pl, Fo.strs, (strs_pl f).1, (strs_pl f).2, (strs_pl g).1, (strs_pl g).2, and_self]
  | .qu w x f => by simp only [pl, Fo.strs, (strs_pl f).1, (strs_pl f).2, and_self]
theorem dep_pl : ∀ f : Fo, (pl f).1.dep ≤ f.dep + 1 ∧ (pl f).2.dep ≤ f.dep + 1
  | .at_ a => by simp [pl, Fo.dep]
  | .not f => by have := dep_pl f; simp only [pl, Fo.dep]; omega
  | .and f g => by have := dep_pl f; have := dep_pl g; simp only [pl, Fo.dep]; omega
  | .or f g => by have := dep_pl f; have := dep_pl g; simp only [pl, Fo.dep]; omega
  | .qu w x f => by have := dep_pl f; simp only [pl, Fo.dep]; omega
theorem in_pl {ways : Int} {labels : List Str} : ∀ (f : Fo) {xs Xs : List Str}, f.In ways labels xs Xs → (pl f).1.In ways labels xs Xs ∧ (pl f).2.In ways labels xs Xs
  | .at_ a, _, _, h => ⟨h, h⟩
  | .not f, _, _, h => ⟨(in_pl f h).2, (in_pl f h).1⟩
  | .and f g, _, _, h => ⟨⟨(in_pl f h.1).1, (in_pl g h.2).1⟩, ⟨(in_pl f h.1).2, (in_pl g h.2).2⟩⟩
  | .or f g, _, _, h => ⟨⟨(in_pl f h.1).1, (in_pl g h.2).1⟩, ⟨(in_pl f h.1).2, (in_pl g h.2).2⟩⟩
  | .qu .some x f, _, _, h => ⟨⟨h.1, (in_pl f h.2).1⟩, ⟨h.1, (in_pl f h.2).2⟩⟩
  | .qu .all x f, _, _, h => ⟨⟨h.1, (in_pl f h.2).1⟩, ⟨h.1, (in_pl f h.2).2⟩⟩
  | .qu .someset x f, _, _, h => ⟨⟨h.1, (in_pl f h.2).1⟩, ⟨h.1, (in_pl f h.2).2⟩⟩
  | .qu .allset x f, _, _, h => ⟨⟨h.1, (in_pl f h.2).1⟩, ⟨h.1, (in_pl f h.2).2⟩⟩
theorem At.In.mono {ways : Int} {labels xs Xs ys Ys : List Str} (h1 : ∀ x ∈ xs, x ∈ ys) (h2 : ∀ x ∈ Xs, x ∈ Ys) : ∀ {a : At}, a.In ways labels xs Xs → a.In ways labels ys Ys
  | .tru, _ => trivial
  | .label a x, h => ⟨h.1, h1 _ h.2⟩
  | .child k x y, h => ⟨h.1, h.2.1, h1 _ h.2.2.1, h1 _ h.2.2.2⟩
  | .below x y, h => ⟨h1 _ h.1, h1 _ h.2⟩
  | .same x y, h => ⟨h1 _ h.1, h1 _ h.2⟩
  | .top x, h => h1 _ h
  | .isin x X, h => ⟨h1 _ h.1, h2 _ h.2⟩
  | .inside X Y, h => ⟨h2 _ h.1, h2 _ h.2⟩
theorem Fo.In.mono {ways : Int} {labels : List Str} : ∀ {f : Fo} {xs Xs ys Ys : List Str}, (∀ x ∈ xs, x ∈ ys) → (∀ x ∈ Xs, x ∈ Ys) → f.In ways labels xs Xs → f.In ways labels ys Ys
  | .at_ a, _, _, _, _, h1, h2, h => At.In.mono h1 h2 h
  | .not f, _, _, _, _, h1, h2, h => Fo.In.mono (f := f) h1 h2 h
  | .and f g, _, _, _, _, h1, h2, h => ⟨Fo.In.mono h1 h2 h.1, Fo.In.mono h1 h2 h.2⟩
  | .or f g, _, _, _, _, h1, h2, h => ⟨Fo.In.mono h1 h2 h.1, Fo.In.mono h1 h2 h.2⟩
  | .qu .some x f, _, _, _, _, h1, h2, h => ⟨h.1, Fo.In.mono (fun y hy => by simp at hy ⊢; exact hy.imp (h1 y) id) h2 h.2⟩
  | .qu .all x f, _, _, _, _, h1, h2, h => ⟨h.1, Fo.In.mono (fun y hy => by simp at hy ⊢; exact hy.imp (h1 y) id) h2 h.2⟩
  | .qu .someset x f, _, _, _, _, h1, h2, h => ⟨h.1, Fo.In.mono h1 (fun y hy => by simp at hy ⊢; exact hy.imp (h2 y) id) h.2⟩
  | .qu .allset x f, _, _, _, _, h1, h2, h => ⟨h.1, Fo.In.mono h1 (fun y hy => by simp at hy ⊢; exact hy.imp (h2 y) id) h.2⟩
theorem cap_ok {x : Str} (h : x ∈ capitals) : PyData.strOk x = true := by
  have : ∀ x ∈ capitals, PyData.strOk x = true := by decide +kernel
  exact this x h
theorem Fo.In.cl {ways : Int} {labels : List Str} (hk : KdOk ways labels) : ∀ {f : Fo} {xs Xs : List Str}, (∀ x ∈ xs, PyData.strOk x = true) → (∀ x ∈ Xs, PyData.strOk x = true) → f.In ways labels xs Xs → f.Cl
  | .at_ a, xs, Xs, h1, h2, h => fun x hx => by
    cases a <;> simp only [Fo.strs, At.strs, List.mem_cons, List.not_mem_nil, or_false] at hx
    case label a y => rcases hx with rfl | rfl; exact (hk.2.2.2 _ h.1).1; exact h1 _ h.2
    case child k y z => rcases hx with rfl | rfl; exact h1 _ h.2.2.1; exact h1 _ h.2.2.2
    case below y z => rcases hx with rfl | rfl; exact h1 _ h.1; exact h1 _ h.2
    case same y z => rcases hx with rfl | rfl; exact h1 _ h.1; exact h1 _ h.2
    case top y => subst hx; exact h1 _ h
    case isin y z => rcases hx with rfl | rfl; exact h1 _ h.1; exact h2 _ h.2
    case inside y z => rcases hx with rfl | rfl; exact h2 _ h.1; exact h2 _ h.2
  | .not f, _, _, h1, h2, h => Fo.In.cl (f := f) hk h1 h2 h
  | .and f g, _, _, h1, h2, h => fun x hx => by
    rcases List.mem_append.mp hx with hx | hx
    · exact Fo.In.cl hk h1 h2 h.1 x hx
    · exact Fo.In.cl hk h1 h2 h.2 x hx
  | .or f g, _, _, h1, h2, h => fun x hx => by
    rcases List.mem_append.mp hx with hx | hx
    · exact Fo.In.cl hk h1 h2 h.1 x hx
    · exact Fo.In.cl hk h1 h2 h.2 x hx
  | .qu .some y f, _, _, h1, h2, h => fun x hx => by
    rcases List.mem_cons.mp hx with rfl | hx
    · exact small_ok h.1
    · exact Fo.In.cl (f := f) hk (fun z hz => by rcases List.mem_append.mp hz with hz | hz; exact h1 z hz; rw [List.mem_singleton.mp hz]; exact small_ok h.1) h2 h.2 x hx
  | .qu .all y f, _, _, h1, h2, h => fun x hx => by
    rcases List.mem_cons.mp hx with rfl | hx
    · exact small_ok h.1
    · exact Fo.In.cl (f := f) hk (fun z hz => by rcases List.mem_append.mp hz with hz | hz; exact h1 z hz; rw [List.mem_singleton.mp hz]; exact small_ok h.1) h2 h.2 x hx
  | .qu .someset y f, _, _, h1, h2, h => fun x hx => by
    rcases List.mem_cons.mp hx with rfl | hx
    · exact cap_ok h.1
    · exact Fo.In.cl (f := f) hk h1 (fun z hz => by rcases List.mem_append.mp hz with hz | hz; exact h2 z hz; rw [List.mem_singleton.mp hz]; exact cap_ok h.1) h.2 x hx
  | .qu .allset y f, _, _, h1, h2, h => fun x hx => by
    rcases List.mem_cons.mp hx with rfl | hx
    · exact cap_ok h.1
    · exact Fo.In.cl (f := f) hk h1 (fun z hz => by rcases List.mem_append.mp hz with hz | hz; exact h2 z hz; rw [List.mem_singleton.mp hz]; exact cap_ok h.1) h.2 x hx
theorem strs_num : ∀ f : Fo, f.strs.length ≤ 3 * f.num
  | .at_ a => by cases a <;> simp [Fo.strs, At.strs, Fo.num]
  | .not f => by have := strs_num f; rw [Fo.strs, Fo.num]; omega
  | .and f g => by have := strs_num f; have := strs_num g; rw [Fo.strs, Fo.num, List.length_append]; omega
  | .or f g => by have := strs_num f; have := strs_num g; rw [Fo.strs, Fo.num, List.length_append]; omega
  | .qu w x f => by have := strs_num f; rw [Fo.strs, Fo.num, List.length_cons]; omega
theorem num_small {f : Fo} {n : Nat} (h : f.dep ≤ n) (hn : n ≤ 12) : f.num ≤ 4096 := by
  have h1 := f.num_dep
  have h2 : 2 ^ f.dep ≤ 2 ^ 12 := Nat.pow_le_pow_right (by omega) (by omega)
  have : (2 : Nat) ^ 12 = 4096 := by decide
  omega
def GLaw : CG := fun ss ω q => ∃ ns : List Int, ss = [.d (.klst (ns.map .int))] ∧ ns.length ≤ 63 ∧ ω = [] ∧ ∀ ω', q (.d (.bl true)) ω'
theorem law_in {K : PySem.W.Frag} {G : CG} (h : ∀ ns : List Int, ns.length ≤ 63 → G [.d (.klst (ns.map .int))] [] fun s _ => s = .d (.bl true)) (H : Hp) (a : Addr) (ns : List Int) (hn : ns.length ≤ 63) (hS : SqL K H a (ns.map V.int)) : spG K G [.ref a] H (fun v _ => v = .bl true) fun _ _ _ => False := by
  have rs : ∀ ns : List Int, Rs K H (ns.map V.int) (ns.map D.int) := fun ns => by
    induction ns with
    | nil => exact .nil
    | cons n ns ih => exact .cons (.int n) ih
  refine ⟨H, [], [], _, _, fun _ => False, Same.refl H, ⟨List.nodup_nil, rfl, by simp, by simp⟩, .cons (show RS K [] H (.ref a) (.d (.klst (ns.map D.int))) from .klst hS (rs ns)) .nil, ⟨h ns hn, fun _ z => z⟩, fun s ω' v H' B' α' hq _ _ r => ?_, .never⟩
  subst hq
  exact r_bl r
end Y


set_option Elab.async false
set_option linter.all false
set_option maxRecDepth 100000
set_option maxHeartbeats 2000000
namespace Y
open PySem PySem.Spec PyProof.Rows L2 StX
local macro_rules | `(tactic| push_cast [$xs,*]) => `(tactic| repeat (first | (with_reducible first | refine g_c ?_ | (refine g_v ?_; first | refine g_var0 ?_ | refine g_var1 ?_ | refine g_var2 ?_ | refine g_var3 ?_ | refine g_var4 ?_ | refine g_var5 ?_ | refine g_var6 ?_ | refine g_var7 ?_ | refine g_var8 ?_ | refine g_var9 ?_ | refine g_var10 ?_ | refine g_var11 ?_ | refine g_var12 ?_ | refine g_var13 ?_ | refine g_var14 ?_ | refine g_var15 ?_)) | ((with_reducible refine lf_go fun Q hQ => ?_); simp only [seqD, revSeqD, spreadS, truD, slD, tyOk, appD, popD, extD, itemsOf, negD, putD, putC, sizeC, ty_non, ty_bl, ty_int, ty_str, ty_tup, ty_ktup, ty_lst, ty_pin, kitS, intO, addD, subD, mulD, modD, fdivD, shlD, shrD, bandD, borD, eq_ii, eq_ss, eq_bb, eq_tt, eq_ll, eq_tk, ordD, ltD, leD, gtD, geD, in_tup, in_ktup, in_lst, in_str, in_pin, inSq_str, inSq_int, isND, isNon, isBD, ix_tup, ix_ktup, ix_lst, ix_str, ix_pin, lookC, keyOf, keysOf, valS_nil, valS_cons, putS_nil, putS_cons, mergeS, kgetD, kixD, revD, wipeD, allD, len_tup, len_ktup, len_lst, len_str, len_pin, intD, absD, sumD, boolsD, tupD, listD, listP, dictC, lstOf, sqOf, allB, allI, allDk, ofString_inj, atI_0, atI_1, atI_2, atI_3, atI_1m1, atI_2m1, atI_2m2, atI_3m1, atI_3m2, atI_4m1, atI_4m2, cut_1, cut_2, cut_to1, cut_to2, cut_none, allD_map, List.map_cons, List.map_nil, List.length_cons, List.length_nil, List.length_append, List.length_map, List.length_set, List.replicate, List.nil_append, List.cons_append, List.append_nil, List.append_assoc, List.getElem?_cons_zero, List.getElem?_cons_succ, List.getElem?_nil, List.set_cons_zero, List.set_cons_succ, List.find?_cons, List.find?_nil, List.any_cons, List.any_nil, List.foldl_cons, List.foldl_nil, List.isEmpty_cons, List.isEmpty_nil, List.dropLast_concat, get_new, get_new1, get_new2, get_new3, set_new, set_new1, set_new2, set_new3, Option.map_some, Option.map_none, Option.isSome_some, Option.isSome_none, Option.some.injEq, Sum.inr.injEq, Sum.inl.injEq, reduceCtorEq, if_true, if_false, ite_true, ite_false, Bool.false_eq_true, Bool.not_true, Bool.not_false, Bool.false_xor, Bool.true_xor, Bool.xor_false, Bool.xor_true, decide_true, decide_false, decide_eq_true_eq, true_and, and_true, false_and, and_false, Bool.or_true, Bool.or_false, Bool.true_or, Bool.false_or, Bool.and_true, Bool.and_false, Bool.true_and, Bool.false_and, not_true_eq_false, not_false_eq_true, Nat.reduceAdd, Nat.reduceSub, Nat.reduceLeDiff, Nat.reduceLT, Nat.reduceEqDiff, Nat.reduceMul, Int.reduceLE, Int.reduceLT, Int.reduceEq, Int.reduceAdd, Int.reduceSub, Int.reduceNeg, Int.reduceMul, Int.reduceToNat, String.reduceEq, String.reduceBEq, reduceIte, Int.cast_ofNat_Int, Nat.zero_add, rng_0, rng_1, rng_2, rng_3, Nat.add_one_sub_one, List.reverse_nil, strsOf_nil, strsOf_cons, strsOf_map, intsOf_nil, intsOf_cons, intsOf_map, List.mem_cons, List.not_mem_nil, or_false, false_or, or_true, true_or, allB_map, allI_map, allB_mapf, allI_mapf, get_newm, allD_app, allD_mapf, isEmpty_snoc, $xs,*]; subst hQ; try dsimp only) | (with_reducible first | refine g_op ?_ | refine g_cons ?_ | refine g_nil ?_ | refine g_test ?_ | refine g_asB ?_ | refine g_true ?_ | refine g_false ?_ | refine g_dec ?_ | refine g_seq ?_ | refine g_un ?_ | refine g_b ?_ | refine g_nt ?_ | refine g_ifS ?_ | refine g_ret ?_ | refine g_next ?_ | (refine g_st ?_; first | refine g_set0 ?_ | refine g_set1 ?_ | refine g_set2 ?_ | refine g_set3 ?_ | refine g_set4 ?_ | refine g_set5 ?_ | refine g_set6 ?_ | refine g_set7 ?_ | refine g_set8 ?_ | refine g_set9 ?_ | refine g_set10 ?_ | refine g_set11 ?_ | refine g_set12 ?_ | refine g_set13 ?_ | refine g_set14 ?_ | refine g_set15 ?_) | (refine g_gn ?_; first | refine g_gn0 ?_ | refine g_gn1 ?_ | refine g_gn2 ?_ | refine g_gn3 ?_ | refine g_gn4 ?_ | refine g_gn5 ?_ | refine g_gn6 ?_ | refine g_gn7 ?_ | refine g_gn8 ?_ | refine g_gn9 ?_ | refine g_gn10 ?_ | refine g_gn11 ?_ | refine g_gn12 ?_ | refine g_gn13 ?_ | refine g_gn14 ?_ | refine g_gn15 ?_) | refine g_lf1 ?_ | refine g_lf2 ?_ | refine g_notTv ?_ | refine g_andT ?_ | refine g_orT ?_ | refine g_notT ?_ | refine g_mt ?_ | refine g_mt0 ?_ | refine g_drop ?_ | refine g_tup ?_ | refine g_lstD ?_ | refine g_lst ?_ | refine g_if ?_ | refine g_call ?_ | refine g_callG ?_ | refine g_callX ?_ | refine g_callGX ?_ | refine g_tru ?_ | refine g_andV ?_ | refine g_orV ?_ | refine g_notV ?_ | refine g_sl ?_ | refine g_noPart ?_ | refine g_part ?_ | refine g_partI ?_ | refine g_chain ?_ | refine g_putS ?_ | refine g_isi ?_ | refine g_star ?_ | refine g_for ?_ | refine g_lc ?_ | refine g_seqI ?_ | refine g_revI ?_ | refine g_rng1 ?_ | refine g_rng2 ?_ | refine g_gNil ?_ | refine g_gCons ?_ | refine g_gTup2 ?_ | refine g_gTup3 ?_ | refine g_gTup4 ?_ | refine g_yes ?_ | refine g_retN ?_ | refine g_break ?_ | refine g_cont ?_ | refine g_finD ?_ | refine g_finD2 ?_ | refine g_finP ?_ | refine g_lcB ?_ | refine g_lcNil ?_ | refine g_lcCons ?_ | refine g_forNil ?_ | refine g_forCons ?_ | refine g_rtP ?_ | refine g_rtPin ?_ | refine g_disp ?_ | refine g_pairs0 ?_ | refine g_pairsS ?_ | refine g_pairsI ?_ | refine g_newK ?_ | refine g_newT ?_ | refine g_loc rfl ?_) | ((with_reducible refine g_pos ?_ ?_); · first | assumption | rfl | omega) | ((with_reducible refine g_neg ?_ ?_); · first | assumption | omega | decide) | ((with_reducible refine And.intro ?_ ?_); · first | trivial | assumption | omega | exact Or.inr (by decide) | (dsimp only; omega) | (simp; done))))
local macro_rules | `(tactic| norm_cast) => `(tactic| ((first | with_reducible refine g_endsG ?_ | with_reducible refine g_endsP ?_); simp only [start_eq, List.map_cons, List.map_nil, List.replicate, List.length_cons, List.length_nil, Nat.reduceAdd, Nat.reduceSub, Nat.zero_add, List.cons_append, List.nil_append]))
theorem g_sortT {ps : List (List Int)} {ω : Sto} {q : S → Sto → Prop} (h0 : ∀ p0 r, ps = p0 :: r → p0 = []) (h : ∀ zs : List (List Int), SrtO.Srtd HT.lexLt zs → zs.Perm ps → q (.d (.lst (zs.map pathD))) ω) : Lf (sortTD [.d (.lst (ps.map pathD))] ω) q := ⟨ps, rfl, h0, h⟩
theorem Sh.paths_first (s : Sh) (p0 : List Int) (r : List (List Int)) (h : s.paths [] = p0 :: r) : p0 = [] := by
  cases s <;> simp [Sh.paths] at h <;> exact h.1
theorem pickP {l : List (List Int)} {z : Int} (h0 : 0 ≤ z) (h1 : z < l.length) : ∃ x ∈ l, atI (l.map pathD) z = some (pathD x) := by
  obtain ⟨i, rfl⟩ := Int.eq_ofNat_of_zero_le h0
  have hi : i < l.length := by omega
  exact ⟨l[i], List.getElem_mem hi, by rw [atI_nat]; simp [hi]⟩
section
variable {P : Program} {w : World} {K : PySem.W.Frag} {mg : Str → Option Value} {base : Heap}
theorem fn_law {k : Nat} {f0 : Addr} {fd0 : FuncData} (F : Fun K "law" "law" d_law f0 fd0) (bu : Bu mg) (c__law_tape : Cal P w K mg base CX0 k "_law_tape" ["script"] (spG K GTape)) (c__law_take : Cal P w K mg base CX0 k "_law_take" ["tape", "many"] (spG K GTake)) (c__law_kind : Cal P w K mg base CX0 k "_law_kind" ["tape"] (spG K GKind)) (c__law_shape : Cal P w K mg base CX0 k "_law_shape" ["tape", "kind", "count"] (spG K (GShape 5))) (c__law_paths : Cal P w K mg base CX0 k "_law_paths" ["shape", "path"] (spP K (CPaths 61))) (c__law_matrix : Cal P w K mg base CX0 k "_law_matrix" ["tape", "kind", "singles", "sets", "depth"] (spG K (GMatrix 5)))
    (c_plain : Cal P w K mg base CX0 k "plain" ["formula"] (spP K CPlain)) (c_is_plain : Cal P w K mg base CX0 k "is_plain" ["formula"] (spP K CIsPlain)) (c__law_is_plain : Cal P w K mg base CX0 k "_law_is_plain" ["formula"] (spP K (CLPlain 12))) (c__law_same : Cal P w K mg base CX0 k "_law_same" ["actual", "expected"] (spP K (CSame 1))) (c__law_atoms : Cal P w K mg base CX0 k "_law_atoms" ["formula"] (spP K (CAtoms 12))) (c__law_names : Cal P w K mg base CX0 k "_law_names" ["formula"] (spP K (CNames 12))) (c__law_holds : Cal P w K mg base CX0 k "_law_holds" ["formula", "shape", "values"] (spG K (GHolds 12))) :
    FnOk P w K mg base CX0 (k + 1) f0 fd0 ["script"] (spG K GLaw) := by
  refine fnG F sc_law (fun ss ω q h => ?_) fun cdv A outer s H E ss ω q hr h => ?_
  · obtain ⟨ns, rfl, _⟩ := h
    rfl
  have hu := hu_of hr
  have hu64 := hr.units
  have hu65 := room65 hr
  obtain ⟨ns, rfl, hn, rfl, hq⟩ := h
  refine ⟨_, _, (ys_cons (y_set (i := 1) sc_law.nd rfl (y_calG c__law_tape hr (ya_cons (y_var 0) ya_nil)))
      (ys_cons (y_set (i := 2) sc_law.nd rfl (y_calG c__law_kind hr (ya_cons (y_var 1) ya_nil)))
      (ys_cons (y_set (i := 3) sc_law.nd rfl (y_calG c__law_shape hr (ya_cons (y_var 1) (ya_cons (y_var 2) (ya_cons (y_add y_int (y_calG c__law_take hr (ya_cons (y_var 1) (ya_cons y_int ya_nil)))) ya_nil)))))
      (ys_cons (y_set (i := 4) sc_law.nd rfl (y_sortedT bu (in2_units hr) (ya_cons (y_cal c__law_paths hr (ya_cons (y_var 3) (ya_cons (y_tup ya_nil) ya_nil))) ya_nil)))
      (ys_cons (y_set (i := 5) sc_law.nd rfl (y_disp (ypps_cons y_str (y_ix hu (y_var 4) (y_calG c__law_take hr (ya_cons (y_var 1) (ya_cons (y_len bu (ya_cons (y_var 4) ya_nil)) ya_nil))) (fun _ _ => rfl)) (ypps_cons y_str (y_tupC bu (ya_cons (y_lcD (own := [("path", 6)]) rfl sc_law.nd (yi_seq (y_var 4)) (blkOk_by (own := [("path", 6)]) (N := ["script", "tape", "kind", "shape", "listed", "values", "path", "formula", "found", "one"]) (sc := defScope d_law) (by decide +kernel)) go_name (fun _ _ _ _ _ => (yg_name (i := 6) sc_law.nd rfl)) (fun _ _ _ _ _ => (yts_one (yt_cmp (op_eqY hu64) refO_eq (y_calG c__law_take hr (ya_cons (y_var 1) (ya_cons y_int ya_nil))) y_int (nomark _)))) (fun _ _ _ _ _ => (y_var 6))) ya_nil)) ypps_nil)) (by rfl) (by rfl) (fun z => by cases z) (by decide)))
      (ys_cons (y_set (i := 7) sc_law.nd rfl (y_calG c__law_matrix hr (ya_cons (y_var 1) (ya_cons (y_var 2) (ya_cons (y_lstD (ya_cons y_str ya_nil)) (ya_cons (y_lstD (ya_cons y_str ya_nil)) (ya_cons y_int ya_nil)))))))
      (ys_cons (y_ifS (yt_cmp (op_eqY hu64) refO_eq (y_calG c__law_take hr (ya_cons (y_var 1) (ya_cons y_int ya_nil))) y_int (nomark _)) (ys_one (y_set (i := 7) sc_law.nd rfl (y_tup (ya_cons y_str (ya_cons (y_tup (ya_cons (y_ix hu (y_lstD (ya_cons y_str (ya_cons y_str ya_nil))) (y_calG c__law_take hr (ya_cons (y_var 1) (ya_cons y_int ya_nil))) (fun _ _ => rfl)) (ya_cons y_str (ya_cons (y_var 7) ya_nil)))) ya_nil))))) ys_nil)
      (ys_cons (y_set (i := 8) sc_law.nd rfl (y_cal c_plain hr (ya_cons (y_var 7) ya_nil)))
      (ys_cons (y_ifS (yt_w (yw_or (yt_not (yt_cmp op_isTr refO_isTr (y_cal c_is_plain hr (ya_cons (y_var 8) ya_nil)) y_bl (nomark _))) (yw_or (yt_not (yt_tru (y_cal c__law_is_plain hr (ya_cons (y_var 8) ya_nil)))) (yw_or1 (yt_not (yt_tru (y_cal c__law_same hr (ya_cons (y_cal c_is_plain hr (ya_cons (y_var 7) ya_nil)) (ya_cons (y_cal c__law_is_plain hr (ya_cons (y_var 7) ya_nil)) ya_nil))))))))) (ys_one (y_ret y_bl)) ys_nil)
      (ys_cons (y_ifS (yt_w (yw_or (yt_cmp op_gtY refO_ord (y_cal c__law_atoms hr (ya_cons (y_var 8) ya_nil)) (y_cal c__law_atoms hr (ya_cons (y_var 7) ya_nil)) (nomark _)) (yw_or1 (yt_cmp (op_neY hu64) refO_ne (y_lcD (own := [("one", 9)]) rfl sc_law.nd (yi_seq (y_cal c__law_names hr (ya_cons (y_var 8) ya_nil))) (blkOk_by (own := [("one", 9)]) (N := ["script", "tape", "kind", "shape", "listed", "values", "path", "formula", "found", "one"]) (sc := defScope d_law) (by decide +kernel)) go_name (fun _ _ _ _ _ => (yg_name (i := 9) sc_law.nd rfl)) (fun _ _ _ _ _ => (yts_one (yt_cmp (op_notInY hu65) refO_in (y_var 9) (y_cal c__law_names hr (ya_cons (y_var 7) ya_nil)) (by rfl)))) (fun _ _ _ _ _ => (y_var 9))) (y_lstD ya_nil) (nomark _))))) (ys_one (y_ret y_bl)) ys_nil)
      (ys_one (y_ret (y_cal c__law_same hr (ya_cons (y_calG c__law_holds hr (ya_cons (y_var 8) (ya_cons (y_var 3) (ya_cons (y_var 5) ya_nil)))) (ya_cons (y_calG c__law_holds hr (ya_cons (y_var 7) (ya_cons (y_var 3) (ya_cons (y_var 5) ya_nil)))) ya_nil))))))))))))))), ?_⟩
  norm_cast
  push_cast []
  refine ⟨ns, rfl, hn, fun c0 hc0 => ?_⟩
  push_cast []
  refine ⟨0, c0, rfl, rfl, hc0, fun ways labels c1 hk hc1 => ?_⟩
  rw [List.nil_append, List.set_cons_zero]
  push_cast []
  refine ⟨0, 4, c1, rfl, rfl, hc1, by omega, by omega, fun z c2 hc2 z0 z1 => ?_⟩
  rw [List.set_cons_zero]
  obtain ⟨n, rfl⟩ := Int.eq_ofNat_of_zero_le z0
  push_cast []
  refine ⟨0, c2, ways, labels, 1 + n, by simp [kindD], by omega, by omega, rfl, hc2, hk, fun sh c3 hsz hkd hc3 => ?_⟩
  rw [List.set_cons_zero]
  push_cast []
  refine ⟨sh, [], ways, labels, rfl, by omega, by omega, by simp; omega, hk, hkd, ?_⟩
  have hpl := sh.paths_len []
  push_cast []
  refine g_sortT sh.paths_first fun zs _ hperm => ?_
  have hzl : zs.length = 1 + n := by rw [hperm.length_eq, hpl, hsz]
  push_cast []
  refine ⟨0, _, c3, rfl, rfl, hc3, by omega, by omega, fun z4 c4 hc4 y0 y1 => ?_⟩
  rw [List.set_cons_zero]
  obtain ⟨p, mp, ep⟩ := pickP y0 y1
  have mp2 := hperm.mem_iff.mp mp
  push_cast [ep]
  refine lc_ind (fun is acc ω' => ∃ (r done : List (List Int)) (c : Cell), is = (r.map pathD).map S.d ∧ acc = (done.map pathD).map S.d ∧ Tp c ∧ ω' = [c] ∧ done.length + r.length ≤ 1 + n) ⟨zs, [], c4, rfl, rfl, hc4, rfl, by simp; omega⟩ (fun s0 r0 acc ω' kk h hk2 => ?_) (fun acc ω' h => ?_)
  · obtain ⟨r, done, c, e1, rfl, hc, rfl, e2⟩ := h
    cases r with
    | nil => cases e1
    | cons u r =>
      rw [List.map_cons, List.map_cons] at e1
      obtain ⟨rfl, rfl⟩ := List.cons.inj e1
      rw [List.length_cons] at e2
      push_cast []
      refine ⟨0, 2, c, rfl, rfl, hc, by omega, by omega, fun z5 c5 hc5 x0 x1 => ?_⟩
      rw [List.set_cons_zero]
      by_cases h1 : z5 = 1
      · push_cast []
        refine ⟨by rw [List.length_map, List.length_map]; omega, trivial, hk2 _ _ ⟨r, done ++ [u], c5, rfl, by simp, hc5, rfl, by simp; omega⟩⟩
      · push_cast []
        exact hk2 _ _ ⟨r, done, c5, rfl, rfl, hc5, rfl, by omega⟩
  · obtain ⟨r, done, c, e1, rfl, hc, rfl, e2⟩ := h
    push_cast []
    have nx1 : NamesOk ["x"] := ⟨by simp, fun y hy => by rw [List.mem_singleton.mp hy]; exact small_ok (by simp [smalls])⟩
    have nX1 : NamesOk ["X"] := ⟨by simp, fun y hy => by rw [List.mem_singleton.mp hy]; exact cap_ok (by simp [capitals])⟩
    refine ⟨0, c, ways, labels, ["x"], ["X"], 4, rfl, by omega, by simp, rfl, hc, hk, nx1, nX1, fun f c6 hf hd hc6 => ?_⟩
    rw [List.set_cons_zero]
    refine seq_go fun N hN => ?_
    have rest : ∀ (F : Fo) c, F.In ways labels ["x"] ["X"] → F.dep ≤ 7 → Tp c → N [some (.d (.klst (ns.map .int))), some (.pin 0), some (.d (kindD ways labels)), some (.d sh.d), some (.d (.lst (zs.map pathD))), some (.pin 1), none, some (.d F.d), none, none] [c, .dK [(.inr "x", .d (pathD p)), (.inr "X", .d (.tup (done.map pathD)))]] := by
      intro F c hF hd hc
      subst hN
      have hFp := (in_pl F hF).1
      have hdp := (dep_pl F).1
      have clF := Fo.In.cl hk nx1.2 nX1.2 hF
      have clP := Fo.In.cl hk nx1.2 nX1.2 hFp
      have nF := num_small (f := F) hd (by omega)
      have nP := num_small (f := (pl F).1) (n := 8) (by omega) (by omega)
      have sF := strs_num F
      have e1 := (isPl_pl F).1
      have e3 := (atoms_pl F).1
      have e4 := (strs_pl F).1
      have gb : ∀ b, goodD 1 (.bl b) = true := fun b => rfl
      have hval : ValOk sh [(.inr "x", .d (pathD p)), (.inr "X", .d (.tup (done.map pathD)))] ["x"] ["X"] (fun _ => p) (fun _ => done) := ⟨fun y hy => by
          rw [List.mem_singleton.mp hy]; exact ⟨rfl, mp2⟩, fun y hy => by
          rw [List.mem_singleton.mp hy, valS_cons, valS_cons, if_neg (by simp [ofString_inj]), if_pos rfl]; exact ⟨rfl, by omega⟩, fun y hy => by
          rw [List.mem_singleton.mp hy]; simp [smalls], fun y hy => by
          rw [List.mem_singleton.mp hy]; simp [capitals]⟩
      have ok0 := ok_nilL
      push_cast []
      refine ⟨F, rfl, by omega, ?_⟩
      push_cast []
      refine ⟨(pl F).1, rfl, by omega, ?_⟩
      rw [e1]
      push_cast []
      refine ⟨(pl F).1, rfl, by omega, by omega, clP, ?_⟩
      rw [e1]
      push_cast []
      refine ⟨F, rfl, by omega, ?_⟩
      push_cast []
      refine ⟨F, rfl, by omega, by omega, clF, ?_⟩
      push_cast []
      refine ⟨_, _, 1, rfl, rfl, rfl, by omega, ?_⟩
      rw [sameD]
      push_cast []
      refine ⟨(pl F).1, rfl, by omega, by omega, clP, ?_⟩
      push_cast []
      refine ⟨F, rfl, by omega, by omega, clF, ?_⟩
      rw [e3]
      push_cast []
      refine ⟨(pl F).1, rfl, by omega, by rw [e4]; omega, ?_⟩
      rw [e4]
      push_cast []
      refine lc_filG (ts := F.strs) D.str (fun _ => none) (by omega) (fun x hx acc kk h1 h2 => ?_) ?_
      · push_cast []
        refine ⟨F, rfl, by omega, by omega, ?_⟩
        push_cast [hx]
        exact h2
      · rw [show F.strs.filterMap (fun _ => (none : Option D)) = [] by simp]
        push_cast [ok0]
        refine ⟨(pl F).1, sh, 1, _, ways, labels, ["x"], ["X"], _, _, rfl, by omega, rfl, hval, hFp, by omega, by simp; omega, hk, hkd, fun τ => ?_⟩
        push_cast []
        refine ⟨F, sh, 1, _, ways, labels, ["x"], ["X"], _, _, rfl, by omega, rfl, hval, hF, by omega, by simp; omega, hk, hkd, fun τ2 => ?_⟩
        rw [(ev_pl sh F _ _).1]
        push_cast []
        refine ⟨_, _, 1, rfl, rfl, rfl, by omega, ?_⟩
        rw [sameD, decide_eq_true rfl]
        exact hq _
    push_cast []
    refine ⟨0, 2, c6, rfl, rfl, hc6, by omega, by omega, fun z6 c7 hc7 w0 w1 => ?_⟩
    rw [List.set_cons_zero]
    by_cases h6 : z6 = 0
    · push_cast []
      refine ⟨0, 2, c7, rfl, rfl, hc7, by omega, by omega, fun z7 c8 hc8 v0 v1 => ?_⟩
      rw [List.set_cons_zero]
      have hX : f.In ways labels ["x"] ([("X" : Str)] ++ [("X" : Str)]) := Fo.In.mono (fun x h => h) (fun x h => by simp at h ⊢; exact h) hf
      have hz : z7 = 0 ∨ z7 = 1 := by omega
      rcases hz with rfl | rfl
      · push_cast []
        exact rest (.not (.qu .someset "X" f)) c8 ⟨by simp [capitals], hX⟩ (by rw [Fo.dep, Fo.dep]; omega) hc8
      · push_cast []
        exact rest (.not (.qu .allset "X" f)) c8 ⟨by simp [capitals], hX⟩ (by rw [Fo.dep, Fo.dep]; omega) hc8
    · push_cast []
      exact rest f c7 hf (by omega) hc7
end
end Y


set_option Elab.async false
set_option linter.all false
set_option maxRecDepth 100000
set_option maxHeartbeats 4000000
namespace Y
open PySem PySem.Spec PyProof.Rows L2 LamX
theorem all_mk {l : PySem.W.OpenLaw} {w : World} {K : PySem.W.Frag} {h : Heap} {mg : Str → Option Value} {fa aINSIDE aOPPOSITES : Addr} (X : K.In h) (G : h.Ns mainGlobals mg) (hfa : mg "law" = some (.ref fa))
    {f0 f1 f2 f3 f4 f5 f6 f7 f8 f9 f10 f11 f12 f13 f14 f15 f16 f17 f18 f19 f20 f21 f22 f23 f24 f25 : Addr} {od0 an0 od1 an1 od2 an2 od3 an3 od4 an4 od5 an5 od6 an6 od7 an7 od8 an8 od9 an9 od10 an10 od11 an11 od12 an12 od13 an13 od14 an14 od15 an15 od16 an16 od17 an17 od18 an18 od19 an19 od20 an20 od21 an21 od22 an22 od23 an23 od24 an24 od25 an25 : Option Addr} {sl0 sl1 sl2 sl3 sl4 sl5 sl6 sl7 sl8 sl9 sl10 sl11 sl12 sl13 sl14 sl15 sl16 sl17 sl18 sl19 sl20 sl21 sl22 sl23 sl24 sl25 : Array (Option Value)} {oc0 kV0 dc0 pm0 ct0 cd0 oc1 kV1 dc1 pm1 ct1 cd1 oc2 kV2 dc2 pm2 ct2 cd2 oc3 kV3 dc3 pm3 ct3 cd3 oc4 kV4 dc4 pm4 ct4 cd4 oc5 kV5 dc5 pm5 ct5 cd5 oc6 kV6 dc6 pm6 ct6 cd6 oc7 kV7 dc7 pm7 ct7 cd7 oc8 kV8 dc8 pm8 ct8 cd8 oc9 kV9 dc9 pm9 ct9 cd9 oc10 kV10 dc10 pm10 ct10 cd10 oc11 kV11 dc11 pm11 ct11 cd11 oc12 kV12 dc12 pm12 ct12 cd12 oc13 kV13 dc13 pm13 ct13 cd13 oc14 kV14 dc14 pm14 ct14 cd14 oc15 kV15 dc15 pm15 ct15 cd15 oc16 kV16 dc16 pm16 ct16 cd16 oc17 kV17 dc17 pm17 ct17 cd17 oc18 kV18 dc18 pm18 ct18 cd18 oc19 kV19 dc19 pm19 ct19 cd19 oc20 kV20 dc20 pm20 ct20 cd20 oc21 kV21 dc21 pm21 ct21 cd21 oc22 kV22 dc22 pm22 ct22 cd22 oc23 kV23 dc23 pm23 ct23 cd23 oc24 kV24 dc24 pm24 ct24 cd24 oc25 kV25 dc25 pm25 ct25 cd25 : Value} {esINSIDE : Array DictEntry} {nINSIDE : Nat} {esOPPOSITES : Array DictEntry} {nOPPOSITES : Nat} {t_INSIDE_not t_INSIDE_and t_INSIDE_or t_INSIDE_some t_INSIDE_all t_INSIDE_someset t_INSIDE_allset t_INSIDE_then t_INSIDE_either t_INSIDE_many t_OPPOSITES_and t_OPPOSITES_or t_OPPOSITES_some t_OPPOSITES_all t_OPPOSITES_someset t_OPPOSITES_allset : Tok}
    (a0 : PySem.W.nsIn K mainGlobals "inner" = some (some (.ref f0))) (l0 : K.lookup f0 = some ⟨oc0, od0, .func (PySem.W.fnOf "inner" "inner" (defArgs d_inner) (defBody d_inner) (defScope d_inner) .none kV0 dc0 pm0 an0 cd0 ct0), sl0⟩) (c0 : PySem.W.codeIn K cd0 "inner" = true) (k0 : PySem.W.keepIn K (.ref f0) = true)
    (a1 : PySem.W.nsIn K mainGlobals "outer" = some (some (.ref f1))) (l1 : K.lookup f1 = some ⟨oc1, od1, .func (PySem.W.fnOf "outer" "outer" (defArgs d_outer) (defBody d_outer) (defScope d_outer) .none kV1 dc1 pm1 an1 cd1 ct1), sl1⟩) (c1 : PySem.W.codeIn K cd1 "outer" = true) (k1 : PySem.W.keepIn K (.ref f1) = true)
    (a2 : PySem.W.nsIn K mainGlobals "all_parts" = some (some (.ref f2))) (l2 : K.lookup f2 = some ⟨oc2, od2, .func (PySem.W.fnOf "all_parts" "all_parts" (defArgs d_all_parts) (defBody d_all_parts) (defScope d_all_parts) .none kV2 dc2 pm2 an2 cd2 ct2), sl2⟩) (c2 : PySem.W.codeIn K cd2 "all_parts" = true) (k2 : PySem.W.keepIn K (.ref f2) = true)
    (a3 : PySem.W.nsIn K mainGlobals "built" = some (some (.ref f3))) (l3 : K.lookup f3 = some ⟨oc3, od3, .func (PySem.W.fnOf "built" "built" (defArgs d_built) (defBody d_built) (defScope d_built) .none kV3 dc3 pm3 an3 cd3 ct3), sl3⟩) (c3 : PySem.W.codeIn K cd3 "built" = true) (k3 : PySem.W.keepIn K (.ref f3) = true)
    (a4 : PySem.W.nsIn K mainGlobals "plain" = some (some (.ref f4))) (l4 : K.lookup f4 = some ⟨oc4, od4, .func (PySem.W.fnOf "plain" "plain" (defArgs d_plain) (defBody d_plain) (defScope d_plain) .none kV4 dc4 pm4 an4 cd4 ct4), sl4⟩) (c4 : PySem.W.codeIn K cd4 "plain" = true) (k4 : PySem.W.keepIn K (.ref f4) = true)
    (a5 : PySem.W.nsIn K mainGlobals "is_plain" = some (some (.ref f5))) (l5 : K.lookup f5 = some ⟨oc5, od5, .func (PySem.W.fnOf "is_plain" "is_plain" (defArgs d_is_plain) (defBody d_is_plain) (defScope d_is_plain) .none kV5 dc5 pm5 an5 cd5 ct5), sl5⟩) (c5 : PySem.W.codeIn K cd5 "is_plain" = true) (k5 : PySem.W.keepIn K (.ref f5) = true)
    (a6 : PySem.W.nsIn K mainGlobals "_both_above" = some (some (.ref f6))) (l6 : K.lookup f6 = some ⟨oc6, od6, .func (PySem.W.fnOf "_both_above" "_both_above" (defArgs d__both_above) (defBody d__both_above) (defScope d__both_above) .none kV6 dc6 pm6 an6 cd6 ct6), sl6⟩) (c6 : PySem.W.codeIn K cd6 "_both_above" = true) (k6 : PySem.W.keepIn K (.ref f6) = true)
    (a7 : PySem.W.nsIn K mainGlobals "_law_tape" = some (some (.ref f7))) (l7 : K.lookup f7 = some ⟨oc7, od7, .func (PySem.W.fnOf "_law_tape" "_law_tape" (defArgs d__law_tape) (defBody d__law_tape) (defScope d__law_tape) .none kV7 dc7 pm7 an7 cd7 ct7), sl7⟩) (c7 : PySem.W.codeIn K cd7 "_law_tape" = true) (k7 : PySem.W.keepIn K (.ref f7) = true)
    (a8 : PySem.W.nsIn K mainGlobals "_law_take" = some (some (.ref f8))) (l8 : K.lookup f8 = some ⟨oc8, od8, .func (PySem.W.fnOf "_law_take" "_law_take" (defArgs d__law_take) (defBody d__law_take) (defScope d__law_take) .none kV8 dc8 pm8 an8 cd8 ct8), sl8⟩) (c8 : PySem.W.codeIn K cd8 "_law_take" = true) (k8 : PySem.W.keepIn K (.ref f8) = true)
    (a9 : PySem.W.nsIn K mainGlobals "_law_is_integer" = some (some (.ref f9))) (l9 : K.lookup f9 = some ⟨oc9, od9, .func (PySem.W.fnOf "_law_is_integer" "_law_is_integer" (defArgs d__law_is_integer) (defBody d__law_is_integer) (defScope d__law_is_integer) .none kV9 dc9 pm9 an9 cd9 ct9), sl9⟩) (c9 : PySem.W.codeIn K cd9 "_law_is_integer" = true) (k9 : PySem.W.keepIn K (.ref f9) = true)
    (a10 : PySem.W.nsIn K mainGlobals "_law_same_items" = some (some (.ref f10))) (l10 : K.lookup f10 = some ⟨oc10, od10, .func (PySem.W.fnOf "_law_same_items" "_law_same_items" (defArgs d__law_same_items) (defBody d__law_same_items) (defScope d__law_same_items) .none kV10 dc10 pm10 an10 cd10 ct10), sl10⟩) (c10 : PySem.W.codeIn K cd10 "_law_same_items" = true) (k10 : PySem.W.keepIn K (.ref f10) = true)
    (a11 : PySem.W.nsIn K mainGlobals "_law_same" = some (some (.ref f11))) (l11 : K.lookup f11 = some ⟨oc11, od11, .func (PySem.W.fnOf "_law_same" "_law_same" (defArgs d__law_same) (defBody d__law_same) (defScope d__law_same) .none kV11 dc11 pm11 an11 cd11 ct11), sl11⟩) (c11 : PySem.W.codeIn K cd11 "_law_same" = true) (k11 : PySem.W.keepIn K (.ref f11) = true)
    (a12 : PySem.W.nsIn K mainGlobals "_law_kind" = some (some (.ref f12))) (l12 : K.lookup f12 = some ⟨oc12, od12, .func (PySem.W.fnOf "_law_kind" "_law_kind" (defArgs d__law_kind) (defBody d__law_kind) (defScope d__law_kind) .none kV12 dc12 pm12 an12 cd12 ct12), sl12⟩) (c12 : PySem.W.codeIn K cd12 "_law_kind" = true) (k12 : PySem.W.keepIn K (.ref f12) = true)
    (a13 : PySem.W.nsIn K mainGlobals "_law_shape" = some (some (.ref f13))) (l13 : K.lookup f13 = some ⟨oc13, od13, .func (PySem.W.fnOf "_law_shape" "_law_shape" (defArgs d__law_shape) (defBody d__law_shape) (defScope d__law_shape) .none kV13 dc13 pm13 an13 cd13 ct13), sl13⟩) (c13 : PySem.W.codeIn K cd13 "_law_shape" = true) (k13 : PySem.W.keepIn K (.ref f13) = true)
    (a14 : PySem.W.nsIn K mainGlobals "_law_paths" = some (some (.ref f14))) (l14 : K.lookup f14 = some ⟨oc14, od14, .func (PySem.W.fnOf "_law_paths" "_law_paths" (defArgs d__law_paths) (defBody d__law_paths) (defScope d__law_paths) .none kV14 dc14 pm14 an14 cd14 ct14), sl14⟩) (c14 : PySem.W.codeIn K cd14 "_law_paths" = true) (k14 : PySem.W.keepIn K (.ref f14) = true)
    (a15 : PySem.W.nsIn K mainGlobals "_law_part" = some (some (.ref f15))) (l15 : K.lookup f15 = some ⟨oc15, od15, .func (PySem.W.fnOf "_law_part" "_law_part" (defArgs d__law_part) (defBody d__law_part) (defScope d__law_part) .none kV15 dc15 pm15 an15 cd15 ct15), sl15⟩) (c15 : PySem.W.codeIn K cd15 "_law_part" = true) (k15 : PySem.W.keepIn K (.ref f15) = true)
    (a16 : PySem.W.nsIn K mainGlobals "_law_atom" = some (some (.ref f16))) (l16 : K.lookup f16 = some ⟨oc16, od16, .func (PySem.W.fnOf "_law_atom" "_law_atom" (defArgs d__law_atom) (defBody d__law_atom) (defScope d__law_atom) .none kV16 dc16 pm16 an16 cd16 ct16), sl16⟩) (c16 : PySem.W.codeIn K cd16 "_law_atom" = true) (k16 : PySem.W.keepIn K (.ref f16) = true)
    (a17 : PySem.W.nsIn K mainGlobals "_law_matrix" = some (some (.ref f17))) (l17 : K.lookup f17 = some ⟨oc17, od17, .func (PySem.W.fnOf "_law_matrix" "_law_matrix" (defArgs d__law_matrix) (defBody d__law_matrix) (defScope d__law_matrix) .none kV17 dc17 pm17 an17 cd17 ct17), sl17⟩) (c17 : PySem.W.codeIn K cd17 "_law_matrix" = true) (k17 : PySem.W.keepIn K (.ref f17) = true)
    (a18 : PySem.W.nsIn K mainGlobals "_law_subsets" = some (some (.ref f18))) (l18 : K.lookup f18 = some ⟨oc18, od18, .func (PySem.W.fnOf "_law_subsets" "_law_subsets" (defArgs d__law_subsets) (defBody d__law_subsets) (defScope d__law_subsets) .none kV18 dc18 pm18 an18 cd18 ct18), sl18⟩) (c18 : PySem.W.codeIn K cd18 "_law_subsets" = true) (k18 : PySem.W.keepIn K (.ref f18) = true)
    (a19 : PySem.W.nsIn K mainGlobals "_law_atom_holds" = some (some (.ref f19))) (l19 : K.lookup f19 = some ⟨oc19, od19, .func (PySem.W.fnOf "_law_atom_holds" "_law_atom_holds" (defArgs d__law_atom_holds) (defBody d__law_atom_holds) (defScope d__law_atom_holds) .none kV19 dc19 pm19 an19 cd19 ct19), sl19⟩) (c19 : PySem.W.codeIn K cd19 "_law_atom_holds" = true) (k19 : PySem.W.keepIn K (.ref f19) = true)
    (a20 : PySem.W.nsIn K mainGlobals "_law_holds" = some (some (.ref f20))) (l20 : K.lookup f20 = some ⟨oc20, od20, .func (PySem.W.fnOf "_law_holds" "_law_holds" (defArgs d__law_holds) (defBody d__law_holds) (defScope d__law_holds) .none kV20 dc20 pm20 an20 cd20 ct20), sl20⟩) (c20 : PySem.W.codeIn K cd20 "_law_holds" = true) (k20 : PySem.W.keepIn K (.ref f20) = true)
    (a21 : PySem.W.nsIn K mainGlobals "_law_parts" = some (some (.ref f21))) (l21 : K.lookup f21 = some ⟨oc21, od21, .func (PySem.W.fnOf "_law_parts" "_law_parts" (defArgs d__law_parts) (defBody d__law_parts) (defScope d__law_parts) .none kV21 dc21 pm21 an21 cd21 ct21), sl21⟩) (c21 : PySem.W.codeIn K cd21 "_law_parts" = true) (k21 : PySem.W.keepIn K (.ref f21) = true)
    (a22 : PySem.W.nsIn K mainGlobals "_law_is_plain" = some (some (.ref f22))) (l22 : K.lookup f22 = some ⟨oc22, od22, .func (PySem.W.fnOf "_law_is_plain" "_law_is_plain" (defArgs d__law_is_plain) (defBody d__law_is_plain) (defScope d__law_is_plain) .none kV22 dc22 pm22 an22 cd22 ct22), sl22⟩) (c22 : PySem.W.codeIn K cd22 "_law_is_plain" = true) (k22 : PySem.W.keepIn K (.ref f22) = true)
    (a23 : PySem.W.nsIn K mainGlobals "_law_atoms" = some (some (.ref f23))) (l23 : K.lookup f23 = some ⟨oc23, od23, .func (PySem.W.fnOf "_law_atoms" "_law_atoms" (defArgs d__law_atoms) (defBody d__law_atoms) (defScope d__law_atoms) .none kV23 dc23 pm23 an23 cd23 ct23), sl23⟩) (c23 : PySem.W.codeIn K cd23 "_law_atoms" = true) (k23 : PySem.W.keepIn K (.ref f23) = true)
    (a24 : PySem.W.nsIn K mainGlobals "_law_names" = some (some (.ref f24))) (l24 : K.lookup f24 = some ⟨oc24, od24, .func (PySem.W.fnOf "_law_names" "_law_names" (defArgs d__law_names) (defBody d__law_names) (defScope d__law_names) .none kV24 dc24 pm24 an24 cd24 ct24), sl24⟩) (c24 : PySem.W.codeIn K cd24 "_law_names" = true) (k24 : PySem.W.keepIn K (.ref f24) = true)
    (a25 : PySem.W.nsIn K mainGlobals "law" = some (some (.ref f25))) (l25 : K.lookup f25 = some ⟨oc25, od25, .func (PySem.W.fnOf "law" "law" (defArgs d_law) (defBody d_law) (defScope d_law) .none kV25 dc25 pm25 an25 cd25 ct25), sl25⟩) (c25 : PySem.W.codeIn K cd25 "law" = true) (k25 : PySem.W.keepIn K (.ref f25) = true)
    (z_abs : PySem.W.nsIn K mainGlobals "abs" = some none)
    (z_int : PySem.W.nsIn K mainGlobals "int" = some none)
    (z_len : PySem.W.nsIn K mainGlobals "len" = some none)
    (z_isinstance : PySem.W.nsIn K mainGlobals "isinstance" = some none)
    (z_bool : PySem.W.nsIn K mainGlobals "bool" = some none)
    (z_str : PySem.W.nsIn K mainGlobals "str" = some none)
    (z_tuple : PySem.W.nsIn K mainGlobals "tuple" = some none)
    (z_list : PySem.W.nsIn K mainGlobals "list" = some none)
    (z_dict : PySem.W.nsIn K mainGlobals "dict" = some none)
    (z_range : PySem.W.nsIn K mainGlobals "range" = some none)
    (z_all : PySem.W.nsIn K mainGlobals "all" = some none)
    (z_any : PySem.W.nsIn K mainGlobals "any" = some none)
    (z_sum : PySem.W.nsIn K mainGlobals "sum" = some none)
    (z_max : PySem.W.nsIn K mainGlobals "max" = some none)
    (z_min : PySem.W.nsIn K mainGlobals "min" = some none)
    (z_sorted : PySem.W.nsIn K mainGlobals "sorted" = some none)
    (z_set : PySem.W.nsIn K mainGlobals "set" = some none)
    (z_reversed : PySem.W.nsIn K mainGlobals "reversed" = some none)
    (z_zip : PySem.W.nsIn K mainGlobals "zip" = some none)
    (z_enumerate : PySem.W.nsIn K mainGlobals "enumerate" = some none)
    (g_INSIDE : PySem.W.nsIn K mainGlobals "INSIDE" = some (some (.ref aINSIDE))) (l_INSIDE : K.lookup aINSIDE = some ⟨.type "dict", none, .dict esINSIDE nINSIDE, #[]⟩) (h_INSIDE : PySem.W.KeysLit w.params esINSIDE.toList) (s_INSIDE : (aINSIDE == sysModules) = false)
    (w_INSIDE_true : PySem.W.nsIn K aINSIDE "true" = some none)
    (w_INSIDE_label : PySem.W.nsIn K aINSIDE "label" = some none)
    (w_INSIDE_child : PySem.W.nsIn K aINSIDE "child" = some none)
    (w_INSIDE_below : PySem.W.nsIn K aINSIDE "below" = some none)
    (w_INSIDE_same : PySem.W.nsIn K aINSIDE "same" = some none)
    (w_INSIDE_top : PySem.W.nsIn K aINSIDE "top" = some none)
    (w_INSIDE_in : PySem.W.nsIn K aINSIDE "in" = some none)
    (w_INSIDE_inside : PySem.W.nsIn K aINSIDE "inside" = some none)
    (w_INSIDE_not : PySem.W.nsIn K aINSIDE "not" = some (some (.int 1 t_INSIDE_not)))
    (w_INSIDE_and : PySem.W.nsIn K aINSIDE "and" = some (some (.int 1 t_INSIDE_and)))
    (w_INSIDE_or : PySem.W.nsIn K aINSIDE "or" = some (some (.int 1 t_INSIDE_or)))
    (w_INSIDE_some : PySem.W.nsIn K aINSIDE "some" = some (some (.int 2 t_INSIDE_some)))
    (w_INSIDE_all : PySem.W.nsIn K aINSIDE "all" = some (some (.int 2 t_INSIDE_all)))
    (w_INSIDE_someset : PySem.W.nsIn K aINSIDE "someset" = some (some (.int 2 t_INSIDE_someset)))
    (w_INSIDE_allset : PySem.W.nsIn K aINSIDE "allset" = some (some (.int 2 t_INSIDE_allset)))
    (w_INSIDE_none : PySem.W.nsIn K aINSIDE "none" = some none)
    (w_INSIDE_empty : PySem.W.nsIn K aINSIDE "empty" = some none)
    (w_INSIDE_letter : PySem.W.nsIn K aINSIDE "letter" = some none)
    (w_INSIDE_then : PySem.W.nsIn K aINSIDE "then" = some (some (.int 1 t_INSIDE_then)))
    (w_INSIDE_either : PySem.W.nsIn K aINSIDE "either" = some (some (.int 1 t_INSIDE_either)))
    (w_INSIDE_many : PySem.W.nsIn K aINSIDE "many" = some (some (.int 1 t_INSIDE_many)))
    (g_OPPOSITES : PySem.W.nsIn K mainGlobals "OPPOSITES" = some (some (.ref aOPPOSITES))) (l_OPPOSITES : K.lookup aOPPOSITES = some ⟨.type "dict", none, .dict esOPPOSITES nOPPOSITES, #[]⟩) (h_OPPOSITES : PySem.W.KeysLit w.params esOPPOSITES.toList) (s_OPPOSITES : (aOPPOSITES == sysModules) = false)
    (w_OPPOSITES_and : PySem.W.nsIn K aOPPOSITES "and" = some (some (.str "or" t_OPPOSITES_and)))
    (w_OPPOSITES_or : PySem.W.nsIn K aOPPOSITES "or" = some (some (.str "and" t_OPPOSITES_or)))
    (w_OPPOSITES_some : PySem.W.nsIn K aOPPOSITES "some" = some (some (.str "all" t_OPPOSITES_some)))
    (w_OPPOSITES_all : PySem.W.nsIn K aOPPOSITES "all" = some (some (.str "some" t_OPPOSITES_all)))
    (w_OPPOSITES_someset : PySem.W.nsIn K aOPPOSITES "someset" = some (some (.str "allset" t_OPPOSITES_someset)))
    (w_OPPOSITES_allset : PySem.W.nsIn K aOPPOSITES "allset" = some (some (.str "someset" t_OPPOSITES_allset)))
    : LawAtS l w K CX0 81 63 "script" mg fa h := by
  have bu : Bu mg := ⟨PySem.W.mg_none_of X G z_abs, PySem.W.mg_none_of X G z_int, PySem.W.mg_none_of X G z_len, PySem.W.mg_none_of X G z_isinstance, PySem.W.mg_none_of X G z_bool, PySem.W.mg_none_of X G z_str, PySem.W.mg_none_of X G z_tuple, PySem.W.mg_none_of X G z_list, PySem.W.mg_none_of X G z_dict, PySem.W.mg_none_of X G z_range, PySem.W.mg_none_of X G z_all, PySem.W.mg_none_of X G z_any, PySem.W.mg_none_of X G z_sum, PySem.W.mg_none_of X G z_max, PySem.W.mg_none_of X G z_min, PySem.W.mg_none_of X G z_sorted, PySem.W.mg_none_of X G z_set, PySem.W.mg_none_of X G z_reversed, PySem.W.mg_none_of X G z_zip, PySem.W.mg_none_of X G z_enumerate⟩
  have k_INSIDE : KTab K w mg "INSIDE" aINSIDE WALL tabI := ⟨PySem.W.mg_of X G g_INSIDE, ⟨"true", by simp [WALL]⟩, fun k hk => by
    simp only [WALL, List.mem_cons, List.not_mem_nil, or_false] at hk
    rcases hk with rfl | rfl | rfl | rfl | rfl | rfl | rfl | rfl | rfl | rfl | rfl | rfl | rfl | rfl | rfl | rfl | rfl | rfl | rfl | rfl | rfl
    · exact ⟨none, ⟨esINSIDE, nINSIDE, none, l_INSIDE, h_INSIDE, s_INSIDE, w_INSIDE_true, True.intro⟩, by rw [show tabI "true" = none by simp [tabI, ofString_inj]]; trivial⟩
    · exact ⟨none, ⟨esINSIDE, nINSIDE, none, l_INSIDE, h_INSIDE, s_INSIDE, w_INSIDE_label, True.intro⟩, by rw [show tabI "label" = none by simp [tabI, ofString_inj]]; trivial⟩
    · exact ⟨none, ⟨esINSIDE, nINSIDE, none, l_INSIDE, h_INSIDE, s_INSIDE, w_INSIDE_child, True.intro⟩, by rw [show tabI "child" = none by simp [tabI, ofString_inj]]; trivial⟩
    · exact ⟨none, ⟨esINSIDE, nINSIDE, none, l_INSIDE, h_INSIDE, s_INSIDE, w_INSIDE_below, True.intro⟩, by rw [show tabI "below" = none by simp [tabI, ofString_inj]]; trivial⟩
    · exact ⟨none, ⟨esINSIDE, nINSIDE, none, l_INSIDE, h_INSIDE, s_INSIDE, w_INSIDE_same, True.intro⟩, by rw [show tabI "same" = none by simp [tabI, ofString_inj]]; trivial⟩
    · exact ⟨none, ⟨esINSIDE, nINSIDE, none, l_INSIDE, h_INSIDE, s_INSIDE, w_INSIDE_top, True.intro⟩, by rw [show tabI "top" = none by simp [tabI, ofString_inj]]; trivial⟩
    · exact ⟨none, ⟨esINSIDE, nINSIDE, none, l_INSIDE, h_INSIDE, s_INSIDE, w_INSIDE_in, True.intro⟩, by rw [show tabI "in" = none by simp [tabI, ofString_inj]]; trivial⟩
    · exact ⟨none, ⟨esINSIDE, nINSIDE, none, l_INSIDE, h_INSIDE, s_INSIDE, w_INSIDE_inside, True.intro⟩, by rw [show tabI "inside" = none by simp [tabI, ofString_inj]]; trivial⟩
    · exact ⟨some (V.int 1), ⟨esINSIDE, nINSIDE, _, l_INSIDE, h_INSIDE, s_INSIDE, w_INSIDE_not, ⟨_, rfl⟩⟩, by rw [show tabI "not" = some (D.int 1) by simp [tabI, ofString_inj]]; exact fun _ => .int _⟩
    · exact ⟨some (V.int 1), ⟨esINSIDE, nINSIDE, _, l_INSIDE, h_INSIDE, s_INSIDE, w_INSIDE_and, ⟨_, rfl⟩⟩, by rw [show tabI "and" = some (D.int 1) by simp [tabI, ofString_inj]]; exact fun _ => .int _⟩
    · exact ⟨some (V.int 1), ⟨esINSIDE, nINSIDE, _, l_INSIDE, h_INSIDE, s_INSIDE, w_INSIDE_or, ⟨_, rfl⟩⟩, by rw [show tabI "or" = some (D.int 1) by simp [tabI, ofString_inj]]; exact fun _ => .int _⟩
    · exact ⟨some (V.int 2), ⟨esINSIDE, nINSIDE, _, l_INSIDE, h_INSIDE, s_INSIDE, w_INSIDE_some, ⟨_, rfl⟩⟩, by rw [show tabI "some" = some (D.int 2) by simp [tabI, ofString_inj]]; exact fun _ => .int _⟩
    · exact ⟨some (V.int 2), ⟨esINSIDE, nINSIDE, _, l_INSIDE, h_INSIDE, s_INSIDE, w_INSIDE_all, ⟨_, rfl⟩⟩, by rw [show tabI "all" = some (D.int 2) by simp [tabI, ofString_inj]]; exact fun _ => .int _⟩
    · exact ⟨some (V.int 2), ⟨esINSIDE, nINSIDE, _, l_INSIDE, h_INSIDE, s_INSIDE, w_INSIDE_someset, ⟨_, rfl⟩⟩, by rw [show tabI "someset" = some (D.int 2) by simp [tabI, ofString_inj]]; exact fun _ => .int _⟩
    · exact ⟨some (V.int 2), ⟨esINSIDE, nINSIDE, _, l_INSIDE, h_INSIDE, s_INSIDE, w_INSIDE_allset, ⟨_, rfl⟩⟩, by rw [show tabI "allset" = some (D.int 2) by simp [tabI, ofString_inj]]; exact fun _ => .int _⟩
    · exact ⟨none, ⟨esINSIDE, nINSIDE, none, l_INSIDE, h_INSIDE, s_INSIDE, w_INSIDE_none, True.intro⟩, by rw [show tabI "none" = none by simp [tabI, ofString_inj]]; trivial⟩
    · exact ⟨none, ⟨esINSIDE, nINSIDE, none, l_INSIDE, h_INSIDE, s_INSIDE, w_INSIDE_empty, True.intro⟩, by rw [show tabI "empty" = none by simp [tabI, ofString_inj]]; trivial⟩
    · exact ⟨none, ⟨esINSIDE, nINSIDE, none, l_INSIDE, h_INSIDE, s_INSIDE, w_INSIDE_letter, True.intro⟩, by rw [show tabI "letter" = none by simp [tabI, ofString_inj]]; trivial⟩
    · exact ⟨some (V.int 1), ⟨esINSIDE, nINSIDE, _, l_INSIDE, h_INSIDE, s_INSIDE, w_INSIDE_then, ⟨_, rfl⟩⟩, by rw [show tabI "then" = some (D.int 1) by simp [tabI, ofString_inj]]; exact fun _ => .int _⟩
    · exact ⟨some (V.int 1), ⟨esINSIDE, nINSIDE, _, l_INSIDE, h_INSIDE, s_INSIDE, w_INSIDE_either, ⟨_, rfl⟩⟩, by rw [show tabI "either" = some (D.int 1) by simp [tabI, ofString_inj]]; exact fun _ => .int _⟩
    · exact ⟨some (V.int 1), ⟨esINSIDE, nINSIDE, _, l_INSIDE, h_INSIDE, s_INSIDE, w_INSIDE_many, ⟨_, rfl⟩⟩, by rw [show tabI "many" = some (D.int 1) by simp [tabI, ofString_inj]]; exact fun _ => .int _⟩⟩
  have k_OPPOSITES : KTab K w mg "OPPOSITES" aOPPOSITES WOPP tabO := ⟨PySem.W.mg_of X G g_OPPOSITES, ⟨"and", by simp [WOPP]⟩, fun k hk => by
    simp only [WOPP, List.mem_cons, List.not_mem_nil, or_false] at hk
    rcases hk with rfl | rfl | rfl | rfl | rfl | rfl
    · exact ⟨some (V.str "or"), ⟨esOPPOSITES, nOPPOSITES, _, l_OPPOSITES, h_OPPOSITES, s_OPPOSITES, w_OPPOSITES_and, ⟨_, rfl⟩⟩, by rw [show tabO "and" = some (D.str "or") by simp [tabO, ofString_inj]]; exact fun _ => .str _⟩
    · exact ⟨some (V.str "and"), ⟨esOPPOSITES, nOPPOSITES, _, l_OPPOSITES, h_OPPOSITES, s_OPPOSITES, w_OPPOSITES_or, ⟨_, rfl⟩⟩, by rw [show tabO "or" = some (D.str "and") by simp [tabO, ofString_inj]]; exact fun _ => .str _⟩
    · exact ⟨some (V.str "all"), ⟨esOPPOSITES, nOPPOSITES, _, l_OPPOSITES, h_OPPOSITES, s_OPPOSITES, w_OPPOSITES_some, ⟨_, rfl⟩⟩, by rw [show tabO "some" = some (D.str "all") by simp [tabO, ofString_inj]]; exact fun _ => .str _⟩
    · exact ⟨some (V.str "some"), ⟨esOPPOSITES, nOPPOSITES, _, l_OPPOSITES, h_OPPOSITES, s_OPPOSITES, w_OPPOSITES_all, ⟨_, rfl⟩⟩, by rw [show tabO "all" = some (D.str "some") by simp [tabO, ofString_inj]]; exact fun _ => .str _⟩
    · exact ⟨some (V.str "allset"), ⟨esOPPOSITES, nOPPOSITES, _, l_OPPOSITES, h_OPPOSITES, s_OPPOSITES, w_OPPOSITES_someset, ⟨_, rfl⟩⟩, by rw [show tabO "someset" = some (D.str "allset") by simp [tabO, ofString_inj]]; exact fun _ => .str _⟩
    · exact ⟨some (V.str "someset"), ⟨esOPPOSITES, nOPPOSITES, _, l_OPPOSITES, h_OPPOSITES, s_OPPOSITES, w_OPPOSITES_allset, ⟨_, rfl⟩⟩, by rw [show tabO "allset" = some (D.str "someset") by simp [tabO, ofString_inj]]; exact fun _ => .str _⟩⟩
  have m_inner := PySem.W.mg_of X G a0
  have F_inner := fun_mk (st := d_inner) l0 c0 k0
  have D_inner : Dfn K mg "inner" ["whole"] d_inner := ⟨_, _, F_inner, m_inner, F_inner.binds fun _ _ _ _ _ _ us hl => match us, hl with | [_], _ => rfl⟩
  have m_outer := PySem.W.mg_of X G a1
  have F_outer := fun_mk (st := d_outer) l1 c1 k1
  have D_outer : Dfn K mg "outer" ["whole"] d_outer := ⟨_, _, F_outer, m_outer, F_outer.binds fun _ _ _ _ _ _ us hl => match us, hl with | [_], _ => rfl⟩
  have m_all_parts := PySem.W.mg_of X G a2
  have F_all_parts := fun_mk (st := d_all_parts) l2 c2 k2
  have D_all_parts : Dfn K mg "all_parts" ["whole"] d_all_parts := ⟨_, _, F_all_parts, m_all_parts, F_all_parts.binds fun _ _ _ _ _ _ us hl => match us, hl with | [_], _ => rfl⟩
  have m_built := PySem.W.mg_of X G a3
  have F_built := fun_mk (st := d_built) l3 c3 k3
  have D_built : Dfn K mg "built" ["whole", "above"] d_built := ⟨_, _, F_built, m_built, F_built.binds fun _ _ _ _ _ _ us hl => match us, hl with | [_, _], _ => rfl⟩
  have m_plain := PySem.W.mg_of X G a4
  have F_plain := fun_mk (st := d_plain) l4 c4 k4
  have D_plain : Dfn K mg "plain" ["formula"] d_plain := ⟨_, _, F_plain, m_plain, F_plain.binds fun _ _ _ _ _ _ us hl => match us, hl with | [_], _ => rfl⟩
  have m_is_plain := PySem.W.mg_of X G a5
  have F_is_plain := fun_mk (st := d_is_plain) l5 c5 k5
  have D_is_plain : Dfn K mg "is_plain" ["formula"] d_is_plain := ⟨_, _, F_is_plain, m_is_plain, F_is_plain.binds fun _ _ _ _ _ _ us hl => match us, hl with | [_], _ => rfl⟩
  have m__both_above := PySem.W.mg_of X G a6
  have F__both_above := fun_mk (st := d__both_above) l6 c6 k6
  have D__both_above : Dfn K mg "_both_above" ["now", "inside"] d__both_above := ⟨_, _, F__both_above, m__both_above, F__both_above.binds fun _ _ _ _ _ _ us hl => match us, hl with | [_, _], _ => rfl⟩
  have m__law_tape := PySem.W.mg_of X G a7
  have F__law_tape := fun_mk (st := d__law_tape) l7 c7 k7
  have D__law_tape : Dfn K mg "_law_tape" ["script"] d__law_tape := ⟨_, _, F__law_tape, m__law_tape, F__law_tape.binds fun _ _ _ _ _ _ us hl => match us, hl with | [_], _ => rfl⟩
  have m__law_take := PySem.W.mg_of X G a8
  have F__law_take := fun_mk (st := d__law_take) l8 c8 k8
  have D__law_take : Dfn K mg "_law_take" ["tape", "many"] d__law_take := ⟨_, _, F__law_take, m__law_take, F__law_take.binds fun _ _ _ _ _ _ us hl => match us, hl with | [_, _], _ => rfl⟩
  have m__law_is_integer := PySem.W.mg_of X G a9
  have F__law_is_integer := fun_mk (st := d__law_is_integer) l9 c9 k9
  have D__law_is_integer : Dfn K mg "_law_is_integer" ["actual"] d__law_is_integer := ⟨_, _, F__law_is_integer, m__law_is_integer, F__law_is_integer.binds fun _ _ _ _ _ _ us hl => match us, hl with | [_], _ => rfl⟩
  have m__law_same_items := PySem.W.mg_of X G a10
  have F__law_same_items := fun_mk (st := d__law_same_items) l10 c10 k10
  have D__law_same_items : Dfn K mg "_law_same_items" ["actual", "expected"] d__law_same_items := ⟨_, _, F__law_same_items, m__law_same_items, F__law_same_items.binds fun _ _ _ _ _ _ us hl => match us, hl with | [_, _], _ => rfl⟩
  have m__law_same := PySem.W.mg_of X G a11
  have F__law_same := fun_mk (st := d__law_same) l11 c11 k11
  have D__law_same : Dfn K mg "_law_same" ["actual", "expected"] d__law_same := ⟨_, _, F__law_same, m__law_same, F__law_same.binds fun _ _ _ _ _ _ us hl => match us, hl with | [_, _], _ => rfl⟩
  have m__law_kind := PySem.W.mg_of X G a12
  have F__law_kind := fun_mk (st := d__law_kind) l12 c12 k12
  have D__law_kind : Dfn K mg "_law_kind" ["tape"] d__law_kind := ⟨_, _, F__law_kind, m__law_kind, F__law_kind.binds fun _ _ _ _ _ _ us hl => match us, hl with | [_], _ => rfl⟩
  have m__law_shape := PySem.W.mg_of X G a13
  have F__law_shape := fun_mk (st := d__law_shape) l13 c13 k13
  have D__law_shape : Dfn K mg "_law_shape" ["tape", "kind", "count"] d__law_shape := ⟨_, _, F__law_shape, m__law_shape, F__law_shape.binds fun _ _ _ _ _ _ us hl => match us, hl with | [_, _, _], _ => rfl⟩
  have m__law_paths := PySem.W.mg_of X G a14
  have F__law_paths := fun_mk (st := d__law_paths) l14 c14 k14
  have D__law_paths : Dfn K mg "_law_paths" ["shape", "path"] d__law_paths := ⟨_, _, F__law_paths, m__law_paths, F__law_paths.binds fun _ _ _ _ _ _ us hl => match us, hl with | [_, _], _ => rfl⟩
  have m__law_part := PySem.W.mg_of X G a15
  have F__law_part := fun_mk (st := d__law_part) l15 c15 k15
  have D__law_part : Dfn K mg "_law_part" ["shape", "path"] d__law_part := ⟨_, _, F__law_part, m__law_part, F__law_part.binds fun _ _ _ _ _ _ us hl => match us, hl with | [_, _], _ => rfl⟩
  have m__law_atom := PySem.W.mg_of X G a16
  have F__law_atom := fun_mk (st := d__law_atom) l16 c16 k16
  have D__law_atom : Dfn K mg "_law_atom" ["tape", "kind", "singles", "sets"] d__law_atom := ⟨_, _, F__law_atom, m__law_atom, F__law_atom.binds fun _ _ _ _ _ _ us hl => match us, hl with | [_, _, _, _], _ => rfl⟩
  have m__law_matrix := PySem.W.mg_of X G a17
  have F__law_matrix := fun_mk (st := d__law_matrix) l17 c17 k17
  have D__law_matrix : Dfn K mg "_law_matrix" ["tape", "kind", "singles", "sets", "depth"] d__law_matrix := ⟨_, _, F__law_matrix, m__law_matrix, F__law_matrix.binds fun _ _ _ _ _ _ us hl => match us, hl with | [_, _, _, _, _], _ => rfl⟩
  have m__law_subsets := PySem.W.mg_of X G a18
  have F__law_subsets := fun_mk (st := d__law_subsets) l18 c18 k18
  have D__law_subsets : Dfn K mg "_law_subsets" ["every"] d__law_subsets := ⟨_, _, F__law_subsets, m__law_subsets, F__law_subsets.binds fun _ _ _ _ _ _ us hl => match us, hl with | [_], _ => rfl⟩
  have m__law_atom_holds := PySem.W.mg_of X G a19
  have F__law_atom_holds := fun_mk (st := d__law_atom_holds) l19 c19 k19
  have D__law_atom_holds : Dfn K mg "_law_atom_holds" ["formula", "shape", "values"] d__law_atom_holds := ⟨_, _, F__law_atom_holds, m__law_atom_holds, F__law_atom_holds.binds fun _ _ _ _ _ _ us hl => match us, hl with | [_, _, _], _ => rfl⟩
  have m__law_holds := PySem.W.mg_of X G a20
  have F__law_holds := fun_mk (st := d__law_holds) l20 c20 k20
  have D__law_holds : Dfn K mg "_law_holds" ["formula", "shape", "values"] d__law_holds := ⟨_, _, F__law_holds, m__law_holds, F__law_holds.binds fun _ _ _ _ _ _ us hl => match us, hl with | [_, _, _], _ => rfl⟩
  have m__law_parts := PySem.W.mg_of X G a21
  have F__law_parts := fun_mk (st := d__law_parts) l21 c21 k21
  have D__law_parts : Dfn K mg "_law_parts" ["formula"] d__law_parts := ⟨_, _, F__law_parts, m__law_parts, F__law_parts.binds fun _ _ _ _ _ _ us hl => match us, hl with | [_], _ => rfl⟩
  have m__law_is_plain := PySem.W.mg_of X G a22
  have F__law_is_plain := fun_mk (st := d__law_is_plain) l22 c22 k22
  have D__law_is_plain : Dfn K mg "_law_is_plain" ["formula"] d__law_is_plain := ⟨_, _, F__law_is_plain, m__law_is_plain, F__law_is_plain.binds fun _ _ _ _ _ _ us hl => match us, hl with | [_], _ => rfl⟩
  have m__law_atoms := PySem.W.mg_of X G a23
  have F__law_atoms := fun_mk (st := d__law_atoms) l23 c23 k23
  have D__law_atoms : Dfn K mg "_law_atoms" ["formula"] d__law_atoms := ⟨_, _, F__law_atoms, m__law_atoms, F__law_atoms.binds fun _ _ _ _ _ _ us hl => match us, hl with | [_], _ => rfl⟩
  have m__law_names := PySem.W.mg_of X G a24
  have F__law_names := fun_mk (st := d__law_names) l24 c24 k24
  have D__law_names : Dfn K mg "_law_names" ["formula"] d__law_names := ⟨_, _, F__law_names, m__law_names, F__law_names.binds fun _ _ _ _ _ _ us hl => match us, hl with | [_], _ => rfl⟩
  have m_law := PySem.W.mg_of X G a25
  have F_law := fun_mk (st := d_law) l25 c25 k25
  have D_law : Dfn K mg "law" ["script"] d_law := ⟨_, _, F_law, m_law, F_law.binds fun _ _ _ _ _ _ us hl => match us, hl with | [_], _ => rfl⟩
  have e := hfa.symm.trans m_law
  cases e
  refine ⟨PySem.W.fnOf "law" "law" (defArgs d_law) (defBody d_law) (defScope d_law) .none kV25 dc25 pm25 an25 cd25 ct25, [], spG K GLaw, fun p hp => ?_, fun p hp => ?_, fun p hp => ?_, fun s v => .of_eq rfl, fun H a ns hn _ hT hS => ?_, fun base _ _ hB => ?_⟩
  · cases hp
  · cases hp
  · cases hp
  · exact law_in (fun ns hn => ⟨ns, rfl, hn, rfl, fun _ => rfl⟩) H a ns hn hS
  · have c__law_tape := ok_tape (P := l.prog) (w := w) (base := base) (k := 0) bu D__law_tape
    have c__law_take := ok_take (P := l.prog) (w := w) (base := base) (k := 0) bu D__law_take
    have c__law_is_integer := ok_isint (P := l.prog) (w := w) (base := base) (k := 0) bu D__law_is_integer
    have c__law_same := ok_same (P := l.prog) (w := w) (base := base) (k := 1) bu c__law_is_integer D__law_same_items D__law_same 1
    have c__law_kind := ok_kind (P := l.prog) (w := w) (base := base) c__law_take D__law_kind
    have c__law_shape := ok_shape (P := l.prog) (w := w) (base := base) bu c__law_take D__law_shape 5
    have c__law_paths := ok_paths (P := l.prog) (w := w) (base := base) (k := 0) bu D__law_paths 61
    have c__law_part := ok_part (P := l.prog) (w := w) (base := base) (mg := mg) (k := 0) D__law_part
    have c__law_atom := ok_atom (P := l.prog) (w := w) (base := base) bu c__law_take D__law_atom
    have c__law_matrix := ok_matrix (P := l.prog) (w := w) (base := base) (k := 2) (c__law_take.mono (by decide)) (c__law_atom.mono (by decide)) D__law_matrix 5
    have c__law_subsets := ok_subs (P := l.prog) (w := w) (base := base) (mg := mg) (k := 0) D__law_subsets
    have c__law_atom_holds := ok_atom_holds (P := l.prog) (w := w) (base := base) bu c__law_part D__law_atom_holds
    have c__law_holds := ok_holds (P := l.prog) (w := w) (base := base) (k := 61) bu (c__law_paths.mono (by decide)) (c__law_subsets.mono (by decide)) (c__law_atom_holds.mono (by decide)) D__law_holds 12
    have c_inner := ok_inner (P := l.prog) (w := w) (base := base) (k := 0) bu k_INSIDE D_inner
    have c_outer := ok_outer (P := l.prog) (w := w) (base := base) (k := 0) bu k_INSIDE D_outer
    have c_all_parts := ok_all (P := l.prog) (w := w) (base := base) bu c_inner D_all_parts
    have c__both_above := ok_both (P := l.prog) (w := w) (base := base) bu k_OPPOSITES c_outer D__both_above
    obtain ⟨g, hg, cg⟩ := c__both_above.at_
    have c_built := ok_built (P := l.prog) (w := w) (base := base) (k := 2) bu (c_inner.mono (by decide)) (c_outer.mono (by decide)) (c_all_parts.mono (by decide)) (cg.mono (by decide)) D_built
    have c_plain := ok_plain (P := l.prog) (w := w) (base := base) hg c_built D_plain
    have c_is_plain := ok_is_plain (P := l.prog) (w := w) (base := base) (k := 2) bu (c_inner.mono (by decide)) (c_all_parts.mono (by decide)) D_is_plain
    have c__law_parts := ok_parts (P := l.prog) (w := w) (base := base) (k := 0) bu D__law_parts
    have c__law_is_plain := ok_lplain (P := l.prog) (w := w) (base := base) bu c__law_parts D__law_is_plain 12
    have c__law_atoms := ok_atoms (P := l.prog) (w := w) (base := base) bu c__law_parts D__law_atoms 12
    have c__law_names := ok_names (P := l.prog) (w := w) (base := base) bu c__law_parts D__law_names 12
    exact fn_law (k := 80) F_law bu (c__law_tape.mono (by decide)) (c__law_take.mono (by decide)) (c__law_kind.mono (by decide)) (c__law_shape.mono (by decide)) (c__law_paths.mono (by decide)) (c__law_matrix.mono (by decide)) (c_plain.mono (by decide)) (c_is_plain.mono (by decide)) (c__law_is_plain.mono (by decide)) (c__law_same.mono (by decide)) (c__law_atoms.mono (by decide)) (c__law_names.mono (by decide)) (c__law_holds.mono (by decide))
end Y

set_option Elab.async false
open PySem PySem.W PyProof.Rows
set_option maxRecDepth 100000 in
set_option maxHeartbeats 0 in
theorem PySem.Challenge.cw_treesays_k25_plain_formulas_holds : PySem.Challenge.rw_treesays_k25_plain_formulas.Holds := by
  w_on; o_law; k_head; (case hw => w_witness2)
  k_fill
  refine LamX.walk_ofTs (l := PySem.Challenge.rw_treesays_k25_plain_formulas) (n := 63) (k := 81) (x := "script") (CX := fun _ => L2.CX0) rfl (by decide) rfl ⟨rfl, by decide, by decide⟩ (fun w h Y => PySem.W.kIn_of Y) ?F (fun _ _ _ _ _ h => h)
  case F =>
    intro w mg fa h Y0 KX G hmg
    refine' Y.all_mk KX G hmg ?a0 ?l0 ?c0 ?k0 ?a1 ?l1 ?c1 ?k1 ?a2 ?l2 ?c2 ?k2 ?a3 ?l3 ?c3 ?k3 ?a4 ?l4 ?c4 ?k4 ?a5 ?l5 ?c5 ?k5 ?a6 ?l6 ?c6 ?k6 ?a7 ?l7 ?c7 ?k7 ?a8 ?l8 ?c8 ?k8 ?a9 ?l9 ?c9 ?k9 ?a10 ?l10 ?c10 ?k10 ?a11 ?l11 ?c11 ?k11 ?a12 ?l12 ?c12 ?k12 ?a13 ?l13 ?c13 ?k13 ?a14 ?l14 ?c14 ?k14 ?a15 ?l15 ?c15 ?k15 ?a16 ?l16 ?c16 ?k16 ?a17 ?l17 ?c17 ?k17 ?a18 ?l18 ?c18 ?k18 ?a19 ?l19 ?c19 ?k19 ?a20 ?l20 ?c20 ?k20 ?a21 ?l21 ?c21 ?k21 ?a22 ?l22 ?c22 ?k22 ?a23 ?l23 ?c23 ?k23 ?a24 ?l24 ?c24 ?k24 ?a25 ?l25 ?c25 ?k25 ?z_abs ?z_int ?z_len ?z_isinstance ?z_bool ?z_str ?z_tuple ?z_list ?z_dict ?z_range ?z_all ?z_any ?z_sum ?z_max ?z_min ?z_sorted ?z_set ?z_reversed ?z_zip ?z_enumerate ?g_INSIDE ?l_INSIDE ?h_INSIDE ?s_INSIDE ?w_INSIDE_true ?w_INSIDE_label ?w_INSIDE_child ?w_INSIDE_below ?w_INSIDE_same ?w_INSIDE_top ?w_INSIDE_in ?w_INSIDE_inside ?w_INSIDE_not ?w_INSIDE_and ?w_INSIDE_or ?w_INSIDE_some ?w_INSIDE_all ?w_INSIDE_someset ?w_INSIDE_allset ?w_INSIDE_none ?w_INSIDE_empty ?w_INSIDE_letter ?w_INSIDE_then ?w_INSIDE_either ?w_INSIDE_many ?g_OPPOSITES ?l_OPPOSITES ?h_OPPOSITES ?s_OPPOSITES ?w_OPPOSITES_and ?w_OPPOSITES_or ?w_OPPOSITES_some ?w_OPPOSITES_all ?w_OPPOSITES_someset ?w_OPPOSITES_allset
    (case a0 => first | k_is | rfl | decide +kernel)
    (case l0 => first | k_is | rfl | decide +kernel)
    (case c0 => first | k_is | rfl | decide +kernel)
    (case k0 => first | k_is | rfl | decide +kernel)
    (case a1 => first | k_is | rfl | decide +kernel)
    (case l1 => first | k_is | rfl | decide +kernel)
    (case c1 => first | k_is | rfl | decide +kernel)
    (case k1 => first | k_is | rfl | decide +kernel)
    (case a2 => first | k_is | rfl | decide +kernel)
    (case l2 => first | k_is | rfl | decide +kernel)
    (case c2 => first | k_is | rfl | decide +kernel)
    (case k2 => first | k_is | rfl | decide +kernel)
    (case a3 => first | k_is | rfl | decide +kernel)
    (case l3 => first | k_is | rfl | decide +kernel)
    (case c3 => first | k_is | rfl | decide +kernel)
    (case k3 => first | k_is | rfl | decide +kernel)
    (case a4 => first | k_is | rfl | decide +kernel)
    (case l4 => first | k_is | rfl | decide +kernel)
    (case c4 => first | k_is | rfl | decide +kernel)
    (case k4 => first | k_is | rfl | decide +kernel)
    (case a5 => first | k_is | rfl | decide +kernel)
    (case l5 => first | k_is | rfl | decide +kernel)
    (case c5 => first | k_is | rfl | decide +kernel)
    (case k5 => first | k_is | rfl | decide +kernel)
    (case a6 => first | k_is | rfl | decide +kernel)
    (case l6 => first | k_is | rfl | decide +kernel)
    (case c6 => first | k_is | rfl | decide +kernel)
    (case k6 => first | k_is | rfl | decide +kernel)
    (case a7 => first | k_is | rfl | decide +kernel)
    (case l7 => first | k_is | rfl | decide +kernel)
    (case c7 => first | k_is | rfl | decide +kernel)
    (case k7 => first | k_is | rfl | decide +kernel)
    (case a8 => first | k_is | rfl | decide +kernel)
    (case l8 => first | k_is | rfl | decide +kernel)
    (case c8 => first | k_is | rfl | decide +kernel)
    (case k8 => first | k_is | rfl | decide +kernel)
    (case a9 => first | k_is | rfl | decide +kernel)
    (case l9 => first | k_is | rfl | decide +kernel)
    (case c9 => first | k_is | rfl | decide +kernel)
    (case k9 => first | k_is | rfl | decide +kernel)
    (case a10 => first | k_is | rfl | decide +kernel)
    (case l10 => first | k_is | rfl | decide +kernel)
    (case c10 => first | k_is | rfl | decide +kernel)
    (case k10 => first | k_is | rfl | decide +kernel)
    (case a11 => first | k_is | rfl | decide +kernel)
    (case l11 => first | k_is | rfl | decide +kernel)
    (case c11 => first | k_is | rfl | decide +kernel)
    (case k11 => first | k_is | rfl | decide +kernel)
    (case a12 => first | k_is | rfl | decide +kernel)
    (case l12 => first | k_is | rfl | decide +kernel)
    (case c12 => first | k_is | rfl | decide +kernel)
    (case k12 => first | k_is | rfl | decide +kernel)
    (case a13 => first | k_is | rfl | decide +kernel)
    (case l13 => first | k_is | rfl | decide +kernel)
    (case c13 => first | k_is | rfl | decide +kernel)
    (case k13 => first | k_is | rfl | decide +kernel)
    (case a14 => first | k_is | rfl | decide +kernel)
    (case l14 => first | k_is | rfl | decide +kernel)
    (case c14 => first | k_is | rfl | decide +kernel)
    (case k14 => first | k_is | rfl | decide +kernel)
    (case a15 => first | k_is | rfl | decide +kernel)
    (case l15 => first | k_is | rfl | decide +kernel)
    (case c15 => first | k_is | rfl | decide +kernel)
    (case k15 => first | k_is | rfl | decide +kernel)
    (case a16 => first | k_is | rfl | decide +kernel)
    (case l16 => first | k_is | rfl | decide +kernel)
    (case c16 => first | k_is | rfl | decide +kernel)
    (case k16 => first | k_is | rfl | decide +kernel)
    (case a17 => first | k_is | rfl | decide +kernel)
    (case l17 => first | k_is | rfl | decide +kernel)
    (case c17 => first | k_is | rfl | decide +kernel)
    (case k17 => first | k_is | rfl | decide +kernel)
    (case a18 => first | k_is | rfl | decide +kernel)
    (case l18 => first | k_is | rfl | decide +kernel)
    (case c18 => first | k_is | rfl | decide +kernel)
    (case k18 => first | k_is | rfl | decide +kernel)
    (case a19 => first | k_is | rfl | decide +kernel)
    (case l19 => first | k_is | rfl | decide +kernel)
    (case c19 => first | k_is | rfl | decide +kernel)
    (case k19 => first | k_is | rfl | decide +kernel)
    (case a20 => first | k_is | rfl | decide +kernel)
    (case l20 => first | k_is | rfl | decide +kernel)
    (case c20 => first | k_is | rfl | decide +kernel)
    (case k20 => first | k_is | rfl | decide +kernel)
    (case a21 => first | k_is | rfl | decide +kernel)
    (case l21 => first | k_is | rfl | decide +kernel)
    (case c21 => first | k_is | rfl | decide +kernel)
    (case k21 => first | k_is | rfl | decide +kernel)
    (case a22 => first | k_is | rfl | decide +kernel)
    (case l22 => first | k_is | rfl | decide +kernel)
    (case c22 => first | k_is | rfl | decide +kernel)
    (case k22 => first | k_is | rfl | decide +kernel)
    (case a23 => first | k_is | rfl | decide +kernel)
    (case l23 => first | k_is | rfl | decide +kernel)
    (case c23 => first | k_is | rfl | decide +kernel)
    (case k23 => first | k_is | rfl | decide +kernel)
    (case a24 => first | k_is | rfl | decide +kernel)
    (case l24 => first | k_is | rfl | decide +kernel)
    (case c24 => first | k_is | rfl | decide +kernel)
    (case k24 => first | k_is | rfl | decide +kernel)
    (case a25 => first | k_is | rfl | decide +kernel)
    (case l25 => first | k_is | rfl | decide +kernel)
    (case c25 => first | k_is | rfl | decide +kernel)
    (case k25 => first | k_is | rfl | decide +kernel)
    (case z_abs => first | k_is | rfl | decide +kernel)
    (case z_int => first | k_is | rfl | decide +kernel)
    (case z_len => first | k_is | rfl | decide +kernel)
    (case z_isinstance => first | k_is | rfl | decide +kernel)
    (case z_bool => first | k_is | rfl | decide +kernel)
    (case z_str => first | k_is | rfl | decide +kernel)
    (case z_tuple => first | k_is | rfl | decide +kernel)
    (case z_list => first | k_is | rfl | decide +kernel)
    (case z_dict => first | k_is | rfl | decide +kernel)
    (case z_range => first | k_is | rfl | decide +kernel)
    (case z_all => first | k_is | rfl | decide +kernel)
    (case z_any => first | k_is | rfl | decide +kernel)
    (case z_sum => first | k_is | rfl | decide +kernel)
    (case z_max => first | k_is | rfl | decide +kernel)
    (case z_min => first | k_is | rfl | decide +kernel)
    (case z_sorted => first | k_is | rfl | decide +kernel)
    (case z_set => first | k_is | rfl | decide +kernel)
    (case z_reversed => first | k_is | rfl | decide +kernel)
    (case z_zip => first | k_is | rfl | decide +kernel)
    (case z_enumerate => first | k_is | rfl | decide +kernel)
    (case g_INSIDE => first | k_is | rfl | decide +kernel)
    (case l_INSIDE => first | k_is | rfl | decide +kernel)
    (case h_INSIDE => exact ⟨⟨_, _, rfl, rfl⟩, ⟨_, _, rfl, rfl⟩, ⟨_, _, rfl, rfl⟩, ⟨_, _, rfl, rfl⟩, ⟨_, _, rfl, rfl⟩, ⟨_, _, rfl, rfl⟩, ⟨_, _, rfl, rfl⟩, ⟨_, _, rfl, rfl⟩, ⟨_, _, rfl, rfl⟩, ⟨_, _, rfl, rfl⟩, True.intro⟩)
    (case s_INSIDE => first | k_is | rfl | decide +kernel)
    (case w_INSIDE_true => first | k_is | rfl | decide +kernel)
    (case w_INSIDE_label => first | k_is | rfl | decide +kernel)
    (case w_INSIDE_child => first | k_is | rfl | decide +kernel)
    (case w_INSIDE_below => first | k_is | rfl | decide +kernel)
    (case w_INSIDE_same => first | k_is | rfl | decide +kernel)
    (case w_INSIDE_top => first | k_is | rfl | decide +kernel)
    (case w_INSIDE_in => first | k_is | rfl | decide +kernel)
    (case w_INSIDE_inside => first | k_is | rfl | decide +kernel)
    (case w_INSIDE_not => first | k_is | rfl | decide +kernel)
    (case w_INSIDE_and => first | k_is | rfl | decide +kernel)
    (case w_INSIDE_or => first | k_is | rfl | decide +kernel)
    (case w_INSIDE_some => first | k_is | rfl | decide +kernel)
    (case w_INSIDE_all => first | k_is | rfl | decide +kernel)
    (case w_INSIDE_someset => first | k_is | rfl | decide +kernel)
    (case w_INSIDE_allset => first | k_is | rfl | decide +kernel)
    (case w_INSIDE_none => first | k_is | rfl | decide +kernel)
    (case w_INSIDE_empty => first | k_is | rfl | decide +kernel)
    (case w_INSIDE_letter => first | k_is | rfl | decide +kernel)
    (case w_INSIDE_then => first | k_is | rfl | decide +kernel)
    (case w_INSIDE_either => first | k_is | rfl | decide +kernel)
    (case w_INSIDE_many => first | k_is | rfl | decide +kernel)
    (case g_OPPOSITES => first | k_is | rfl | decide +kernel)
    (case l_OPPOSITES => first | k_is | rfl | decide +kernel)
    (case h_OPPOSITES => exact ⟨⟨_, _, rfl, rfl⟩, ⟨_, _, rfl, rfl⟩, ⟨_, _, rfl, rfl⟩, ⟨_, _, rfl, rfl⟩, ⟨_, _, rfl, rfl⟩, ⟨_, _, rfl, rfl⟩, True.intro⟩)
    (case s_OPPOSITES => first | k_is | rfl | decide +kernel)
    (case w_OPPOSITES_and => first | k_is | rfl | decide +kernel)
    (case w_OPPOSITES_or => first | k_is | rfl | decide +kernel)
    (case w_OPPOSITES_some => first | k_is | rfl | decide +kernel)
    (case w_OPPOSITES_all => first | k_is | rfl | decide +kernel)
    (case w_OPPOSITES_someset => first | k_is | rfl | decide +kernel)
    (case w_OPPOSITES_allset => first | k_is | rfl | decide +kernel)

