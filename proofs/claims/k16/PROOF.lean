import PyProof.Rows.All
import Wide.All
import OpenK.AllK
import Wide.FinOn
import HandS.ForMost
import HandS.ForExc
import HandS.Walk
import HandS.ExcCtx
import HandS.Ends
import HandS.SortInts
import HandS.TupAny
import HandS.TupMul
import HandS.SetFor
import HandS.Strs
import HandS.Rev
import HandS.Style
import HandS.WordsExc
import HandS.Exc
import HandS.ExcIs
import HandS.TryOnly
import HandS.IsInst
import HandS.Sort
import KE.GoesMore
import KE.GoesZip
import HandS.Iter
import HandS.Zip
import KE.GoesEnum
import KE.KMinKey
import HandS.SortKw
import HandS.Hot
import HandS.HotCalls
import PySem.Challenge.RW_faremachines_k16_charts_of_logs
set_option Elab.async false
set_option linter.all false
set_option maxRecDepth 100000
/-! Values as trees, and the state that bears them. -/
namespace FM
open PySem PySem.Spec PyProof.Rows L2

/-- a value with what stands behind it; the flag of a list tells whether it is held here alone -/
inductive D where
  | non | bl (b : Bool) | int (i : Int) | str (s : Str)
  | tup (xs : List D) | lst (o : Bool) (xs : List D)
  | cls (x : Str)
  | scr (ns : List Int)
  | exc (a : Addr) (x : Str)
  | txs (ks : List Str)
  | rng (i j : Int)

mutual
def frz : D → D
  | .tup xs => .tup (frzL xs)
  | .lst _ xs => .lst false (frzL xs)
  | .non => .non
  | .bl b => .bl b
  | .int i => .int i
  | .str s => .str s
  | .cls x => .cls x
  | .scr ns => .scr ns
  | .exc a x => .exc a x
  | .txs ks => .txs ks
  | .rng i j => .rng i j
def frzL : List D → List D
  | [] => []
  | x :: xs => frz x :: frzL xs
end
mutual
/-- nothing in it is held alone -/
def stb : D → Bool
  | .tup xs => stbL xs
  | .lst o xs => !o && stbL xs
  | _ => true
def stbL : List D → Bool
  | [] => true
  | x :: xs => stb x && stbL xs
end
mutual
/-- no list in it that is shared -/
def nofl : D → Bool
  | .tup xs => noflL xs
  | .lst o xs => o && noflL xs
  | .scr _ => false
  | _ => true
def noflL : List D → Bool
  | [] => true
  | x :: xs => nofl x && noflL xs
end

mutual
theorem frz_stb : ∀ d : D, stb d = true → frz d = d
  | .tup xs, h => by
    simp only [stb] at h
    simp only [frz, frzL_stb xs h]
  | .lst o xs, h => by
    simp only [stb, Bool.and_eq_true] at h
    cases o with
    | true => simp at h
    | false => simp only [frz, frzL_stb xs h.2]
  | .non, _ => rfl
  | .bl _, _ => rfl
  | .int _, _ => rfl
  | .str _, _ => rfl
  | .cls _, _ => rfl
  | .scr _, _ => rfl
  | .exc _ _, _ => rfl
  | .txs _, _ => rfl
  | .rng _ _, _ => rfl
theorem frzL_stb : ∀ xs : List D, stbL xs = true → frzL xs = xs
  | [], _ => rfl
  | x :: xs, h => by
    simp only [stbL, Bool.and_eq_true] at h
    simp only [frzL, frz_stb x h.1, frzL_stb xs h.2]
end
mutual
theorem stb_frz : ∀ d : D, stb (frz d) = true
  | .tup xs => by simp only [frz, stb, stbL_frz xs]
  | .lst o xs => by simp [frz, stb, stbL_frz xs]
  | .non => rfl
  | .bl _ => rfl
  | .int _ => rfl
  | .str _ => rfl
  | .cls _ => rfl
  | .scr _ => rfl
  | .exc _ _ => rfl
  | .txs _ => rfl
  | .rng _ _ => rfl
theorem stbL_frz : ∀ xs : List D, stbL (frzL xs) = true
  | [] => rfl
  | x :: xs => by simp only [frzL, stbL, stb_frz x, stbL_frz xs, Bool.and_self]
end
theorem frzL_map : ∀ xs : List D, frzL xs = xs.map frz
  | [] => rfl
  | x :: xs => by simp only [frzL, frzL_map xs, List.map_cons]
theorem stbL_all : ∀ xs : List D, stbL xs = xs.all stb
  | [] => rfl
  | x :: xs => by simp only [stbL, stbL_all xs, List.all_cons]
theorem noflL_all : ∀ xs : List D, noflL xs = xs.all nofl
  | [] => rfl
  | x :: xs => by simp only [noflL, noflL_all xs, List.all_cons]
theorem frz_frz (d : D) : frz (frz d) = frz d := frz_stb _ (stb_frz d)

/-! ### how values stand in the heap: shared ones in B, own ones in H -/
mutual
inductive Rel (K : PySem.W.Frag) (mg : Str → Option Value) (B H : Hp) : V → D → List Addr → Prop
  | non : Rel K mg B H .non .non []
  | bl (b : Bool) : Rel K mg B H (.bl b) (.bl b) []
  | int (i : Int) : Rel K mg B H (.int i) (.int i) []
  | str (s : Str) : Rel K mg B H (.str s) (.str s) []
  | cls {a : Addr} {x : Str} : mg x = some (.ref a) → Rel K mg B H (.ref a) (.cls x) []
  | tup {a : Addr} {vs : List V} {ds : List D} {F : List Addr} : SqT K B a vs → Rels K mg B H vs ds F → Rel K mg B H (.ref a) (.tup ds) F
  | exc {a : Addr} {x : Str} : Rel K mg B H (.ref a) (.exc a x) []
  | txs {a : Addr} {o : Obj} {ks : List Str} : B a = some (.frz o (.tup (ks.map V.str))) → o.dict = none → o.cls = .type "tuple" → Rel K mg B H (.ref a) (.txs ks) []
  | rng {a : Addr} {i j : Int} : B a = some (.rng i j) → Rel K mg B H (.ref a) (.rng i j) []
  | scr {a : Addr} {ns : List Int} : SqL K B a (ns.map V.int) → Rel K mg B H (.ref a) (.scr ns) []
  | fl {a : Addr} {vs : List V} {ds : List D} : B a = some (.lst vs) → Rels K mg B H vs ds [] → Rel K mg B H (.ref a) (.lst false ds) []
  | ol {a : Addr} {vs : List V} {ds : List D} {F : List Addr} : H a = some (.lst vs) → Rels K mg B H vs ds F → Rel K mg B H (.ref a) (.lst true ds) (a :: F)
inductive Rels (K : PySem.W.Frag) (mg : Str → Option Value) (B H : Hp) : List V → List D → List Addr → Prop
  | nil : Rels K mg B H [] [] []
  | cons {v : V} {vs : List V} {d : D} {ds : List D} {F G : List Addr} : Rel K mg B H v d F → Rels K mg B H vs ds G → Rels K mg B H (v :: vs) (d :: ds) (F ++ G)
end

section
variable {K : PySem.W.Frag} {mg : Str → Option Value} {B B' H H' : Hp}
theorem sqT_mono {a : Addr} {vs : List V} (e : Same B B') (h : SqT K B a vs) : SqT K B' a vs := by
  rcases h with (h | ⟨o, h⟩) | h
  · exact .inl (.inl (e _ _ h))
  · exact .inl (.inr ⟨o, e _ _ h⟩)
  · exact .inr h
theorem sqL_mono {a : Addr} {vs : List V} (e : Same B B') (h : SqL K B a vs) : SqL K B' a vs := e.seq h

mutual
theorem Rel.mono (e : Same B B') : ∀ (v : V) (d : D) (F : List Addr), Rel K mg B H v d F → (∀ a ∈ F, H' a = H a) → Rel K mg B' H' v d F
  | _, .non, _, h, _ => by cases h; exact .non
  | _, .bl _, _, h, _ => by cases h; exact .bl _
  | _, .int _, _, h, _ => by cases h; exact .int _
  | _, .str _, _, h, _ => by cases h; exact .str _
  | _, .cls _, _, h, _ => by cases h with | cls hm => exact .cls hm
  | _, .scr _, _, h, _ => by cases h with | scr hm => exact .scr (sqL_mono e hm)
  | _, .exc _ _, _, h, _ => by cases h; exact .exc
  | _, .txs _, _, h, _ => by cases h with | txs a b c => exact .txs (e _ _ a) b c
  | _, .rng _ _, _, h, _ => by cases h with | rng a => exact .rng (e _ _ a)
  | _, .tup ds, _, h, k => by
    cases h with | tup hs hr => exact .tup (sqT_mono e hs) (Rels.mono e _ ds _ hr k)
  | _, .lst false ds, _, h, k => by
    cases h with | fl hs hr => exact .fl (e _ _ hs) (Rels.mono e _ ds _ hr (fun _ z => nomatch z))
  | _, .lst true ds, _, h, k => by
    cases h with
    | ol ha hr =>
      exact .ol ((k _ (List.mem_cons_self ..)).trans ha) (Rels.mono e _ ds _ hr fun a z => k a (List.mem_cons_of_mem _ z))
theorem Rels.mono (e : Same B B') : ∀ (vs : List V) (ds : List D) (F : List Addr), Rels K mg B H vs ds F → (∀ a ∈ F, H' a = H a) → Rels K mg B' H' vs ds F
  | _, [], _, h, _ => by cases h; exact .nil
  | _, d :: ds, _, h, k => by
    cases h with
    | cons h1 h2 =>
      exact .cons (Rel.mono e _ d _ h1 fun a z => k a (List.mem_append_left _ z)) (Rels.mono e _ ds _ h2 fun a z => k a (List.mem_append_right _ z))
end
mutual
theorem Rel.frz_ (e : Same B B') : ∀ (v : V) (d : D) (F : List Addr), Rel K mg B H v d F → (∀ a ∈ F, ∀ o, H a = some o → B' a = some o) → Rel K mg B' H' v (frz d) []
  | _, .non, _, h, _ => by cases h; exact .non
  | _, .bl _, _, h, _ => by cases h; exact .bl _
  | _, .int _, _, h, _ => by cases h; exact .int _
  | _, .str _, _, h, _ => by cases h; exact .str _
  | _, .cls _, _, h, _ => by cases h with | cls hm => exact .cls hm
  | _, .scr _, _, h, _ => by cases h with | scr hm => exact .scr (sqL_mono e hm)
  | _, .exc _ _, _, h, _ => by cases h; exact .exc
  | _, .txs _, _, h, _ => by cases h with | txs a b c => exact .txs (e _ _ a) b c
  | _, .rng _ _, _, h, _ => by cases h with | rng a => exact .rng (e _ _ a)
  | _, .tup ds, _, h, k => by
    cases h with | tup hs hr => exact .tup (sqT_mono e hs) (Rels.frz_ e _ ds _ hr k)
  | _, .lst false ds, _, h, k => by
    cases h with | fl hs hr => exact .fl (e _ _ hs) (Rels.frz_ e _ ds _ hr (fun _ z => nomatch z))
  | _, .lst true ds, _, h, k => by
    cases h with
    | ol ha hr =>
      exact .fl (k _ (List.mem_cons_self ..) _ ha) (Rels.frz_ e _ ds _ hr fun a z => k a (List.mem_cons_of_mem _ z))
theorem Rels.frz_ (e : Same B B') : ∀ (vs : List V) (ds : List D) (F : List Addr), Rels K mg B H vs ds F → (∀ a ∈ F, ∀ o, H a = some o → B' a = some o) → Rels K mg B' H' vs (frzL ds) []
  | _, [], _, h, _ => by cases h; exact .nil
  | _, d :: ds, _, h, k => by
    cases h with
    | cons h1 h2 =>
      exact .cons (F := []) (G := []) (Rel.frz_ e _ d _ h1 fun a z => k a (List.mem_append_left _ z)) (Rels.frz_ e _ ds _ h2 fun a z => k a (List.mem_append_right _ z))
end
mutual
theorem Rel.stbF : ∀ (v : V) (d : D) (F : List Addr), Rel K mg B H v d F → stb d = true → F = []
  | _, .non, _, h, _ => by cases h; rfl
  | _, .bl _, _, h, _ => by cases h; rfl
  | _, .int _, _, h, _ => by cases h; rfl
  | _, .str _, _, h, _ => by cases h; rfl
  | _, .cls _, _, h, _ => by cases h; rfl
  | _, .scr _, _, h, _ => by cases h; rfl
  | _, .exc _ _, _, h, _ => by cases h; rfl
  | _, .txs _, _, h, _ => by cases h; rfl
  | _, .rng _ _, _, h, _ => by cases h; rfl
  | _, .tup ds, _, h, k => by
    cases h with | tup hs hr => exact Rels.stbF _ ds _ hr (by simpa only [stb] using k)
  | _, .lst false ds, _, h, k => by
    cases h with | fl hs hr => rfl
  | _, .lst true ds, _, h, k => by simp [stb] at k
theorem Rels.stbF : ∀ (vs : List V) (ds : List D) (F : List Addr), Rels K mg B H vs ds F → stbL ds = true → F = []
  | _, [], _, h, _ => by cases h; rfl
  | _, d :: ds, _, h, k => by
    simp only [stbL, Bool.and_eq_true] at k
    cases h with
    | cons h1 h2 => rw [Rel.stbF _ d _ h1 k.1, Rels.stbF _ ds _ h2 k.2]; rfl
end
mutual
/-- every own cell is a list of H -/
theorem Rel.cell : ∀ (v : V) (d : D) (F : List Addr), Rel K mg B H v d F → ∀ a ∈ F, ∃ vs, H a = some (.lst vs)
  | _, .non, _, h, _, k => by cases h; cases k
  | _, .bl _, _, h, _, k => by cases h; cases k
  | _, .int _, _, h, _, k => by cases h; cases k
  | _, .str _, _, h, _, k => by cases h; cases k
  | _, .cls _, _, h, _, k => by cases h; cases k
  | _, .scr _, _, h, _, k => by cases h; cases k
  | _, .exc _ _, _, h, _, k => by cases h; cases k
  | _, .txs _, _, h, _, k => by cases h; cases k
  | _, .rng _ _, _, h, _, k => by cases h; cases k
  | _, .tup ds, _, h, a, k => by
    cases h with | tup hs hr => exact Rels.cell _ ds _ hr a k
  | _, .lst false ds, _, h, _, k => by
    cases h; cases k
  | _, .lst true ds, _, h, a, k => by
    cases h with
    | ol ha hr =>
      rcases List.mem_cons.mp k with e | k
      · exact ⟨_, e ▸ ha⟩
      · exact Rels.cell _ ds _ hr a k
theorem Rels.cell : ∀ (vs : List V) (ds : List D) (F : List Addr), Rels K mg B H vs ds F → ∀ a ∈ F, ∃ vs, H a = some (.lst vs)
  | _, [], _, h, _, k => by cases h; cases k
  | _, d :: ds, _, h, a, k => by
    cases h with
    | cons h1 h2 =>
      rcases List.mem_append.mp k with k | k
      · exact Rel.cell _ d _ h1 a k
      · exact Rels.cell _ ds _ h2 a k
end
mutual
/-- from B down to a lesser one, where no list is shared -/
theorem Rel.less (e : ∀ a o, B a = some o → (∀ vs, o ≠ .lst vs) → B' a = some o) : ∀ (v : V) (d : D) (F : List Addr), Rel K mg B H v d F → nofl d = true → Rel K mg B' H v d F
  | _, .non, _, h, _ => by cases h; exact .non
  | _, .bl _, _, h, _ => by cases h; exact .bl _
  | _, .int _, _, h, _ => by cases h; exact .int _
  | _, .str _, _, h, _ => by cases h; exact .str _
  | _, .cls _, _, h, _ => by cases h with | cls hm => exact .cls hm
  | _, .scr _, _, h, k => by simp [nofl] at k
  | _, .exc _ _, _, h, _ => by cases h; exact .exc
  | _, .txs _, _, h, _ => by cases h with | txs a b c => exact .txs (e _ _ a fun _ z => nomatch z) b c
  | _, .rng _ _, _, h, _ => by cases h with | rng a => exact .rng (e _ _ a fun _ z => nomatch z)
  | _, .tup ds, _, h, k => by
    cases h with
    | tup hs hr =>
      refine .tup ?_ (Rels.less e _ ds _ hr (by simpa only [nofl] using k))
      rcases hs with (h | ⟨o, h⟩) | h
      · exact .inl (.inl (e _ _ h fun _ z => nomatch z))
      · exact .inl (.inr ⟨o, e _ _ h fun _ z => nomatch z⟩)
      · exact .inr h
  | _, .lst false ds, _, h, k => by simp [nofl] at k
  | _, .lst true ds, _, h, k => by
    cases h with | ol ha hr => exact .ol ha (Rels.less e _ ds _ hr (by simpa [nofl] using k))
theorem Rels.less (e : ∀ a o, B a = some o → (∀ vs, o ≠ .lst vs) → B' a = some o) : ∀ (vs : List V) (ds : List D) (F : List Addr), Rels K mg B H vs ds F → noflL ds = true → Rels K mg B' H vs ds F
  | _, [], _, h, _ => by cases h; exact .nil
  | _, d :: ds, _, h, k => by
    simp only [noflL, Bool.and_eq_true] at k
    cases h with | cons h1 h2 => exact .cons (Rel.less e _ d _ h1 k.1) (Rels.less e _ ds _ h2 k.2)
end
theorem Rels.length : ∀ {vs : List V} {ds : List D} {F : List Addr}, Rels K mg B H vs ds F → vs.length = ds.length
  | _, [], _, h => by cases h; rfl
  | _, d :: ds, _, h => by
    cases h with | cons h1 h2 => simp only [List.length_cons, Rels.length h2]
theorem Rels.get : ∀ {vs : List V} {ds : List D} {F : List Addr}, Rels K mg B H vs ds F → ∀ {i : Nat} {d : D}, ds[i]? = some d → ∃ v G, vs[i]? = some v ∧ Rel K mg B H v d G ∧ (∀ a ∈ G, a ∈ F) ∧ (F.Nodup → G.Nodup)
  | _, [], _, h, i, d, e => by simp at e
  | _, d :: ds, _, h, 0, d', e => by
    cases h with
    | cons h1 h2 =>
      simp at e; subst e
      exact ⟨_, _, rfl, h1, fun a z => List.mem_append_left _ z, fun n => (List.nodup_append.mp n).1⟩
  | _, d :: ds, _, h, i + 1, d', e => by
    cases h with
    | cons h1 h2 =>
      obtain ⟨v, G, e1, r, m, n⟩ := Rels.get h2 (i := i) (d := d') (by simpa using e)
      exact ⟨v, G, by simpa using e1, r, fun a z => List.mem_append_right _ (m a z), fun q => n (List.nodup_append.mp q).2.1⟩
theorem Rels.append : ∀ {vs ws : List V} {ds es : List D} {F G : List Addr}, Rels K mg B H vs ds F → Rels K mg B H ws es G → Rels K mg B H (vs ++ ws) (ds ++ es) (F ++ G)
  | _, _, [], _, _, _, h, g => by cases h; exact g
  | _, _, d :: ds, _, _, _, h, g => by
    cases h with
    | cons h1 h2 =>
      rw [List.append_assoc]
      exact .cons h1 (Rels.append h2 g)
end

/-- what is seen of a value at this moment -/
def View (K : PySem.W.Frag) (mg : Str → Option Value) (B H : Hp) (v : V) (d : D) : Prop := ∃ F, Rel K mg B H v d F
theorem View.stable {K : PySem.W.Frag} {mg : Str → Option Value} {B H : Hp} {v : V} {d : D} (w : View K mg B H v d) (s : stb d = true) : Rel K mg B H v d [] := by
  obtain ⟨F, h⟩ := w
  have := h.stbF _ _ _ s
  subst this
  exact h
theorem View.mono {K : PySem.W.Frag} {mg : Str → Option Value} {B B' H H' : Hp} {v : V} {d : D} (w : View K mg B H v d) (b : Same B B') (h : Same H H') : View K mg B' H' v d := by
  obtain ⟨F, r⟩ := w
  exact ⟨F, r.mono b _ _ _ fun a ha => by
    obtain ⟨vs, e⟩ := r.cell _ _ _ a ha
    rw [e, h _ _ e]⟩
theorem View.mono' {K : PySem.W.Frag} {mg : Str → Option Value} {B B' H H' : Hp} {v : V} {d : D} (w : View K mg B H v d) (b : Same B B') (s : stb d = true) : View K mg B' H' v d :=
  ⟨[], (w.stable s).mono b _ _ _ fun _ z => nomatch z⟩
end FM

set_option Elab.async false
set_option linter.all false
set_option maxRecDepth 100000
namespace FM
open PySem PySem.Spec PyProof.Rows L2

abbrev DEnv := List (Option D)
inductive Own where
  | s (i : Nat) | t (k : Nat)
  deriving DecidableEq
abbrev Col := Addr → Option Own

/-- what stood at a body's beginning: the heap, what was shared, what may be changed, the slots whose objects stay -/
structure Fx where
  H0 : Hp
  B0 : Hp
  IO : Addr → Option Nat
  io : List (Nat × V)

structure SR (K : PySem.W.Frag) (mg : Str → Option Value) (X : Fx) (st : L2.St) (r : DEnv) (ts : List (V × D)) (B H : Hp) (col : Col) : Prop where
  slot : ∀ i d, r[i]? = some (some d) → ∃ v F, st[i]? = some (some v) ∧ Rel K mg B H v d F ∧ F.Nodup ∧ ∀ a ∈ F, col a = some (.s i)
  temp : ∀ k v d, ts[k]? = some (v, d) → ∃ F, Rel K mg B H v d F ∧ F.Nodup ∧ ∀ a ∈ F, col a = some (.t k)
  bh : Same B H
  b0 : Same X.B0 B
  frame : ∀ a o, X.H0 a = some o → X.IO a = none → H a = some o
  stay : ∀ a o, X.H0 a = some o → ∃ o', H a = some o'
  new : ∀ a c, col a = some c → X.H0 a = none ∨ (∃ p ∈ X.io, X.IO a = some p.1 ∧ c = .s p.1)
  grow : ∀ a o, B a = some o → X.B0 a = some o ∨ X.H0 a = none
  nb : ∀ a c, col a = some c → B a = none
  th : ∀ a c, col a = some c → ∃ vs, H a = some (.lst vs)
  io : ∀ p ∈ X.io, st[p.1]? = some (some p.2)
  len : r.length = st.length

section
variable {K : PySem.W.Frag} {mg : Str → Option Value} {X : Fx} {st : L2.St} {r : DEnv} {ts : List (V × D)} {B H : Hp} {col : Col}

theorem same_new {H : Hp} {p : Addr} {o : HO} (h : H p = none) : Same H (upd H p o) := fun b x e => by
  rw [upd_ne (ne_of_none e h)]; exact e
theorem same_upd2 {B H : Hp} {p : Addr} {o : HO} (e : Same B H) (h : B p = none) : Same B (upd H p o) := fun b x q => by
  rw [upd_ne (ne_of_none q h)]; exact e b x q
theorem same_both {B H : Hp} {p : Addr} {o : HO} (e : Same B H) : Same (upd B p o) (upd H p o) := fun b x q => by
  by_cases hb : b = p
  · subst hb; rw [upd_same] at q ⊢; exact q
  · rw [upd_ne hb] at q ⊢; exact e b x q

theorem SR.fresh (s : SR K mg X st r ts B H col) {p : Addr} (h : H p = none) : B p = none ∧ X.B0 p = none ∧ col p = none ∧ X.H0 p = none := by
  have hb : B p = none := s.bh.free h
  refine ⟨hb, s.b0.free hb, ?_, ?_⟩
  · cases e : col p with
    | none => rfl
    | some c => obtain ⟨vs, q⟩ := s.th p c e; rw [h] at q; cases q
  · cases e : X.H0 p with
    | none => rfl
    | some o => obtain ⟨o', q⟩ := s.stay p o e; rw [h] at q; cases q

/-- forgetting the last temps -/
theorem SR.drop (s : SR K mg X st r (ts ++ us) B H col) : SR K mg X st r ts B H col :=
  ⟨s.slot, fun k v d e => s.temp k v d (by rw [List.getElem?_append_left]; exact e; exact (List.getElem?_eq_some_iff.mp e).1), s.bh, s.b0, s.frame, s.stay, s.new, s.grow, s.nb, s.th, s.io, s.len⟩
/-- a stable thing more -/
theorem SR.push (s : SR K mg X st r ts B H col) {v : V} {d : D} (h : Rel K mg B H v d []) : SR K mg X st r (ts ++ [(v, d)]) B H col :=
  ⟨s.slot, fun k v' d' e => by
    by_cases hk : k < ts.length
    · exact s.temp k v' d' (by rw [List.getElem?_append_left hk] at e; exact e)
    · rw [List.getElem?_append_right (by omega)] at e
      obtain ⟨h1, h2⟩ := List.getElem?_eq_some_iff.mp e
      have : k - ts.length = 0 := by simpa using h1
      simp [this] at h2
      obtain ⟨rfl, rfl⟩ := h2
      exact ⟨[], h, List.nodup_nil, fun _ z => nomatch z⟩, s.bh, s.b0, s.frame, s.stay, s.new, s.grow, s.nb, s.th, s.io, s.len⟩
/-- env with fewer entries -/
theorem SR.less (s : SR K mg X st r ts B H col) {r' : DEnv} (hl : r'.length = r.length) (h : ∀ (i : Nat) (d : D), r'[i]? = some (some d) → r[i]? = some (some d)) : SR K mg X st r' ts B H col :=
  ⟨fun i d e => s.slot i d (h i d e), s.temp, s.bh, s.b0, s.frame, s.stay, s.new, s.grow, s.nb, s.th, s.io, hl.trans s.len⟩

theorem last_at {α : Type} {l : List α} {x y : α} {k : Nat} (e : (l ++ [x])[k]? = some y) : (k < l.length ∧ l[k]? = some y) ∨ (k = l.length ∧ x = y) := by
  by_cases hk : k < l.length
  · exact .inl ⟨hk, by rw [List.getElem?_append_left hk] at e; exact e⟩
  · rw [List.getElem?_append_right (by omega)] at e
    obtain ⟨h1, h2⟩ := List.getElem?_eq_some_iff.mp e
    have h0 : k - l.length = 0 := by simpa using h1
    simp only [h0, List.getElem_cons_zero] at h2
    exact .inr ⟨by omega, h2⟩

/-- all cells of one owner made shared -/
def frzB (col : Col) (c : Own) (B H : Hp) : Hp := fun a => if col a = some c then H a else B a
def frzC (col : Col) (c : Own) : Col := fun a => if col a = some c then none else col a
theorem frzC_some {col : Col} {c c' : Own} {a : Addr} (e : frzC col c a = some c') : col a = some c' ∧ c' ≠ c := by
  unfold frzC at e
  split at e
  · cases e
  · rename_i h
    exact ⟨e, fun z => h (z ▸ e)⟩
theorem SR.sameF (s : SR K mg X st r ts B H col) (c : Own) : Same B (frzB col c B H) := fun a o e => by
  unfold frzB
  split
  · exact s.bh a o e
  · exact e
theorem SR.sameFH (s : SR K mg X st r ts B H col) (c : Own) : Same (frzB col c B H) H := fun a o e => by
  unfold frzB at e
  split at e
  · exact e
  · exact s.bh a o e
theorem SR.keepF (s : SR K mg X st r ts B H col) {c c' : Own} (hne : c' ≠ c) {v : V} {d : D} {F : List Addr} (h : Rel K mg B H v d F) (hc : ∀ a ∈ F, col a = some c') : Rel K mg (frzB col c B H) H v d F ∧ ∀ a ∈ F, frzC col c a = some c' := by
  refine ⟨h.mono (s.sameF c) _ _ _ fun _ _ => rfl, fun a ha => ?_⟩
  unfold frzC
  rw [if_neg (by rw [hc a ha]; intro z; exact hne (Option.some.inj z)), hc a ha]
theorem SR.goneF (s : SR K mg X st r ts B H col) {c : Own} {v : V} {d : D} {F : List Addr} (h : Rel K mg B H v d F) (hc : ∀ a ∈ F, col a = some c) : Rel K mg (frzB col c B H) H v (frz d) [] :=
  h.frz_ (s.sameF c) _ _ _ fun a ha o q => by unfold frzB; rw [if_pos (hc a ha)]; exact q
theorem SR.growF (s : SR K mg X st r ts B H col) {c : Own} (hio : ∀ p ∈ X.io, c ≠ .s p.1) : ∀ a o, frzB col c B H a = some o → X.B0 a = some o ∨ X.H0 a = none := fun a o e => by
  unfold frzB at e
  split at e
  · rename_i h
    rcases s.new a _ h with z | ⟨p, hp, _, z⟩
    · exact .inr z
    · exact absurd z (hio p hp)
  · exact s.grow a o e
theorem SR.nbF (s : SR K mg X st r ts B H col) {c c' : Own} {a : Addr} (e : frzC col c a = some c') : frzB col c B H a = none := by
  obtain ⟨h1, h2⟩ := frzC_some e
  unfold frzB
  rw [if_neg (by rw [h1]; intro z; exact h2 (Option.some.inj z))]
  exact s.nb a _ h1

/-- the last temp made shared -/
theorem SR.freezeTop {v : V} {d : D} (s : SR K mg X st r (ts ++ [(v, d)]) B H col) : SR K mg X st r (ts ++ [(v, frz d)]) (frzB col (.t ts.length) B H) H (frzC col (.t ts.length)) := by
  refine ⟨fun i d e => ?_, fun k v' d' e => ?_, s.sameFH _, fun a o e => s.sameF _ a o (s.b0 a o e), s.frame, s.stay, fun a c e => s.new a c (frzC_some e).1, s.growF fun _ _ z => (nomatch z), fun a c e => s.nbF e, fun a c e => s.th a c (frzC_some e).1, s.io, by simp [s.len]⟩
  · obtain ⟨v, F, e1, h, n, c⟩ := s.slot i d e
    obtain ⟨h', c'⟩ := s.keepF (c := .t ts.length) (by intro z; cases z) h c
    exact ⟨v, F, e1, h', n, c'⟩
  · rcases last_at e with ⟨hk, e⟩ | ⟨rfl, e3⟩
    · obtain ⟨F, h, n, c⟩ := s.temp k v' d' (by rw [List.getElem?_append_left hk]; exact e)
      obtain ⟨h', c'⟩ := s.keepF (c := .t ts.length) (by intro z; injection z with z; omega) h c
      exact ⟨F, h', n, c'⟩
    · cases e3
      obtain ⟨F, h, n, c⟩ := s.temp ts.length v d (by simp)
      exact ⟨[], s.goneF h c, List.nodup_nil, fun _ z => nomatch z⟩
/-- a slot made shared, and handed out -/
theorem SR.freezeSlot (s : SR K mg X st r ts B H col) {i : Nat} (hio : ∀ p ∈ X.io, p.1 ≠ i) {d : D} (e : r[i]? = some (some d)) :
    ∃ v, st[i]? = some (some v) ∧ SR K mg X st (r.set i (some (frz d))) (ts ++ [(v, frz d)]) (frzB col (.s i) B H) H (frzC col (.s i)) := by
  obtain ⟨v, F, e1, h, n, c⟩ := s.slot i d e
  have g := s.goneF h c
  refine ⟨v, e1, SR.push ⟨fun j d' e' => ?_, fun k v' d' e => ?_, s.sameFH _, fun a o e => s.sameF _ a o (s.b0 a o e), s.frame, s.stay, fun a c e => s.new a c (frzC_some e).1, s.growF fun p hp z => hio p hp (by injection z with z; exact z.symm), fun a c e => s.nbF e, fun a c e => s.th a c (frzC_some e).1, s.io, by simp [s.len]⟩ g⟩
  · by_cases hj : j = i
    · subst hj
      rw [List.getElem?_set_self (List.getElem?_eq_some_iff.mp e).1] at e'
      cases e'
      exact ⟨v, [], e1, g, List.nodup_nil, fun _ z => nomatch z⟩
    · rw [List.getElem?_set_ne (Ne.symm hj)] at e'
      obtain ⟨v, F, e1, h, n, c⟩ := s.slot j d' e'
      obtain ⟨h', c'⟩ := s.keepF (c := .s i) (by intro z; injection z with z; exact hj z) h c
      exact ⟨v, F, e1, h', n, c'⟩
  · obtain ⟨F, h, n, c⟩ := s.temp k v' d' e
    obtain ⟨h', c'⟩ := s.keepF (c := .s i) (by intro z; cases z) h c
    exact ⟨F, h', n, c'⟩

/-- one owner's cells handed to another, who has none -/
def movC (col : Col) (c c' : Own) : Col := fun a => if col a = some c then some c' else if col a = some c' then none else col a
theorem movC_some {col : Col} {c c' x : Own} {a : Addr} (e : movC col c c' a = some x) : (x = c' ∧ col a = some c) ∨ (x ≠ c' ∧ x ≠ c ∧ col a = some x) := by
  unfold movC at e
  split at e
  · rename_i h; cases e; exact .inl ⟨rfl, h⟩
  · split at e
    · cases e
    · rename_i h1 h2
      exact .inr ⟨fun z => h2 (z ▸ e), fun z => h1 (z ▸ e), e⟩
theorem movC_any {col : Col} {c c' x : Own} {a : Addr} (e : movC col c c' a = some x) : ∃ y, col a = some y := by
  rcases movC_some e with ⟨_, h⟩ | ⟨_, _, h⟩ <;> exact ⟨_, h⟩
theorem movC_to {col : Col} {c c' : Own} {a : Addr} (e : col a = some c) : movC col c c' a = some c' := by unfold movC; rw [if_pos e]
theorem movC_keep {col : Col} {c c' x : Own} {a : Addr} (e : col a = some x) (h : x ≠ c) (h' : x ≠ c') : movC col c c' a = some x := by
  unfold movC
  rw [if_neg (by rw [e]; intro z; exact h (Option.some.inj z)), if_neg (by rw [e]; intro z; exact h' (Option.some.inj z)), e]

/-- a slot's thing taken out of it -/
theorem SR.takeSlot (s : SR K mg X st r ts B H col) {i : Nat} (hio : ∀ p ∈ X.io, p.1 ≠ i) {d : D} (e : r[i]? = some (some d)) :
    ∃ v, st[i]? = some (some v) ∧ SR K mg X st (r.set i none) (ts ++ [(v, d)]) B H (movC col (.s i) (.t ts.length)) := by
  obtain ⟨v, F, e1, h, n, c⟩ := s.slot i d e
  have hi := (List.getElem?_eq_some_iff.mp e).1
  refine ⟨v, e1, ⟨fun j d' e' => ?_, fun k v' d' e => ?_, s.bh, s.b0, s.frame, s.stay, fun a c e => ?_, s.grow, fun a c e => ?_, fun a c e => ?_, s.io, by simp [s.len]⟩⟩
  · by_cases hj : j = i
    · subst hj
      rw [List.getElem?_set_self hi] at e'; cases e'
    · rw [List.getElem?_set_ne (Ne.symm hj)] at e'
      obtain ⟨v, F, e1, h, n, c⟩ := s.slot j d' e'
      exact ⟨v, F, e1, h, n, fun a ha => movC_keep (c a ha) (by intro z; injection z with z; exact hj z) (by intro z; cases z)⟩
  · rcases last_at e with ⟨hk, e⟩ | ⟨rfl, e3⟩
    · obtain ⟨F, h, n, c⟩ := s.temp k v' d' e
      exact ⟨F, h, n, fun a ha => movC_keep (c a ha) (by intro z; cases z) (by intro z; injection z with z; omega)⟩
    · cases e3
      exact ⟨F, h, n, fun a ha => movC_to (c a ha)⟩
  · rcases movC_some e with ⟨rfl, h⟩ | ⟨_, _, h⟩
    · rcases s.new a _ h with z | ⟨p, hp, _, z⟩
      · exact .inl z
      · exact absurd (by injection z with z; exact z.symm) (hio p hp)
    · exact s.new a c h
  · obtain ⟨y, h⟩ := movC_any e; exact s.nb a y h
  · obtain ⟨y, h⟩ := movC_any e; exact s.th a y h

/-- the only temp stored into a slot -/
theorem SR.store {v : V} {d : D} (s : SR K mg X st r (ts ++ [(v, d)]) B H col) {i : Nat} (hio : ∀ p ∈ X.io, p.1 ≠ i) (hl : i < st.length) : SR K mg X (st.set i (some v)) (r.set i (some d)) ts B H (movC col (.t ts.length) (.s i)) := by
  obtain ⟨F, h, n, c⟩ := s.temp ts.length v d (by simp)
  refine ⟨fun j d' e' => ?_, fun k v' d' e => ?_, s.bh, s.b0, s.frame, s.stay, fun a c e => ?_, s.grow, fun a c e => ?_, fun a c e => ?_, fun p hp => ?_, by simp [s.len]⟩
  · by_cases hj : j = i
    · subst hj
      have hi : j < r.length := by
        have := (List.getElem?_eq_some_iff.mp e').1
        simpa using this
      rw [List.getElem?_set_self hi] at e'; cases e'
      exact ⟨v, F, List.getElem?_set_self hl, h, n, fun a ha => movC_to (c a ha)⟩
    · rw [List.getElem?_set_ne (Ne.symm hj)] at e'
      obtain ⟨v, F, e1, h, n, c⟩ := s.slot j d' e'
      exact ⟨v, F, by rw [List.getElem?_set_ne (Ne.symm hj)]; exact e1, h, n, fun a ha => movC_keep (c a ha) (by intro z; cases z) (by intro z; injection z with z; exact hj z)⟩
  · obtain ⟨F, h, n, c⟩ := s.temp k v' d' (by rw [List.getElem?_append_left (List.getElem?_eq_some_iff.mp e).1]; exact e)
    have hk := (List.getElem?_eq_some_iff.mp e).1
    exact ⟨F, h, n, fun a ha => movC_keep (c a ha) (by intro z; injection z with z; omega) (by intro z; cases z)⟩
  · rcases movC_some e with ⟨rfl, h⟩ | ⟨_, _, h⟩
    · rcases s.new a _ h with z | ⟨p, hp, _, z⟩
      · exact .inl z
      · cases z
    · exact s.new a c h
  · obtain ⟨y, h⟩ := movC_any e; exact s.nb a y h
  · obtain ⟨y, h⟩ := movC_any e; exact s.th a y h
  · rw [List.getElem?_set_ne (Ne.symm (hio p hp))]; exact s.io p hp

/-- what a slot holds, seen -/
theorem SR.viewSlot (s : SR K mg X st r ts B H col) {i : Nat} {d : D} (e : r[i]? = some (some d)) : ∃ v, st[i]? = some (some v) ∧ View K mg B H v d := by
  obtain ⟨v, F, e1, h, n, c⟩ := s.slot i d e
  exact ⟨v, e1, F, h⟩
theorem SR.viewTop0 {v : V} {d : D} (s : SR K mg X st r [(v, d)] B H col) : View K mg B H v d := by
  obtain ⟨F, h, n, c⟩ := s.temp 0 v d rfl
  exact ⟨F, h⟩
theorem SR.viewTop {v : V} {d : D} (s : SR K mg X st r (ts ++ [(v, d)]) B H col) : View K mg B H v d := by
  obtain ⟨F, h, n, c⟩ := s.temp ts.length v d (by simp)
  exact ⟨F, h⟩
theorem SR.relTop {v : V} {d : D} (s : SR K mg X st r (ts ++ [(v, d)]) B H col) (hs : stb d = true) : Rel K mg B H v d [] := s.viewTop.stable hs

/-! ### several temps laid into one object -/
theorem gather {m : Nat} : ∀ (vds : List (V × D)) (m : Nat), (∀ k v d, vds[k]? = some (v, d) → ∃ F, Rel K mg B H v d F ∧ F.Nodup ∧ ∀ a ∈ F, col a = some (.t (m + k))) →
    ∃ F, Rels K mg B H (vds.map (·.1)) (vds.map (·.2)) F ∧ F.Nodup ∧ ∀ a ∈ F, ∃ k, m ≤ k ∧ col a = some (.t k)
  | [], m, _ => ⟨[], .nil, List.nodup_nil, fun _ z => nomatch z⟩
  | (v, d) :: vds, m, h => by
    obtain ⟨F, r1, n1, c1⟩ := h 0 v d rfl
    obtain ⟨G, r2, n2, c2⟩ := gather (m := m) vds (m + 1) fun k v' d' e => by
      obtain ⟨F', a, b, c⟩ := h (k + 1) v' d' (by simpa using e)
      exact ⟨F', a, b, fun x hx => by rw [c x hx]; congr 2; omega⟩
    refine ⟨F ++ G, .cons r1 r2, List.nodup_append.mpr ⟨n1, n2, fun a ha b hb e => ?_⟩, fun a ha => ?_⟩
    · subst e
      obtain ⟨k, hk, q⟩ := c2 a hb
      rw [c1 a ha] at q
      injection q with q; injection q with q; omega
    · rcases List.mem_append.mp ha with z | z
      · exact ⟨m, Nat.le_refl _, by have := c1 a z; simpa using this⟩
      · obtain ⟨k, hk, q⟩ := c2 a z
        exact ⟨k, by omega, q⟩
def gatC (col : Col) (m : Nat) : Col := fun a => match col a with
  | some (.t k) => if m ≤ k then some (.t m) else some (.t k)
  | x => x
theorem gatC_any {m : Nat} {a : Addr} {c : Own} (e : gatC col m a = some c) : ∃ c', col a = some c' ∧ (∀ i, c = .s i → c' = .s i) := by
  unfold gatC at e
  split at e
  · rename_i k h
    refine ⟨_, h, fun i z => ?_⟩
    split at e <;> (cases e; cases z)
  · exact ⟨c, e, fun i z => z⟩
theorem gatC_to {m k : Nat} {a : Addr} (e : col a = some (.t k)) (h : m ≤ k) : gatC col m a = some (.t m) := by
  unfold gatC; rw [e]; simp [h]
theorem gatC_t {m k : Nat} {a : Addr} (e : col a = some (.t k)) (h : k < m) : gatC col m a = some (.t k) := by
  unfold gatC; rw [e]; simp; omega
theorem gatC_s {m i : Nat} {a : Addr} (e : col a = some (.s i)) : gatC col m a = some (.s i) := by
  unfold gatC; rw [e]
theorem SR.gathered {vds : List (V × D)} (s : SR K mg X st r (ts ++ vds) B H col) : ∃ F, Rels K mg B H (vds.map (·.1)) (vds.map (·.2)) F ∧ F.Nodup ∧ (∀ a ∈ F, gatC col ts.length a = some (.t ts.length)) ∧ SR K mg X st r ts B H (gatC col ts.length) := by
  obtain ⟨F, h, n, c⟩ := gather (m := 0) vds ts.length fun k v d e => s.temp (ts.length + k) v d (by rw [List.getElem?_append_right (by omega)]; simpa using e)
  refine ⟨F, h, n, fun a ha => ?_, fun i d e => ?_, fun k v d e => ?_, s.bh, s.b0, s.frame, s.stay, fun a c e => ?_, s.grow, fun a c e => ?_, fun a c e => ?_, s.io, s.len⟩
  · obtain ⟨k, hk, q⟩ := c a ha
    exact gatC_to q hk
  · obtain ⟨v, F, e1, h, n, c⟩ := s.slot i d e
    exact ⟨v, F, e1, h, n, fun a ha => gatC_s (c a ha)⟩
  · have hk := (List.getElem?_eq_some_iff.mp e).1
    obtain ⟨F, h, n, c⟩ := s.temp k v d (by rw [List.getElem?_append_left hk]; exact e)
    exact ⟨F, h, n, fun a ha => gatC_t (c a ha) hk⟩
  · obtain ⟨c', h, hs⟩ := gatC_any e
    rcases s.new a c' h with z | ⟨p, hp, z, q⟩
    · exact .inl z
    · refine .inr ⟨p, hp, z, ?_⟩
      unfold gatC at e
      rw [h, q] at e
      exact (Option.some.inj e).symm
  · obtain ⟨c', h, _⟩ := gatC_any e; exact s.nb a c' h
  · obtain ⟨c', h, _⟩ := gatC_any e; exact s.th a c' h

/-- a new thing that never changes -/
theorem SR.laidB (s : SR K mg X st r ts B H col) {p : Addr} (hp : H p = none) (o : HO) : SR K mg X st r ts (upd B p o) (upd H p o) col := by
  obtain ⟨f1, f2, f3, f4⟩ := s.fresh hp
  have sb : Same B (upd B p o) := same_new f1
  have ne : ∀ {a c}, col a = some c → a ≠ p := fun e z => by rw [z, f3] at e; cases e
  have kp : ∀ {v d F c}, Rel K mg B H v d F → (∀ a ∈ F, col a = some c) → Rel K mg (upd B p o) (upd H p o) v d F := fun h c => h.mono sb _ _ _ fun a ha => upd_ne (ne (c a ha))
  refine ⟨fun i d e => ?_, fun k v d e => ?_, same_both s.bh, fun a o' e => sb a o' (s.b0 a o' e), fun a o' e n => ?_, fun a o' e => ?_, s.new, fun a o' e => ?_, fun a c e => ?_, fun a c e => ?_, s.io, s.len⟩
  · obtain ⟨v, F, e1, h, n, c⟩ := s.slot i d e
    exact ⟨v, F, e1, kp h c, n, c⟩
  · obtain ⟨F, h, n, c⟩ := s.temp k v d e
    exact ⟨F, kp h c, n, c⟩
  · rw [upd_ne (ne_of_none e f4)]; exact s.frame a o' e n
  · rw [upd_ne (ne_of_none e f4)]; exact s.stay a o' e
  · by_cases hb : a = p
    · exact .inr (hb ▸ f4)
    · rw [upd_ne hb] at e; exact s.grow a o' e
  · rw [upd_ne (ne e)]; exact s.nb a c e
  · rw [upd_ne (ne e)]; exact s.th a c e
/-- a new tuple of the last temps -/
theorem SR.tuple {vds : List (V × D)} (s : SR K mg X st r (ts ++ vds) B H col) {p : Addr} (hp : H p = none) :
    SR K mg X st r (ts ++ [(.ref p, .tup (vds.map (·.2)))]) (upd B p (.tup (vds.map (·.1)))) (upd H p (.tup (vds.map (·.1)))) (gatC col ts.length) ∧ Same B (upd B p (.tup (vds.map (·.1)))) := by
  obtain ⟨F, h, n, c, s1⟩ := s.gathered
  obtain ⟨f1, f2, f3, f4⟩ := s1.fresh hp
  have s2 := s1.laidB hp (.tup (vds.map (·.1)))
  refine ⟨⟨s2.slot, fun k v d e => ?_, s2.bh, s2.b0, s2.frame, s2.stay, s2.new, s2.grow, s2.nb, s2.th, s2.io, s2.len⟩, same_new f1⟩
  rcases last_at e with ⟨hk, e⟩ | ⟨rfl, e3⟩
  · exact s2.temp k v d e
  · cases e3
    refine ⟨F, .tup (.inl (.inl upd_same)) (h.mono (same_new f1) _ _ _ fun a ha => upd_ne fun z => ?_), n, c⟩
    have := c a ha
    rw [z, f3] at this; cases this
/-- a new list of the last temps -/
theorem SR.list {vds : List (V × D)} (s : SR K mg X st r (ts ++ vds) B H col) {p : Addr} (hp : H p = none) :
    SR K mg X st r (ts ++ [(.ref p, .lst true (vds.map (·.2)))]) B (upd H p (.lst (vds.map (·.1)))) (fun a => if a = p then some (.t ts.length) else gatC col ts.length a) := by
  obtain ⟨F, h, n, c, s1⟩ := s.gathered
  obtain ⟨f1, f2, f3, f4⟩ := s1.fresh hp
  have ne : ∀ {a c}, gatC col ts.length a = some c → a ≠ p := fun e z => by rw [z, f3] at e; cases e
  have kp : ∀ {v d F c}, Rel K mg B H v d F → (∀ a ∈ F, gatC col ts.length a = some c) → Rel K mg B (upd H p (.lst (vds.map (·.1)))) v d F := fun h c => h.mono (Same.refl B) _ _ _ fun a ha => upd_ne (ne (c a ha))
  have ck : ∀ {a c}, gatC col ts.length a = some c → (if a = p then some (Own.t ts.length) else gatC col ts.length a) = some c := fun e => by rw [if_neg (ne e)]; exact e
  refine ⟨fun i d e => ?_, fun k v d e => ?_, same_upd2 s.bh f1, s.b0, fun a o' e n => ?_, fun a o' e => ?_, fun a c e => ?_, s.grow, fun a c e => ?_, fun a c e => ?_, s.io, s.len⟩
  · obtain ⟨v, F, e1, h, n, c⟩ := s1.slot i d e
    exact ⟨v, F, e1, kp h c, n, fun a ha => ck (c a ha)⟩
  · rcases last_at e with ⟨hk, e⟩ | ⟨rfl, e3⟩
    · obtain ⟨F, h, n, c⟩ := s1.temp k v d e
      exact ⟨F, kp h c, n, fun a ha => ck (c a ha)⟩
    · cases e3
      refine ⟨p :: F, .ol upd_same (h.mono (Same.refl B) _ _ _ fun a ha => upd_ne (ne (c a ha))), List.nodup_cons.mpr ⟨fun z => ?_, n⟩, fun a ha => ?_⟩
      · exact ne (c p z) rfl
      · rcases List.mem_cons.mp ha with z | z
        · subst z; exact if_pos rfl
        · exact ck (c a z)
  · rw [upd_ne (ne_of_none e f4)]; exact s.frame a o' e n
  · rw [upd_ne (ne_of_none e f4)]; exact s.stay a o' e
  · split at e
    · rename_i z; exact .inl (z ▸ f4)
    · exact s1.new a c e
  · split at e
    · rename_i z; exact z ▸ f1
    · exact s1.nb a c e
  · split at e
    · rename_i z; subst z; exact ⟨_, upd_same⟩
    · rename_i z; rw [upd_ne z]; exact s1.th a c e
end
end FM

set_option Elab.async false
set_option linter.all false
set_option maxRecDepth 100000
namespace FM
open PySem PySem.Spec PyProof.Rows L2

/-- an exception: its class's name and what it bears -/
structure Exc where
  cls : Str
  fs : List (Str × Int) := []
def ExcRel (mg : Str → Option Value) (H : Hp) (x : Exc) (c : Value) (d : Option Addr) : Prop :=
  ∃ C, mg x.cls = some (.ref C) ∧ c = .ref C ∧ ((x.fs = [] ∧ d = none) ∨ (x.fs ≠ [] ∧ ∃ dd, d = some dd ∧ H dd = some (.xd (x.fs.map fun p => (p.1, V.int p.2)))))
def Link (mg : Str → Option Value) (fx : Fx) (Xd : Exc → Prop) (E : XK) : Prop :=
  ∀ x c d H', Xd x → ExcRel mg H' x c d → (∀ a o, fx.H0 a = some o → fx.IO a = none → H' a = some o) → (∀ a o, fx.H0 a = some o → ∃ o', H' a = some o') → E c d H'

abbrev XP := Exc → Prop
abbrev DE := DEnv → (D → DEnv → Prop) → XP → Prop
abbrev DT := DEnv → (Bool → DEnv → Prop) → XP → Prop
abbrev DA := DEnv → (List D → DEnv → Prop) → XP → Prop

/-- the ground of a judgement: what is wanted of exceptions, the slots whose objects stay -/
structure Gd where
  E : XK
  I : List Nat
structure Gd.Ok (g : Gd) (X : Cx) (fx : Fx) (Xd : XP) : Prop where
  io : fx.io.map (·.1) = g.I
  link : Link X.mg fx Xd g.E
theorem Gd.Ok.ne {g : Gd} {X : Cx} {fx : Fx} {Xd : XP} (k : g.Ok X fx Xd) {i : Nat} (h : i ∉ g.I) : ∀ p ∈ fx.io, p.1 ≠ i := fun p hp e => h (by rw [← k.io]; exact e ▸ List.mem_map_of_mem hp)

/-- an expression whose value is taken -/
structure SE (X : Cx) (g : Gd) (q : Bool) (e : Expr) (t : DE) : Prop where
  run : ∃ te : TE, PE X e te ∧ ∀ (fx : Fx) (st : L2.St) (r : DEnv) (ts : List (V × D)) (B H : Hp) (col : Col) (Qd : D → DEnv → Prop) (Xd : XP) (Q : VK), g.Ok X fx Xd → SR X.K X.mg fx st r ts B H col → t r Qd Xd →
    (∀ v d r' B' H' col', Qd d r' → Same B B' → (q = true → Same H H') → SR X.K X.mg fx st r' (ts ++ [(v, d)]) B' H' col' → Q v H') → te st H Q
/-- an expression that is looked at -/
structure SB (X : Cx) (g : Gd) (q : Bool) (e : Expr) (t : DE) : Prop where
  run : ∃ te : TE, PE X e te ∧ ∀ (fx : Fx) (st : L2.St) (r : DEnv) (ts : List (V × D)) (B H : Hp) (col : Col) (Qd : D → DEnv → Prop) (Xd : XP) (Q : VK), g.Ok X fx Xd → SR X.K X.mg fx st r ts B H col → t r Qd Xd →
    (∀ v d r' B' H' col', Qd d r' → Same B B' → (q = true → Same H H') → SR X.K X.mg fx st r' ts B' H' col' → View X.K X.mg B' H' v d → Q v H') → te st H Q
structure ST (X : Cx) (g : Gd) (q : Bool) (e : Expr) (t : DT) : Prop where
  run : ∃ te : TT, PT X e te ∧ ∀ (fx : Fx) (st : L2.St) (r : DEnv) (ts : List (V × D)) (B H : Hp) (col : Col) (Qd : Bool → DEnv → Prop) (Xd : XP) (Q : Bool → Hp → Prop), g.Ok X fx Xd → SR X.K X.mg fx st r ts B H col → t r Qd Xd →
    (∀ b r' B' H' col', Qd b r' → Same B B' → (q = true → Same H H') → SR X.K X.mg fx st r' ts B' H' col' → Q b H') → te st H Q
/-- arguments whose values are taken -/
structure SA (X : Cx) (g : Gd) (q : Bool) (es : List Expr) (t : DA) : Prop where
  run : ∃ ta : TA, PA X es ta ∧ ∀ (fx : Fx) (st : L2.St) (r : DEnv) (ts : List (V × D)) (B H : Hp) (col : Col) (Qd : List D → DEnv → Prop) (Xd : XP) (Q : List V → Hp → Prop), g.Ok X fx Xd → SR X.K X.mg fx st r ts B H col → t r Qd Xd →
    (∀ vds r' B' H' col', Qd (vds.map (·.2)) r' → Same B B' → (q = true → Same H H') → SR X.K X.mg fx st r' (ts ++ vds) B' H' col' → Q (vds.map (·.1)) H') → ta st H Q

section
variable {X : Cx} {g : Gd}
theorem SE.sb {q : Bool} {e : Expr} {t : DE} (h : SE X g q e t) : SB X g q e t := by
  obtain ⟨te, pe, k⟩ := h.run
  exact ⟨te, pe, fun fx st r ts B H col Qd Xd Q ok s ht hQ => k fx st r ts B H col Qd Xd Q ok s ht fun v d r' B' H' col' q1 sB sH s' => hQ v d r' B' H' col' q1 sB sH s'.drop s'.viewTop⟩

/-- something is there, and it is so -/
def got {α : Type} (o : Option α) (P : α → Prop) : Prop := match o with
  | some z => P z
  | none => False
theorem got_some {α : Type} {z : α} {P : α → Prop} : got (some z) P = P z := rfl
theorem got_cases {α : Type} {o : Option α} {P : α → Prop} (h : got o P) : ∃ z, o = some z ∧ P z := by
  cases o with
  | none => exact h.elim
  | some z => exact ⟨z, rfl, h⟩
def slotAt : DEnv → Nat → Option D
  | [], _ => none
  | x :: _, 0 => x
  | _ :: r, i + 1 => slotAt r i
theorem slotAt_get : ∀ {r : DEnv} {i : Nat} {d : D}, slotAt r i = some d → r[i]? = some (some d)
  | [], _, _, h => by cases h
  | x :: _, 0, _, h => by simp only [slotAt] at h; simp [h]
  | _ :: r, i + 1, d, h => by simpa using slotAt_get (r := r) (i := i) (d := d) h
theorem get_cases {r : DEnv} {i : Nat} {P : D → Prop} (h : got (slotAt r i) P) : ∃ d, r[i]? = some (some d) ∧ P d := by
  obtain ⟨d, e, p⟩ := got_cases h
  exact ⟨d, slotAt_get e, p⟩

/-! ### names and constants -/
def dVar (i : Nat) : DE := fun r Q _ => got (slotAt r i) fun d => stb d = true ∧ Q d r
def dVarB (i : Nat) : DE := fun r Q _ => got (slotAt r i) fun d => Q d r
def dVarF (i : Nat) : DE := fun r Q _ => got (slotAt r i) fun d => Q (frz d) (r.set i (some (frz d)))
def dMov (i : Nat) : DE := fun r Q _ => got (slotAt r i) fun d => Q d (r.set i none)
def dC (d : D) : DE := fun r Q _ => Q d r
theorem sb_var {i : Nat} {e : Expr} (p : PE X e (tVar i)) : SB X g true e (dVarB i) := by
  refine ⟨_, p, fun fx st r ts B H col Qd Xd Q ok s ht hQ => ?_⟩
  obtain ⟨d, e1, h⟩ := get_cases ht
  obtain ⟨v, e2, w⟩ := s.viewSlot e1
  exact ⟨v, e2, hQ v d r B H col h (Same.refl B) (fun _ => Same.refl H) s w⟩
theorem se_var {i : Nat} {e : Expr} (p : PE X e (tVar i)) : SE X g true e (dVar i) := by
  refine ⟨_, p, fun fx st r ts B H col Qd Xd Q ok s ht hQ => ?_⟩
  obtain ⟨d, e1, hs, h⟩ := get_cases ht
  obtain ⟨v, e2, w⟩ := s.viewSlot e1
  exact ⟨v, e2, hQ v d r B H col h (Same.refl B) (fun _ => Same.refl H) (s.push (w.stable hs))⟩
theorem se_varF {i : Nat} {e : Expr} (p : PE X e (tVar i)) (hi : i ∉ g.I) : SE X g true e (dVarF i) := by
  refine ⟨_, p, fun fx st r ts B H col Qd Xd Q ok s ht hQ => ?_⟩
  obtain ⟨d, e1, h⟩ := get_cases ht
  obtain ⟨v, e2, s'⟩ := s.freezeSlot (ok.ne hi) e1
  exact ⟨v, e2, hQ v _ _ _ H _ h (s.sameF _) (fun _ => Same.refl H) s'⟩
theorem se_mov {i : Nat} {e : Expr} (p : PE X e (tVar i)) (hi : i ∉ g.I) : SE X g true e (dMov i) := by
  refine ⟨_, p, fun fx st r ts B H col Qd Xd Q ok s ht hQ => ?_⟩
  obtain ⟨d, e1, h⟩ := get_cases ht
  obtain ⟨v, e2, s'⟩ := s.takeSlot (ok.ne hi) e1
  exact ⟨v, e2, hQ v _ _ _ H _ h (Same.refl B) (fun _ => Same.refl H) s'⟩
theorem se_c {v : V} {d : D} {e : Expr} (p : PE X e (tC v)) (hr : ∀ B H, Rel X.K X.mg B H v d []) : SE X g true e (dC d) :=
  ⟨_, p, fun fx st r ts B H col Qd Xd Q ok s ht hQ => hQ v d r B H col ht (Same.refl B) (fun _ => Same.refl H) (s.push (hr B H))⟩
theorem se_int {i j pos} : SE X g true (.Constant (.int i) j pos) (dC (.int i)) := se_c pe_int fun _ _ => .int i
theorem se_bl {i j pos} : SE X g true (.Constant (.bool i) j pos) (dC (.bl i)) := se_c pe_bl fun _ _ => .bl i
theorem se_non {j pos} : SE X g true (.Constant .none j pos) (dC .non) := se_c pe_non fun _ _ => .non
theorem se_str {x j pos} : SE X g true (.Constant (.str x) j pos) (dC (.str x)) := se_c pe_str fun _ _ => .str x

/-! ### operations whose answer is a number, a bool, a text -/
/-- the answer stands anywhere -/
def Atom (K : PySem.W.Frag) (mg : Str → Option Value) (w : V) (z : D) : Prop := ∀ B H, Rel K mg B H w z []
def OpA (X : Cx) (f : Value → Value → Sem Value) (gg : D → D → Option D) : Prop :=
  ∃ r : R2, OpR X f r ∧ ∀ (B H : Hp) (v u : V) (d e z : D) (Q : VK), Same B H → View X.K X.mg B H v d → View X.K X.mg B H u e → gg d e = some z → (∀ w, Atom X.K X.mg w z → Q w H) → r v u H Q
def dOp (gg : D → D → Option D) (ta tb : DE) : DE := fun r Q X => ta r (fun x r1 => tb r1 (fun y r2 => got (gg x y) fun z => Q z r2) X) X
/-- .. the second part may change things, so the first must not hang on them -/
def dOpS (gg : D → D → Option D) (ta tb : DE) : DE := fun r Q X => ta r (fun x r1 => stb x = true ∧ tb r1 (fun y r2 => got (gg x y) fun z => Q z r2) X) X
theorem se_bin {a b : Expr} {qa : Bool} {ta tb : DE} {op : Operator} {gg : D → D → Option D} {pos : Pos} (ho : OpA X (binaryOp op) gg) (ha : SB X g qa a ta) (hb : SB X g true b tb) : SE X g qa (.BinOp a op b pos) (dOp gg ta tb) := by
  obtain ⟨rr, pr, kr⟩ := ho
  obtain ⟨te, pe, ka⟩ := ha.run
  obtain ⟨te2, pe2, kb⟩ := hb.run
  refine ⟨_, pe_op pr pe pe2, fun fx st r ts B H col Qd Xd Q ok s ht hQ => ?_⟩
  refine ka fx st r ts B H col _ Xd _ ok s ht fun v d r1 B1 H1 c1 h1 sB sH s1 w1 => ?_
  refine kb fx st r1 ts B1 H1 c1 _ Xd _ ok s1 h1 fun u e r2 B2 H2 c2 h2 sB2 sH2 s2 w2 => ?_
  obtain ⟨z, ez, hz⟩ := got_cases h2
  exact kr B2 H2 v u d e z Q s2.bh (w1.mono sB2 (sH2 rfl)) w2 ez fun w hw => hQ w z r2 B2 H2 c2 hz (sB.trans sB2) (fun q => (sH q).trans (sH2 rfl)) (s2.push (hw B2 H2))
theorem se_binS {a b : Expr} {qa qb : Bool} {ta tb : DE} {op : Operator} {gg : D → D → Option D} {pos : Pos} (ho : OpA X (binaryOp op) gg) (ha : SB X g qa a ta) (hb : SB X g qb b tb) : SE X g (qa && qb) (.BinOp a op b pos) (dOpS gg ta tb) := by
  obtain ⟨rr, pr, kr⟩ := ho
  obtain ⟨te, pe, ka⟩ := ha.run
  obtain ⟨te2, pe2, kb⟩ := hb.run
  refine ⟨_, pe_op pr pe pe2, fun fx st r ts B H col Qd Xd Q ok s ht hQ => ?_⟩
  refine ka fx st r ts B H col _ Xd _ ok s ht fun v d r1 B1 H1 c1 ⟨hs, h1⟩ sB sH s1 w1 => ?_
  refine kb fx st r1 ts B1 H1 c1 _ Xd _ ok s1 h1 fun u e r2 B2 H2 c2 h2 sB2 sH2 s2 w2 => ?_
  obtain ⟨z, ez, hz⟩ := got_cases h2
  exact kr B2 H2 v u d e z Q s2.bh (w1.mono' sB2 hs) w2 ez fun w hw => hQ w z r2 B2 H2 c2 hz (sB.trans sB2) (fun q => by
    simp only [Bool.and_eq_true] at q
    exact (sH q.1).trans (sH2 q.2)) (s2.push (hw B2 H2))
theorem se_cmp {a b : Expr} {qa : Bool} {ta tb : DE} {op : CmpOp} {gg : D → D → Option D} {pos : Pos} (ho : OpA X (compareOp op) gg) (ha : SB X g qa a ta) (hb : SB X g true b tb) (hm : behindInMarks op b = false) : SE X g qa (.Compare a [op] [b] pos) (dOp gg ta tb) := by
  obtain ⟨rr, pr, kr⟩ := ho
  obtain ⟨te, pe, ka⟩ := ha.run
  obtain ⟨te2, pe2, kb⟩ := hb.run
  refine ⟨_, pe_cmpR pr pe pe2 hm, fun fx st r ts B H col Qd Xd Q ok s ht hQ => ?_⟩
  refine ka fx st r ts B H col _ Xd _ ok s ht fun v d r1 B1 H1 c1 h1 sB sH s1 w1 => ?_
  refine kb fx st r1 ts B1 H1 c1 _ Xd _ ok s1 h1 fun u e r2 B2 H2 c2 h2 sB2 sH2 s2 w2 => ?_
  obtain ⟨z, ez, hz⟩ := got_cases h2
  exact kr B2 H2 v u d e z Q s2.bh (w1.mono sB2 (sH2 rfl)) w2 ez fun w hw => hQ w z r2 B2 H2 c2 hz (sB.trans sB2) (fun q => (sH q).trans (sH2 rfl)) (s2.push (hw B2 H2))
theorem se_cmpS {a b : Expr} {qa qb : Bool} {ta tb : DE} {op : CmpOp} {gg : D → D → Option D} {pos : Pos} (ho : OpA X (compareOp op) gg) (ha : SB X g qa a ta) (hb : SB X g qb b tb) (hm : behindInMarks op b = false) : SE X g (qa && qb) (.Compare a [op] [b] pos) (dOpS gg ta tb) := by
  obtain ⟨rr, pr, kr⟩ := ho
  obtain ⟨te, pe, ka⟩ := ha.run
  obtain ⟨te2, pe2, kb⟩ := hb.run
  refine ⟨_, pe_cmpR pr pe pe2 hm, fun fx st r ts B H col Qd Xd Q ok s ht hQ => ?_⟩
  refine ka fx st r ts B H col _ Xd _ ok s ht fun v d r1 B1 H1 c1 ⟨hs, h1⟩ sB sH s1 w1 => ?_
  refine kb fx st r1 ts B1 H1 c1 _ Xd _ ok s1 h1 fun u e r2 B2 H2 c2 h2 sB2 sH2 s2 w2 => ?_
  obtain ⟨z, ez, hz⟩ := got_cases h2
  exact kr B2 H2 v u d e z Q s2.bh (w1.mono' sB2 hs) w2 ez fun w hw => hQ w z r2 B2 H2 c2 hz (sB.trans sB2) (fun q => by
    simp only [Bool.and_eq_true] at q
    exact (sH q.1).trans (sH2 q.2)) (s2.push (hw B2 H2))

/-- ints -/
def gI (f : Int → Int → D) : D → D → Option D
  | .int i, .int j => some (f i j)
  | _, _ => none
def gIc (c : Int → Int → Bool) (f : Int → Int → D) : D → D → Option D
  | .int i, .int j => if c i j = true then some (f i j) else none
  | _, _ => none
theorem view_int {K : PySem.W.Frag} {mg : Str → Option Value} {B H : Hp} {v : V} {i : Int} (w : View K mg B H v (.int i)) : v = .int i := by
  obtain ⟨F, w⟩ := w
  cases w; rfl
theorem view_str {K : PySem.W.Frag} {mg : Str → Option Value} {B H : Hp} {v : V} {i : Str} (w : View K mg B H v (.str i)) : v = .str i := by
  obtain ⟨F, w⟩ := w
  cases w; rfl
theorem view_bl {K : PySem.W.Frag} {mg : Str → Option Value} {B H : Hp} {v : V} {i : Bool} (w : View K mg B H v (.bl i)) : v = .bl i := by
  obtain ⟨F, w⟩ := w
  cases w; rfl
theorem view_non {K : PySem.W.Frag} {mg : Str → Option Value} {B H : Hp} {v : V} (w : View K mg B H v .non) : v = .non := by
  obtain ⟨F, w⟩ := w
  cases w; rfl
theorem atom_int {K : PySem.W.Frag} {mg : Str → Option Value} {i : Int} : Atom K mg (.int i) (.int i) := fun _ _ => .int i
theorem atom_bl {K : PySem.W.Frag} {mg : Str → Option Value} {i : Bool} : Atom K mg (.bl i) (.bl i) := fun _ _ => .bl i
theorem atom_str {K : PySem.W.Frag} {mg : Str → Option Value} {i : Str} : Atom K mg (.str i) (.str i) := fun _ _ => .str i
theorem opa_I0 {f : Value → Value → Sem Value} {h : Int → Int → V} {h' : Int → Int → D} (o : OpR X f (rI0 h)) (ha : ∀ i j, Atom X.K X.mg (h i j) (h' i j)) : OpA X f (gI h') := by
  refine ⟨_, o, fun B H v u d e z Q bh w1 w2 hz hQ => ?_⟩
  unfold gI at hz
  split at hz
  · cases hz
    exact ⟨_, _, view_int w1, view_int w2, hQ _ (ha _ _)⟩
  · cases hz
theorem opa_I {f : Value → Value → Sem Value} {C : Int → Int → Prop} {c : Int → Int → Bool} {h : Int → Int → V} {h' : Int → Int → D} (o : OpR X f (rI C h)) (hc : ∀ i j, c i j = true → C i j) (ha : ∀ i j, Atom X.K X.mg (h i j) (h' i j)) : OpA X f (gIc c h') := by
  refine ⟨_, o, fun B H v u d e z Q bh w1 w2 hz hQ => ?_⟩
  unfold gIc at hz
  split at hz
  · split at hz
    · rename_i hh
      cases hz
      exact ⟨_, _, view_int w1, view_int w2, hc _ _ hh, hQ _ (ha _ _)⟩
    · cases hz
  · cases hz
abbrev gAdd := gI fun i j => .int (i + j)
abbrev gSub := gI fun i j => .int (i - j)
abbrev gMul := gIc (fun i j => decide ((-(2 ^ 64) < i ∧ i < 2 ^ 64) ∨ (-(2 ^ 64) < j ∧ j < 2 ^ 64))) fun i j => .int (i * j)
abbrev gDiv := gIc (fun i j => decide (0 < j ∧ j < 1073741824)) fun i j => .int (i / j)
abbrev gMod := gIc (fun i j => decide (0 < j)) fun i j => .int (i % j)
abbrev gPow := gIc (fun i j => decide (0 ≤ j ∧ j ≤ 1000000 ∧ i.natAbs < 2 ^ 64)) fun i j => .int (i ^ j.toNat)
theorem oa_sub : OpA X (binaryOp .Sub) gSub := opa_I0 op_sub fun _ _ => atom_int
theorem oa_mul : OpA X (binaryOp .Mult) gMul := opa_I op_mul (fun i j h => show (-(2 ^ 64) < i ∧ i < 2 ^ 64) ∨ (-(2 ^ 64) < j ∧ j < 2 ^ 64) from of_decide_eq_true h) fun _ _ => atom_int
theorem oa_div : OpA X (binaryOp .FloorDiv) gDiv := opa_I op_fdiv (fun i j h => show 0 < j ∧ j < 1073741824 from of_decide_eq_true h) fun _ _ => atom_int
theorem oa_mod : OpA X (binaryOp .Mod) gMod := opa_I op_mod (fun i j h => show 0 < j from of_decide_eq_true h) fun _ _ => atom_int
theorem oa_pow : OpA X (binaryOp .Pow) gPow := opa_I op_pow (fun i j h => show 0 ≤ j ∧ j ≤ 1000000 ∧ i.natAbs < 2 ^ 64 from of_decide_eq_true h) fun _ _ => atom_int
theorem oa_addI : OpA X (binaryOp .Add) gAdd := opa_I0 op_add fun _ _ => atom_int
def gAddS : D → D → Option D
  | .str x, .str y => if x.length + y.length ≤ sizeLine then some (.str (x ++ y)) else none
  | _, _ => none
theorem oa_addS : OpA X (binaryOp .Add) gAddS := by
  refine ⟨_, op_add_str, fun B H v u d e z Q bh w1 w2 hz hQ => ?_⟩
  unfold gAddS at hz
  split at hz
  · split at hz
    · rename_i hh
      cases hz
      exact ⟨_, _, view_str w1, view_str w2, hh, hQ _ atom_str⟩
    · cases hz
  · cases hz
abbrev gLt := gI fun i j => .bl (decide (i < j))
abbrev gLe := gI fun i j => .bl (decide (i ≤ j))
abbrev gGt := gI fun i j => .bl (decide (j < i))
abbrev gGe := gI fun i j => .bl (decide (j ≤ i))
theorem oa_lt : OpA X (compareOp .Lt) gLt := opa_I0 op_lt fun _ _ => atom_bl
theorem oa_le : OpA X (compareOp .LtE) gLe := opa_I0 op_le fun _ _ => atom_bl
theorem oa_gt : OpA X (compareOp .Gt) gGt := opa_I0 op_gt fun _ _ => atom_bl
theorem oa_ge : OpA X (compareOp .GtE) gGe := opa_I0 op_ge fun _ _ => atom_bl
/-- == of two numbers, two texts, or of anything and None -/
def gEqA (p : Bool → Bool) : D → D → Option D
  | .int i, .int j => some (.bl (p (decide (i = j))))
  | .str i, .str j => some (.bl (p (decide (i = j))))
  | .bl i, .bl j => some (.bl (p (decide (i = j))))
  | _, _ => none
theorem decV_int {i j : Int} : decide (V.int i = V.int j) = decide (i = j) := by by_cases h : i = j <;> simp [h]
theorem decV_str {i j : Str} : decide (V.str i = V.str j) = decide (i = j) := by by_cases h : i = j <;> simp [h]
theorem decV_bl {i j : Bool} : decide (V.bl i = V.bl j) = decide (i = j) := by by_cases h : i = j <;> simp [h]
theorem oa_eq : OpA X (compareOp .Eq) (gEqA id) := by
  refine ⟨_, op_eq, fun B H v u d e z Q bh w1 w2 hz hQ => ?_⟩
  unfold gEqA at hz
  split at hz
  · cases hz
    rw [view_int w1, view_int w2]
    exact ⟨rfl, by rw [decV_int]; exact hQ _ atom_bl⟩
  · cases hz
    rw [view_str w1, view_str w2]
    exact ⟨rfl, by rw [decV_str]; exact hQ _ atom_bl⟩
  · cases hz
    rw [view_bl w1, view_bl w2]
    exact ⟨rfl, by rw [decV_bl]; exact hQ _ atom_bl⟩
  · cases hz
theorem oa_ne : OpA X (compareOp .NotEq) (gEqA not) := by
  refine ⟨_, op_ne, fun B H v u d e z Q bh w1 w2 hz hQ => ?_⟩
  unfold gEqA at hz
  split at hz
  · cases hz
    rw [view_int w1, view_int w2]
    exact ⟨rfl, by rw [decV_int]; exact hQ _ atom_bl⟩
  · cases hz
    rw [view_str w1, view_str w2]
    exact ⟨rfl, by rw [decV_str]; exact hQ _ atom_bl⟩
  · cases hz
    rw [view_bl w1, view_bl w2]
    exact ⟨rfl, by rw [decV_bl]; exact hQ _ atom_bl⟩
  · cases hz
end
end FM

set_option Elab.async false
set_option linter.all false
set_option maxRecDepth 100000
namespace FM
open PySem PySem.Spec PyProof.Rows L2
section
variable {X : Cx} {g : Gd}

/-! ### arguments -/
def daNil : DA := fun r Q _ => Q [] r
def daCons (t : DE) (u : DA) : DA := fun r Q X => t r (fun d r1 => u r1 (fun ds r2 => Q (d :: ds) r2) X) X
theorem sa_nil : SA X g true [] daNil := ⟨_, pa_nil, fun fx st r ts B H col Qd Xd Q ok s ht hQ => hQ [] r B H col ht (Same.refl B) (fun _ => Same.refl H) (by simpa using s)⟩
theorem sa_cons {q1 q2 : Bool} {e : Expr} {es : List Expr} {t : DE} {u : DA} (ha : SE X g q1 e t) (hr : SA X g q2 es u) (hs : starEach (e :: es) X.env = (false, eval e X.env) :: starEach es X.env := by rfl) : SA X g (q1 && q2) (e :: es) (daCons t u) := by
  obtain ⟨te, pe, ka⟩ := ha.run
  obtain ⟨te2, pe2, kb⟩ := hr.run
  refine ⟨_, pa_cons pe pe2 hs, fun fx st r ts B H col Qd Xd Q ok s ht hQ => ?_⟩
  refine ka fx st r ts B H col _ Xd _ ok s ht fun v d r1 B1 H1 c1 h1 sB sH s1 => ?_
  refine kb fx st r1 (ts ++ [(v, d)]) B1 H1 c1 _ Xd _ ok s1 h1 fun vds r2 B2 H2 c2 h2 sB2 sH2 s2 => ?_
  exact hQ ((v, d) :: vds) r2 B2 H2 c2 h2 (sB.trans sB2) (fun q => by
    simp only [Bool.and_eq_true] at q
    exact (sH q.1).trans (sH2 q.2)) (by simpa using s2)
def Small (n : Nat) : Prop := n ≤ 16777216
theorem Small.ok {n : Nat} (h : Small n) : n ≤ sizeLine := by rw [sizeLine_eq]; exact h
/-- (a, b) -/
def dTup (u : DA) : DE := fun r Q X => u r (fun ds r1 => Small ds.length ∧ Q (.tup ds) r1) X
def dLst (u : DA) : DE := fun r Q X => u r (fun ds r1 => Small ds.length ∧ Q (.lst true ds) r1) X
theorem se_tup {q : Bool} {es : List Expr} {u : DA} {x1 pos} (h : SA X g q es u) : SE X g q (.Tuple es x1 pos) (dTup u) := by
  obtain ⟨te, pe, ka⟩ := h.run
  refine ⟨_, pe_tup pe, fun fx st r ts B H col Qd Xd Q ok s ht hQ => ?_⟩
  refine ka fx st r ts B H col _ Xd _ ok s ht fun vds r1 B1 H1 c1 ⟨hz, h1⟩ sB sH s1 => ?_
  refine ⟨by have := hz.ok; simpa using this, fun p hp => ?_⟩
  obtain ⟨s2, sB2⟩ := s1.tuple hp
  exact hQ _ _ r1 _ _ _ h1 (sB.trans sB2) (fun q => (sH q).trans (same_new hp)) s2
theorem se_lst {q : Bool} {es : List Expr} {u : DA} {pos} (h : SA X g q es u) : SE X g q (.List es pos) (dLst u) := by
  obtain ⟨te, pe, ka⟩ := h.run
  refine ⟨_, pe_lst pe, fun fx st r ts B H col Qd Xd Q ok s ht hQ => ?_⟩
  refine ka fx st r ts B H col _ Xd _ ok s ht fun vds r1 B1 H1 c1 ⟨hz, h1⟩ sB sH s1 => ?_
  refine ⟨by have := hz.ok; simpa using this, fun p hp => ?_⟩
  exact hQ _ _ r1 _ _ _ h1 sB (fun q => (sH q).trans (same_new hp)) (s1.list hp)

/-! ### what is looked at -/
inductive Vws (K : PySem.W.Frag) (mg : Str → Option Value) (B H : Hp) : List V → List D → Prop
  | nil : Vws K mg B H [] []
  | cons {v : V} {vs : List V} {d : D} {ds : List D} : View K mg B H v d → Vws K mg B H vs ds → Vws K mg B H (v :: vs) (d :: ds)
structure SL (X : Cx) (g : Gd) (q : Bool) (es : List Expr) (t : DA) : Prop where
  run : ∃ ta : TA, PA X es ta ∧ ∀ (fx : Fx) (st : L2.St) (r : DEnv) (ts : List (V × D)) (B H : Hp) (col : Col) (Qd : List D → DEnv → Prop) (Xd : XP) (Q : List V → Hp → Prop), g.Ok X fx Xd → SR X.K X.mg fx st r ts B H col → t r Qd Xd →
    (∀ vs ds r' B' H' col', Qd ds r' → Same B B' → (q = true → Same H H') → SR X.K X.mg fx st r' ts B' H' col' → Vws X.K X.mg B' H' vs ds → Q vs H') → ta st H Q
theorem sl_nil : SL X g true [] daNil := ⟨_, pa_nil, fun fx st r ts B H col Qd Xd Q ok s ht hQ => hQ [] [] r B H col ht (Same.refl B) (fun _ => Same.refl H) s .nil⟩
theorem sl_cons {q1 : Bool} {e : Expr} {es : List Expr} {t : DE} {u : DA} (ha : SB X g q1 e t) (hr : SL X g true es u) (hs : starEach (e :: es) X.env = (false, eval e X.env) :: starEach es X.env := by rfl) : SL X g q1 (e :: es) (daCons t u) := by
  obtain ⟨te, pe, ka⟩ := ha.run
  obtain ⟨te2, pe2, kb⟩ := hr.run
  refine ⟨_, pa_cons pe pe2 hs, fun fx st r ts B H col Qd Xd Q ok s ht hQ => ?_⟩
  refine ka fx st r ts B H col _ Xd _ ok s ht fun v d r1 B1 H1 c1 h1 sB sH s1 w1 => ?_
  refine kb fx st r1 ts B1 H1 c1 _ Xd _ ok s1 h1 fun vs ds r2 B2 H2 c2 h2 sB2 sH2 s2 w2 => ?_
  exact hQ (v :: vs) (d :: ds) r2 B2 H2 c2 h2 (sB.trans sB2) (fun q => (sH q).trans (sH2 rfl)) s2 (.cons (w1.mono sB2 (sH2 rfl)) w2)
/-- a built-in's answer that stands anywhere -/
def OpC (X : Cx) (f : Value) (gg : List D → Option D) : Prop :=
  ∃ r : List V → Hp → VK → Prop, CallR X f r ∧ ∀ (B H : Hp) (vs : List V) (ds : List D) (z : D) (Q : VK), Same B H → Vws X.K X.mg B H vs ds → gg ds = some z → (∀ w, Rel X.K X.mg B H w z [] → Q w H) → r vs H Q
def dCl (gg : List D → Option D) (u : DA) : DE := fun r Q X => u r (fun ds r1 => got (gg ds) fun z => Q z r1) X
theorem se_callB {q : Bool} {e : Expr} {es : List Expr} {u : DA} {gg : List D → Option D} {id : String} {x : Str} {p pos : Pos} (ho : OpC X (.builtin id) gg) (hg : Gl X x) (hm : X.mg x = none) (hv : bootBuiltins x = some (.builtin id)) (ha : SL X g q (e :: es) u)
    (hn : x ≠ "__name__" := by decide) (hdb : (x == ("__debug__" : Str)) = false := by decide) (he : starEach (e :: es) X.env = (false, eval e X.env) :: starEach es X.env := by rfl) (hpl : (backTo pos (starEach es X.env)).any (·.1) = false := by rfl) :
    SE X g q (.Call (.Name x p) (e :: es) [] pos) (dCl gg u) := by
  obtain ⟨rr, pr, kr⟩ := ho
  obtain ⟨te, pe, ka⟩ := ha.run
  refine ⟨_, pe_callB pr hg hm hv pe hn hdb he hpl, fun fx st r ts B H col Qd Xd Q ok s ht hQ => ?_⟩
  refine ka fx st r ts B H col _ Xd _ ok s ht fun vs ds r1 B1 H1 c1 h1 sB sH s1 w1 => ?_
  obtain ⟨z, ez, hz⟩ := got_cases h1
  exact kr B1 H1 vs ds z Q s1.bh w1 ez fun w hw => hQ w z r1 B1 H1 c1 hz sB sH (s1.push hw)
theorem se_callTy {q : Bool} {e : Expr} {es : List Expr} {u : DA} {gg : List D → Option D} {T : String} {x : Str} {p pos : Pos} (ho : OpC X (.type T) gg) (hg : Gl X x) (hm : X.mg x = none) (hv : bootBuiltins x = some (.type T)) (ha : SL X g q (e :: es) u)
    (hn : x ≠ "__name__" := by decide) (hdb : (x == ("__debug__" : Str)) = false := by decide) (he : starEach (e :: es) X.env = (false, eval e X.env) :: starEach es X.env := by rfl) (hpl : (backTo pos (starEach es X.env)).any (·.1) = false := by rfl) :
    SE X g q (.Call (.Name x p) (e :: es) [] pos) (dCl gg u) := by
  obtain ⟨rr, pr, kr⟩ := ho
  obtain ⟨te, pe, ka⟩ := ha.run
  refine ⟨_, pe_callTy pr hg hm hv pe hn hdb he hpl, fun fx st r ts B H col Qd Xd Q ok s ht hQ => ?_⟩
  refine ka fx st r ts B H col _ Xd _ ok s ht fun vs ds r1 B1 H1 c1 h1 sB sH s1 w1 => ?_
  obtain ⟨z, ez, hz⟩ := got_cases h1
  exact kr B1 H1 vs ds z Q s1.bh w1 ez fun w hw => hQ w z r1 B1 H1 c1 hz sB sH (s1.push hw)

/-- what a list or a tuple that is seen holds -/
theorem View.lst {K : PySem.W.Frag} {mg : Str → Option Value} {B H : Hp} {v : V} {o : Bool} {xs : List D} (b : Same B H) (w : View K mg B H v (.lst o xs)) : ∃ a vs F, v = .ref a ∧ H a = some (.lst vs) ∧ Rels K mg B H vs xs F := by
  obtain ⟨F, w⟩ := w
  cases w with
  | fl h r => exact ⟨_, _, _, rfl, b _ _ h, r⟩
  | ol h r => exact ⟨_, _, _, rfl, h, r⟩
theorem View.tup {K : PySem.W.Frag} {mg : Str → Option Value} {B H : Hp} {v : V} {xs : List D} (b : Same B H) (w : View K mg B H v (.tup xs)) : ∃ a vs F, v = .ref a ∧ SqT K H a vs ∧ Rels K mg B H vs xs F := by
  obtain ⟨F, w⟩ := w
  cases w with
  | tup h r => exact ⟨_, _, _, rfl, sqT_mono b h, r⟩
theorem vws1 {K : PySem.W.Frag} {mg : Str → Option Value} {B H : Hp} {vs : List V} {d : D} (w : Vws K mg B H vs [d]) : ∃ v, vs = [v] ∧ View K mg B H v d := by
  cases w with
  | cons a b => cases b; exact ⟨_, rfl, a⟩
theorem vws2 {K : PySem.W.Frag} {mg : Str → Option Value} {B H : Hp} {vs : List V} {d e : D} (w : Vws K mg B H vs [d, e]) : ∃ v u, vs = [v, u] ∧ View K mg B H v d ∧ View K mg B H u e := by
  cases w with
  | cons a b =>
    cases b with
    | cons c b => cases b; exact ⟨_, _, rfl, a, c⟩

/-! ### len, int, abs, min, max -/
def gLen : List D → Option D
  | [.tup xs] => some (.int xs.length)
  | [.lst _ xs] => some (.int xs.length)
  | [.str x] => if x.length ≤ sizeLine then some (.int x.length) else none
  | _ => none
theorem oc_len : OpC X (.builtin "len") gLen := by
  refine ⟨_, call_len, fun B H vs ds z Q b w hz hQ => ?_⟩
  unfold gLen at hz
  split at hz
  · rename_i xs
    cases hz
    obtain ⟨v, e1, w1⟩ := vws1 w; subst e1
    obtain ⟨a, vs, F, rfl, h, r⟩ := w1.tup b
    exact ⟨_, vs.length, rfl, .inr ⟨vs, h, rfl⟩, hQ _ (by rw [r.length]; exact .int _)⟩
  · rename_i xs
    cases hz
    obtain ⟨v, e1, w1⟩ := vws1 w; subst e1
    obtain ⟨a, vs, F, rfl, h, r⟩ := w1.lst b
    exact ⟨_, vs.length, rfl, .inl ⟨vs, .inl (.inl h), rfl⟩, hQ _ (by rw [r.length]; exact .int _)⟩
  · rename_i x
    split at hz
    · rename_i hl
      cases hz
      obtain ⟨v, e1, w1⟩ := vws1 w; subst e1
      have := view_str w1; subst this
      exact ⟨_, x.length, rfl, ⟨hl, rfl⟩, hQ _ (.int _)⟩
    · cases hz
  · cases hz
def gInt : List D → Option D
  | [.int i] => some (.int i)
  | [.bl k] => some (.int (if k then 1 else 0))
  | _ => none
theorem oc_int : OpC X (.type "int") gInt := by
  refine ⟨_, call_int1, fun B H vs ds z Q b w hz hQ => ?_⟩
  unfold gInt at hz
  split at hz
  · cases hz
    obtain ⟨v, e1, w1⟩ := vws1 w; subst e1
    have := view_int w1; subst this
    exact .inl ⟨_, rfl, hQ _ (.int _)⟩
  · cases hz
    obtain ⟨v, e1, w1⟩ := vws1 w; subst e1
    have := view_bl w1; subst this
    exact .inr ⟨_, rfl, hQ _ (.int _)⟩
  · cases hz
def gAbs : List D → Option D
  | [.int i] => some (.int (if i < 0 then -i else i))
  | _ => none
theorem oc_abs : OpC X (.builtin "abs") gAbs := by
  refine ⟨_, call_abs, fun B H vs ds z Q b w hz hQ => ?_⟩
  unfold gAbs at hz
  split at hz
  · cases hz
    obtain ⟨v, e1, w1⟩ := vws1 w; subst e1
    have := view_int w1; subst this
    exact ⟨_, rfl, hQ _ (.int _)⟩
  · cases hz

/-! ### a[i] -/
def ixD : D → D → Option D
  | .tup xs, .int i => atI xs i
  | .lst _ xs, .int i => atI xs i
  | .str z, .int i => if z.length ≤ sizeLine then (atI z.cps.toList i).map fun c => .str ⟨#[c]⟩ else none
  | _, _ => none
theorem rels_atI {K : PySem.W.Frag} {mg : Str → Option Value} {B H : Hp} {vs : List V} {xs : List D} {F : List Addr} {i : Int} {d : D} (r : Rels K mg B H vs xs F) (h : atI xs i = some d) : ∃ v, atI vs i = some v ∧ View K mg B H v d := by
  unfold atI at h ⊢
  rw [r.length]
  obtain ⟨j, e1, e2⟩ := Option.bind_eq_some_iff.mp h
  obtain ⟨v, G, e3, rr, _, _⟩ := r.get e2
  exact ⟨v, by rw [e1]; exact e3, G, rr⟩
theorem ix_view {B H : Hp} {v u : V} {d e z : D} {Q : VK} (b : Same B H) (w1 : View X.K X.mg B H v d) (w2 : View X.K X.mg B H u e) (hz : ixD d e = some z) (hQ : ∀ w, View X.K X.mg B H w z → Q w H) : rIx X.K v u H Q := by
  unfold ixD at hz
  split at hz
  · have := view_int w2; subst this
    obtain ⟨a, vs, F, rfl, h, r⟩ := w1.tup b
    obtain ⟨v, e, w⟩ := rels_atI r hz
    exact .inr (.inl ⟨a, vs, _, v, rfl, rfl, h, e, hQ v w⟩)
  · have := view_int w2; subst this
    obtain ⟨a, vs, F, rfl, h, r⟩ := w1.lst b
    obtain ⟨v, e, w⟩ := rels_atI r hz
    exact .inl ⟨a, vs, _, v, rfl, rfl, .inl (.inl h), e, hQ v w⟩
  · have := view_int w2; subst this
    have := view_str w1; subst this
    split at hz
    · rename_i hl
      obtain ⟨c, e1, e2⟩ := Option.map_eq_some_iff.mp hz
      subst e2
      exact .inr (.inr ⟨_, _, c, rfl, rfl, hl, e1, hQ _ ⟨[], .str _⟩⟩)
    · cases hz
  · cases hz
def dIx (ta tb : DE) : DE := fun r Q X => ta r (fun x r1 => tb r1 (fun y r2 => got (ixD x y) fun z => stb z = true ∧ Q z r2) X) X
def dIxB (ta tb : DE) : DE := fun r Q X => ta r (fun x r1 => tb r1 (fun y r2 => got (ixD x y) fun z => Q z r2) X) X
/-- .. where the index may change things -/
def dIxS (ta tb : DE) : DE := fun r Q X => ta r (fun x r1 => stb x = true ∧ tb r1 (fun y r2 => got (ixD x y) fun z => Q z r2) X) X
theorem se_ix {a b : Expr} {qa : Bool} {ta tb : DE} {pos : Pos} (ha : SB X g qa a ta) (hb : SB X g true b tb) (hs : PlainIx b) : SE X g qa (.Subscript a b pos) (dIx ta tb) := by
  obtain ⟨te, pe, ka⟩ := ha.run
  obtain ⟨te2, pe2, kb⟩ := hb.run
  refine ⟨_, pe_ix ix_seq pe pe2 hs, fun fx st r ts B H col Qd Xd Q ok s ht hQ => ?_⟩
  refine ka fx st r ts B H col _ Xd _ ok s ht fun v d r1 B1 H1 c1 h1 sB sH s1 w1 => ?_
  refine kb fx st r1 ts B1 H1 c1 _ Xd _ ok s1 h1 fun u e r2 B2 H2 c2 h2 sB2 sH2 s2 w2 => ?_
  obtain ⟨z, ez, hs, hz⟩ := got_cases h2
  exact ix_view s2.bh (w1.mono sB2 (sH2 rfl)) w2 ez fun w hw => hQ w z r2 B2 H2 c2 hz (sB.trans sB2) (fun q => (sH q).trans (sH2 rfl)) (s2.push (hw.stable hs))
theorem sb_ix {a b : Expr} {qa : Bool} {ta tb : DE} {pos : Pos} (ha : SB X g qa a ta) (hb : SB X g true b tb) (hs : PlainIx b) : SB X g qa (.Subscript a b pos) (dIxB ta tb) := by
  obtain ⟨te, pe, ka⟩ := ha.run
  obtain ⟨te2, pe2, kb⟩ := hb.run
  refine ⟨_, pe_ix ix_seq pe pe2 hs, fun fx st r ts B H col Qd Xd Q ok s ht hQ => ?_⟩
  refine ka fx st r ts B H col _ Xd _ ok s ht fun v d r1 B1 H1 c1 h1 sB sH s1 w1 => ?_
  refine kb fx st r1 ts B1 H1 c1 _ Xd _ ok s1 h1 fun u e r2 B2 H2 c2 h2 sB2 sH2 s2 w2 => ?_
  obtain ⟨z, ez, hz⟩ := got_cases h2
  exact ix_view s2.bh (w1.mono sB2 (sH2 rfl)) w2 ez fun w hw => hQ w z r2 B2 H2 c2 hz (sB.trans sB2) (fun q => (sH q).trans (sH2 rfl)) s2 hw
theorem stb_atI {xs : List D} {i : Int} {d : D} (h : atI xs i = some d) (s : stbL xs = true) : stb d = true := by
  unfold atI at h
  obtain ⟨j, e1, e2⟩ := Option.bind_eq_some_iff.mp h
  rw [stbL_all, List.all_eq_true] at s
  exact s d (List.mem_of_getElem? e2)
theorem stb_ixD {x y z : D} (h : ixD x y = some z) (s : stb x = true) : stb z = true := by
  unfold ixD at h
  split at h
  · exact stb_atI h (by simpa only [stb] using s)
  · simp only [stb, Bool.and_eq_true] at s
    exact stb_atI h s.2
  · split at h
    · obtain ⟨c, e1, e2⟩ := Option.map_eq_some_iff.mp h
      subst e2; rfl
    · cases h
  · cases h
theorem se_ixS {a b : Expr} {qa qb : Bool} {ta tb : DE} {pos : Pos} (ha : SB X g qa a ta) (hb : SB X g qb b tb) (hs : PlainIx b) : SE X g (qa && qb) (.Subscript a b pos) (dIxS ta tb) := by
  obtain ⟨te, pe, ka⟩ := ha.run
  obtain ⟨te2, pe2, kb⟩ := hb.run
  refine ⟨_, pe_ix ix_seq pe pe2 hs, fun fx st r ts B H col Qd Xd Q ok s ht hQ => ?_⟩
  refine ka fx st r ts B H col _ Xd _ ok s ht fun v d r1 B1 H1 c1 ⟨hs, h1⟩ sB sH s1 w1 => ?_
  refine kb fx st r1 ts B1 H1 c1 _ Xd _ ok s1 h1 fun u e r2 B2 H2 c2 h2 sB2 sH2 s2 w2 => ?_
  obtain ⟨z, ez, hz⟩ := got_cases h2
  exact ix_view s2.bh (w1.mono' sB2 hs) w2 ez fun w hw => hQ w z r2 B2 H2 c2 hz (sB.trans sB2) (fun q => by
    simp only [Bool.and_eq_true] at q
    exact (sH q.1).trans (sH2 q.2)) (s2.push (hw.stable (stb_ixD ez hs)))
/-- [a, b, ..][i]: the list is made and dropped; the index may change things -/
def dPick (u : DA) (tb : DE) : DE := fun r Q X => u r (fun ds r1 => Small ds.length ∧ stbL ds = true ∧ tb r1 (fun y r2 => got (ixD (.tup ds) y) fun z => Q z r2) X) X
theorem se_pick {es : List Expr} {b : Expr} {qa qb : Bool} {u : DA} {tb : DE} {pos p2 : Pos} (ha : SA X g qa es u) (hb : SB X g qb b tb) (hs : PlainIx b) : SE X g (qa && qb) (.Subscript (.List es p2) b pos) (dPick u tb) := by
  obtain ⟨te, pe, ka⟩ := (se_lst (pos := p2) ha).run
  obtain ⟨te2, pe2, kb⟩ := hb.run
  refine ⟨_, pe_ix ix_seq pe pe2 hs, fun fx st r ts B H col Qd Xd Q ok s ht hQ => ?_⟩
  refine ka fx st r ts B H col (fun d r1 => ∃ ds, d = .lst true ds ∧ stbL ds = true ∧ tb r1 (fun y r2 => got (ixD (.tup ds) y) fun z => Qd z r2) Xd) Xd _ ok s ?_ fun v d r1 B1 H1 c1 ⟨ds, e, hs, h1⟩ sB sH s1 => ?_
  · show u r (fun ds r1 => Small ds.length ∧ ∃ ds', D.lst true ds = .lst true ds' ∧ stbL ds' = true ∧ tb r1 _ Xd) Xd
    have : (fun (ds : List D) (r1 : DEnv) => Small ds.length ∧ ∃ ds', D.lst true ds = .lst true ds' ∧ stbL ds' = true ∧ tb r1 (fun y r2 => got (ixD (.tup ds') y) fun z => Qd z r2) Xd) = (fun ds r1 => Small ds.length ∧ stbL ds = true ∧ tb r1 (fun y r2 => got (ixD (.tup ds) y) fun z => Qd z r2) Xd) := by
      funext ds r1
      simp only [D.lst.injEq, true_and, exists_eq_left', eq_iff_iff]
    rw [this]
    exact ht
  · subst e
    -- the list is shared from now on
    have s1' := s1.freezeTop
    have fz : frz (.lst true ds) = .lst false ds := by simp only [frz, frzL_stb ds hs]
    rw [fz] at s1'
    refine kb fx st r1 _ _ H1 _ _ Xd _ ok s1' h1 fun u e r2 B2 H2 c2 h2 sB2 sH2 s2 w2 => ?_
    obtain ⟨z, ez, hz⟩ := got_cases h2
    have wv : View X.K X.mg B2 H2 v (.lst false ds) := s2.viewTop
    have st0 : stb (.lst false ds) = true := by simp [stb, hs]
    exact ix_view s2.bh wv w2 (show ixD (.lst false ds) e = some z by
      cases e <;> first | exact ez | (simp only [ixD] at ez)) fun w hw => hQ w z r2 B2 H2 c2 hz ((sB.trans (s1.sameF _)).trans sB2) (fun q => by
        simp only [Bool.and_eq_true] at q
        exact (sH q.1).trans (sH2 q.2)) (s2.drop.push (hw.stable (stb_ixD (x := .lst false ds) (y := e) (by cases e <;> first | exact ez | (simp only [ixD] at ez)) st0)))
end
end FM

set_option Elab.async false
set_option linter.all false
set_option maxRecDepth 100000
namespace FM
open PySem PySem.Spec PyProof.Rows L2
section
variable {X : Cx} {g : Gd}

/-! ### tests -/
def asB : D → Option Bool
  | .bl b => some b
  | _ => none
def truD : D → Option Bool
  | .non => some false
  | .bl b => some b
  | .int i => some (i != 0)
  | .str y => if y.length ≤ sizeLine then some ((y.length : Int) != 0) else none
  | .tup xs => some (!xs.isEmpty)
  | .lst _ xs => some (!xs.isEmpty)
  | .cls _ => none
  | .scr _ => none
  | .exc _ _ => none
  | .txs _ => none
  | .rng _ _ => none
def dtE (t : DE) : DT := fun r Q X => t r (fun d r1 => got (asB d) fun b => Q b r1) X
def dtTru (t : DE) : DT := fun r Q X => t r (fun d r1 => got (truD d) fun b => Q b r1) X
def dtAnd (t u : DT) : DT := fun r Q X => t r (fun b r1 => if b = true then u r1 Q X else Q false r1) X
def dtOr (t u : DT) : DT := fun r Q X => t r (fun b r1 => if b = true then Q true r1 else u r1 Q X) X
def dtNot (t : DT) : DT := fun r Q X => t r (fun b r1 => Q (!b) r1) X
theorem asB_some {d : D} {b : Bool} (h : asB d = some b) : d = .bl b := by
  unfold asB at h
  split at h
  · cases h; rfl
  · cases h
/-- an expression whose value is a bool (no comparison, no not, no and, no or) -/
theorem st_val {q : Bool} {e : Expr} {t : DE} (h : SB X g q e t) (he : ∀ whole, isTrue e X.env whole = (do let v ← whole; standAt e.pos; holding [v] (truthy v)) := by intro _; rfl) : ST X g q e (dtE t) := by
  obtain ⟨te, pe, k⟩ := h.run
  refine ⟨_, pt_val pe he, fun fx st r ts B H col Qd Xd Q ok s ht hQ => ?_⟩
  refine k fx st r ts B H col _ Xd _ ok s ht fun v d r1 B1 H1 c1 h1 sB sH s1 w1 => ?_
  obtain ⟨b, e1, h1⟩ := got_cases h1
  have := asB_some e1; subst this
  exact ⟨b, view_bl w1, hQ b r1 B1 H1 c1 h1 sB sH s1⟩
theorem st_tru {q : Bool} {e : Expr} {t : DE} (h : SB X g q e t) (he : ∀ whole, isTrue e X.env whole = (do let v ← whole; standAt e.pos; holding [v] (truthy v)) := by intro _; rfl) : ST X g q e (dtTru t) := by
  obtain ⟨te, pe, k⟩ := h.run
  refine ⟨_, pt_truth pe he, fun fx st r ts B H col Qd Xd Q ok s ht hQ => ?_⟩
  refine k fx st r ts B H col _ Xd _ ok s ht fun v d r1 B1 H1 c1 h1 sB sH s1 w1 => ?_
  obtain ⟨b, e1, h1⟩ := got_cases h1
  refine ⟨b, ?_, hQ b r1 B1 H1 c1 h1 sB sH s1⟩
  cases d with
  | non => cases e1; rw [view_non w1]; rfl
  | bl b => cases e1; rw [view_bl w1]; rfl
  | int i => cases e1; rw [view_int w1]; rfl
  | str y =>
    simp only [truD] at e1
    split at e1
    · rename_i hl; cases e1; rw [view_str w1]; exact ⟨hl, rfl⟩
    · cases e1
  | tup xs =>
    cases e1
    obtain ⟨a, vs, F, rfl, h, rr⟩ := w1.tup s1.bh
    exact .inr (.inl ⟨vs, h, by cases rr <;> rfl⟩)
  | lst o xs =>
    cases e1
    obtain ⟨a, vs, F, rfl, h, rr⟩ := w1.lst s1.bh
    exact .inl ⟨vs, .inl (.inl h), by cases rr <;> rfl⟩
  | cls x => cases e1
  | scr x => cases e1
  | exc a x => cases e1
  | txs x => cases e1
  | rng i j => cases e1
theorem st_cmp {a b : Expr} {qa : Bool} {ta tb : DE} {op : CmpOp} {gg : D → D → Option D} {pos : Pos} (ho : OpA X (compareOp op) gg) (ha : SB X g qa a ta) (hb : SB X g true b tb) (hm : behindInMarks op b = false) : ST X g qa (.Compare a [op] [b] pos) (dtE (dOp gg ta tb)) := by
  obtain ⟨rr, pr, kr⟩ := ho
  obtain ⟨te, pe, ka⟩ := ha.run
  obtain ⟨te2, pe2, kb⟩ := hb.run
  refine ⟨_, pt_cmpR pr pe pe2 hm, fun fx st r ts B H col Qd Xd Q ok s ht hQ => ?_⟩
  refine ka fx st r ts B H col _ Xd _ ok s ht fun v d r1 B1 H1 c1 h1 sB sH s1 w1 => ?_
  refine kb fx st r1 ts B1 H1 c1 _ Xd _ ok s1 h1 fun u e r2 B2 H2 c2 h2 sB2 sH2 s2 w2 => ?_
  obtain ⟨z, ez, hz⟩ := got_cases h2
  obtain ⟨k, e1, hz⟩ := got_cases hz
  have := asB_some e1; subst this
  exact kr B2 H2 v u d e _ _ s2.bh (w1.mono sB2 (sH2 rfl)) w2 ez fun w hw => ⟨k, by have := hw B2 H2; cases this; rfl, hQ k r2 B2 H2 c2 hz (sB.trans sB2) (fun q => (sH q).trans (sH2 rfl)) s2⟩
theorem st_cmpS {a b : Expr} {qa qb : Bool} {ta tb : DE} {op : CmpOp} {gg : D → D → Option D} {pos : Pos} (ho : OpA X (compareOp op) gg) (ha : SB X g qa a ta) (hb : SB X g qb b tb) (hm : behindInMarks op b = false) : ST X g (qa && qb) (.Compare a [op] [b] pos) (dtE (dOpS gg ta tb)) := by
  obtain ⟨rr, pr, kr⟩ := ho
  obtain ⟨te, pe, ka⟩ := ha.run
  obtain ⟨te2, pe2, kb⟩ := hb.run
  refine ⟨_, pt_cmpR pr pe pe2 hm, fun fx st r ts B H col Qd Xd Q ok s ht hQ => ?_⟩
  refine ka fx st r ts B H col _ Xd _ ok s ht fun v d r1 B1 H1 c1 ⟨hs, h1⟩ sB sH s1 w1 => ?_
  refine kb fx st r1 ts B1 H1 c1 _ Xd _ ok s1 h1 fun u e r2 B2 H2 c2 h2 sB2 sH2 s2 w2 => ?_
  obtain ⟨z, ez, hz⟩ := got_cases h2
  obtain ⟨k, e1, hz⟩ := got_cases hz
  have := asB_some e1; subst this
  exact kr B2 H2 v u d e _ _ s2.bh (w1.mono' sB2 hs) w2 ez fun w hw => ⟨k, by have := hw B2 H2; cases this; rfl, hQ k r2 B2 H2 c2 hz (sB.trans sB2) (fun q => by
    simp only [Bool.and_eq_true] at q
    exact (sH q.1).trans (sH2 q.2)) s2⟩
theorem st_not {q : Bool} {e : Expr} {t : DT} {pos} (h : ST X g q e t) : ST X g q (.UnaryOp .Not e pos) (dtNot t) := by
  obtain ⟨te, pe, k⟩ := h.run
  exact ⟨_, pt_not pe, fun fx st r ts B H col Qd Xd Q ok s ht hQ => k fx st r ts B H col _ Xd _ ok s ht fun b r1 B1 H1 c1 h1 sB sH s1 => hQ (!b) r1 B1 H1 c1 h1 sB sH s1⟩
/-- chains of and, or -/
structure SW (X : Cx) (g : Gd) (q : Bool) (e : Expr) (t : DT) : Prop where
  run : ∃ te : TT, PW X e te ∧ ∀ (fx : Fx) (st : L2.St) (r : DEnv) (ts : List (V × D)) (B H : Hp) (col : Col) (Qd : Bool → DEnv → Prop) (Xd : XP) (Q : Bool → Hp → Prop), g.Ok X fx Xd → SR X.K X.mg fx st r ts B H col → t r Qd Xd →
    (∀ b r' B' H' col', Qd b r' → Same B B' → (q = true → Same H H') → SR X.K X.mg fx st r' ts B' H' col' → Q b H') → te st H Q
theorem SW.st {q : Bool} {e : Expr} {t : DT} (h : SW X g q e t) : ST X g q e t := by
  obtain ⟨te, pe, k⟩ := h.run
  exact ⟨te, pe.pt, k⟩
theorem sw_and1 {q : Bool} {a : Expr} {t : DT} {pos : Pos} (h : ST X g q a t) : SW X g q (.BoolOp .And [a] pos) t := by
  obtain ⟨te, pe, k⟩ := h.run
  exact ⟨te, pw_and1 pe, k⟩
theorem sw_or1 {q : Bool} {a : Expr} {t : DT} {pos : Pos} (h : ST X g q a t) : SW X g q (.BoolOp .Or [a] pos) t := by
  obtain ⟨te, pe, k⟩ := h.run
  exact ⟨te, pw_or1 pe, k⟩
theorem sw_and {q1 q2 : Bool} {a b : Expr} {es : List Expr} {t u : DT} {pos : Pos} (h : ST X g q1 a t) (h2 : SW X g q2 (.BoolOp .And (b :: es) pos) u) : SW X g (q1 && q2) (.BoolOp .And (a :: b :: es) pos) (dtAnd t u) := by
  obtain ⟨te, pe, k⟩ := h.run
  obtain ⟨te2, pe2, k2⟩ := h2.run
  refine ⟨_, pw_and pe pe2, fun fx st r ts B H col Qd Xd Q ok s ht hQ => ?_⟩
  refine k fx st r ts B H col _ Xd _ ok s ht fun b r1 B1 H1 c1 h1 sB sH s1 => ?_
  cases b with
  | true => exact iteT (k2 fx st r1 ts B1 H1 c1 Qd Xd Q ok s1 (by rw [if_pos rfl] at h1; exact h1) fun b r2 B2 H2 c2 q2 sB2 sH2 s2 => hQ b r2 B2 H2 c2 q2 (sB.trans sB2) (fun q => by
      simp only [Bool.and_eq_true] at q
      exact (sH q.1).trans (sH2 q.2)) s2)
  | false => exact iteF (hQ false r1 B1 H1 c1 (by rw [if_neg Bool.false_ne_true] at h1; exact h1) sB (fun q => sH (by simp only [Bool.and_eq_true] at q; exact q.1)) s1)
theorem sw_or {q1 q2 : Bool} {a b : Expr} {es : List Expr} {t u : DT} {pos : Pos} (h : ST X g q1 a t) (h2 : SW X g q2 (.BoolOp .Or (b :: es) pos) u) : SW X g (q1 && q2) (.BoolOp .Or (a :: b :: es) pos) (dtOr t u) := by
  obtain ⟨te, pe, k⟩ := h.run
  obtain ⟨te2, pe2, k2⟩ := h2.run
  refine ⟨_, pw_or pe pe2, fun fx st r ts B H col Qd Xd Q ok s ht hQ => ?_⟩
  refine k fx st r ts B H col _ Xd _ ok s ht fun b r1 B1 H1 c1 h1 sB sH s1 => ?_
  cases b with
  | true => exact iteT (hQ true r1 B1 H1 c1 (by rw [if_pos rfl] at h1; exact h1) sB (fun q => sH (by simp only [Bool.and_eq_true] at q; exact q.1)) s1)
  | false => exact iteF (k2 fx st r1 ts B1 H1 c1 Qd Xd Q ok s1 (by rw [if_neg Bool.false_ne_true] at h1; exact h1) fun b r2 B2 H2 c2 q2 sB2 sH2 s2 => hQ b r2 B2 H2 c2 q2 (sB.trans sB2) (fun q => by
      simp only [Bool.and_eq_true] at q
      exact (sH q.1).trans (sH2 q.2)) s2)
/-- and, or, not as values: bools -/
def deT (t : DT) : DE := fun r Q X => t r (fun b r1 => Q (.bl b) r1) X
def deAnd (t : DE) (u : DE) : DE := fun r Q X => t r (fun d r1 => got (asB d) fun b => if b = true then u r1 Q X else Q (.bl false) r1) X
def deOr (t : DE) (u : DE) : DE := fun r Q X => t r (fun d r1 => got (asB d) fun b => if b = true then Q (.bl true) r1 else u r1 Q X) X
def deNot (t : DE) : DE := fun r Q X => t r (fun d r1 => got (asB d) fun b => Q (.bl (!b)) r1) X
theorem se_one {q : Bool} {op} {a : Expr} {t : DE} {pos} (h : SE X g q a t) : SE X g q (.BoolOp op [a] pos) t := by
  obtain ⟨te, pe, k⟩ := h.run
  exact ⟨te, pe_one pe, k⟩
theorem se_and {q1 q2 : Bool} {a b : Expr} {es : List Expr} {t u : DE} {pos : Pos} (h : SB X g q1 a t) (h2 : SE X g q2 (.BoolOp .And (b :: es) pos) u) : SE X g (q1 && q2) (.BoolOp .And (a :: b :: es) pos) (deAnd t u) := by
  obtain ⟨te, pe, k⟩ := h.run
  obtain ⟨te2, pe2, k2⟩ := h2.run
  refine ⟨_, pe_and pe pe2, fun fx st r ts B H col Qd Xd Q ok s ht hQ => ?_⟩
  refine k fx st r ts B H col _ Xd _ ok s ht fun v d r1 B1 H1 c1 h1 sB sH s1 w1 => ?_
  obtain ⟨b, e1, h3⟩ := got_cases h1
  have := asB_some e1; subst this
  refine ⟨b, view_bl w1, ?_⟩
  cases b with
  | true => exact iteT (k2 fx st r1 ts B1 H1 c1 Qd Xd Q ok s1 (by rw [if_pos rfl] at h3; exact h3) fun v d r2 B2 H2 c2 q2 sB2 sH2 s2 => hQ v d r2 B2 H2 c2 q2 (sB.trans sB2) (fun q => by
      simp only [Bool.and_eq_true] at q
      exact (sH q.1).trans (sH2 q.2)) s2)
  | false => exact iteF (hQ _ _ r1 B1 H1 c1 (by rw [if_neg Bool.false_ne_true] at h3; exact h3) sB (fun q => sH (by simp only [Bool.and_eq_true] at q; exact q.1)) (s1.push (.bl false)))
theorem se_or {q1 q2 : Bool} {a b : Expr} {es : List Expr} {t u : DE} {pos : Pos} (h : SB X g q1 a t) (h2 : SE X g q2 (.BoolOp .Or (b :: es) pos) u) : SE X g (q1 && q2) (.BoolOp .Or (a :: b :: es) pos) (deOr t u) := by
  obtain ⟨te, pe, k⟩ := h.run
  obtain ⟨te2, pe2, k2⟩ := h2.run
  refine ⟨_, pe_or pe pe2, fun fx st r ts B H col Qd Xd Q ok s ht hQ => ?_⟩
  refine k fx st r ts B H col _ Xd _ ok s ht fun v d r1 B1 H1 c1 h1 sB sH s1 w1 => ?_
  obtain ⟨b, e1, h3⟩ := got_cases h1
  have := asB_some e1; subst this
  refine ⟨b, view_bl w1, ?_⟩
  cases b with
  | true => exact iteT (hQ _ _ r1 B1 H1 c1 (by rw [if_pos rfl] at h3; exact h3) sB (fun q => sH (by simp only [Bool.and_eq_true] at q; exact q.1)) (s1.push (.bl true)))
  | false => exact iteF (k2 fx st r1 ts B1 H1 c1 Qd Xd Q ok s1 (by rw [if_neg Bool.false_ne_true] at h3; exact h3) fun v d r2 B2 H2 c2 q2 sB2 sH2 s2 => hQ v d r2 B2 H2 c2 q2 (sB.trans sB2) (fun q => by
      simp only [Bool.and_eq_true] at q
      exact (sH q.1).trans (sH2 q.2)) s2)
theorem se_not {q : Bool} {a : Expr} {t : DE} {pos : Pos} (h : SB X g q a t) : SE X g q (.UnaryOp .Not a pos) (deNot t) := by
  obtain ⟨te, pe, k⟩ := h.run
  refine ⟨_, pe_not pe, fun fx st r ts B H col Qd Xd Q ok s ht hQ => ?_⟩
  refine k fx st r ts B H col _ Xd _ ok s ht fun v d r1 B1 H1 c1 h1 sB sH s1 w1 => ?_
  obtain ⟨b, e1, h3⟩ := got_cases h1
  have := asB_some e1; subst this
  exact ⟨b, view_bl w1, hQ _ _ r1 B1 H1 c1 h3 sB sH (s1.push (.bl _))⟩
/-- a op b op c -/
def dChain (g1 g2 : D → D → Option D) (ta tb tc : DE) : DE := fun r Q X => ta r (fun x r1 => tb r1 (fun y r2 => got (g1 x y) fun z => got (asB z) fun k =>
  if k = true then tc r2 (fun w r3 => got (g2 y w) fun z => Q z r3) X else Q (.bl false) r2) X) X
theorem se_chain {a b c : Expr} {qa : Bool} {ta tb tc : DE} {op op' : CmpOp} {g1 g2 : D → D → Option D} {pos : Pos} (ho : OpA X (compareOp op) g1) (ho' : OpA X (compareOp op') g2) (ha : SB X g qa a ta) (hb : SB X g true b tb) (hc : SB X g true c tc)
    (hm : lastMarks [op, op'] [b, c] = false := by with_unfolding_all rfl) : SE X g qa (.Compare a [op, op'] [b, c] pos) (dChain g1 g2 ta tb tc) := by
  obtain ⟨rr, pr, kr⟩ := ho
  obtain ⟨rr', pr', kr'⟩ := ho'
  obtain ⟨te, pe, ka⟩ := ha.run
  obtain ⟨te2, pe2, kb⟩ := hb.run
  obtain ⟨te3, pe3, kc⟩ := hc.run
  refine ⟨_, pe_chain pr pr' pe pe2 pe3 hm, fun fx st r ts B H col Qd Xd Q ok s ht hQ => ?_⟩
  refine ka fx st r ts B H col _ Xd _ ok s ht fun v d r1 B1 H1 c1 h1 sB sH s1 w1 => ?_
  refine kb fx st r1 ts B1 H1 c1 _ Xd _ ok s1 h1 fun u e r2 B2 H2 c2 h2 sB2 sH2 s2 w2 => ?_
  obtain ⟨z, ez, hz⟩ := got_cases h2
  obtain ⟨k, e1, hz3⟩ := got_cases hz
  have := asB_some e1; subst this
  refine kr B2 H2 v u d e _ _ s2.bh (w1.mono sB2 (sH2 rfl)) w2 ez fun w hw => ⟨k, by have := hw B2 H2; cases this; rfl, ?_⟩
  cases k with
  | false => exact iteF (hQ _ _ r2 B2 H2 c2 (by rw [if_neg Bool.false_ne_true] at hz3; exact hz3) (sB.trans sB2) (fun q => (sH q).trans (sH2 rfl)) (s2.push (.bl false)))
  | true =>
    refine iteT (kc fx st r2 ts B2 H2 c2 _ Xd _ ok s2 (by rw [if_pos rfl] at hz3; exact hz3) fun u3 e3 r3 B3 H3 c3 h3 sB3 sH3 s3 w3 => ?_)
    obtain ⟨z, ez, hz⟩ := got_cases h3
    exact kr' B3 H3 u u3 e e3 z Q s3.bh (w2.mono sB3 (sH3 rfl)) w3 ez fun w hw => hQ w z r3 B3 H3 c3 hz ((sB.trans sB2).trans sB3) (fun q => ((sH q).trans (sH2 rfl)).trans (sH3 rfl)) (s3.push (hw B3 H3))
theorem st_chain {a b c : Expr} {qa : Bool} {ta tb tc : DE} {op op' : CmpOp} {g1 g2 : D → D → Option D} {pos : Pos} (ho : OpA X (compareOp op) g1) (ho' : OpA X (compareOp op') g2) (ha : SB X g qa a ta) (hb : SB X g true b tb) (hc : SB X g true c tc)
    (hm : lastMarks [op, op'] [b, c] = false := by with_unfolding_all rfl) : ST X g qa (.Compare a [op, op'] [b, c] pos) (dtE (dChain g1 g2 ta tb tc)) := by
  obtain ⟨rr, pr, kr⟩ := ho
  obtain ⟨rr', pr', kr'⟩ := ho'
  obtain ⟨te, pe, ka⟩ := ha.run
  obtain ⟨te2, pe2, kb⟩ := hb.run
  obtain ⟨te3, pe3, kc⟩ := hc.run
  refine ⟨_, pt_chain pr pr' pe pe2 pe3 hm, fun fx st r ts B H col Qd Xd Q ok s ht hQ => ?_⟩
  refine ka fx st r ts B H col _ Xd _ ok s ht fun v d r1 B1 H1 c1 h1 sB sH s1 w1 => ?_
  refine kb fx st r1 ts B1 H1 c1 _ Xd _ ok s1 h1 fun u e r2 B2 H2 c2 h2 sB2 sH2 s2 w2 => ?_
  obtain ⟨z, ez, hz⟩ := got_cases h2
  obtain ⟨k, e1, hz3⟩ := got_cases hz
  have := asB_some e1; subst this
  refine kr B2 H2 v u d e _ _ s2.bh (w1.mono sB2 (sH2 rfl)) w2 ez fun w hw => ⟨k, by have := hw B2 H2; cases this; rfl, ?_⟩
  cases k with
  | false => exact iteF ⟨false, rfl, hQ _ r2 B2 H2 c2 (by rw [if_neg Bool.false_ne_true] at hz3; exact hz3) (sB.trans sB2) (fun q => (sH q).trans (sH2 rfl)) s2⟩
  | true =>
    refine iteT (kc fx st r2 ts B2 H2 c2 _ Xd _ ok s2 (by rw [if_pos rfl] at hz3; exact hz3) fun u3 e3 r3 B3 H3 c3 h3 sB3 sH3 s3 w3 => ?_)
    obtain ⟨z, ez, hz⟩ := got_cases h3
    obtain ⟨k, e1, hz⟩ := got_cases hz
    have := asB_some e1; subst this
    exact kr' B3 H3 u u3 e e3 _ _ s3.bh (w2.mono sB3 (sH3 rfl)) w3 ez fun w hw => ⟨k, by have := hw B3 H3; cases this; rfl, hQ k r3 B3 H3 c3 hz ((sB.trans sB2).trans sB3) (fun q => ((sH q).trans (sH2 rfl)).trans (sH3 rfl)) s3⟩
/-- a if t else b -/
def dIf (t : DT) (ta tb : DE) : DE := fun r Q X => t r (fun b r1 => if b = true then ta r1 Q X else tb r1 Q X) X
theorem se_if {q q1 q2 : Bool} {c a b : Expr} {t : DT} {ta tb : DE} {pos} (hc : ST X g q c t) (ha : SE X g q1 a ta) (hb : SE X g q2 b tb) : SE X g (q && (q1 && q2)) (.IfExp c a b pos) (dIf t ta tb) := by
  obtain ⟨te, pe, k⟩ := hc.run
  obtain ⟨te1, pe1, k1⟩ := ha.run
  obtain ⟨te2, pe2, k2⟩ := hb.run
  refine ⟨_, pe_ifExp pe pe1 pe2, fun fx st r ts B H col Qd Xd Q ok s ht hQ => ?_⟩
  refine k fx st r ts B H col _ Xd _ ok s ht fun b r1 B1 H1 c1 h1 sB sH s1 => ?_
  cases b with
  | true => exact iteT (k1 fx st r1 ts B1 H1 c1 Qd Xd Q ok s1 (by rw [if_pos rfl] at h1; exact h1) fun v d r2 B2 H2 c2 q2 sB2 sH2 s2 => hQ v d r2 B2 H2 c2 q2 (sB.trans sB2) (fun q => by
      simp only [Bool.and_eq_true] at q
      exact (sH q.1).trans (sH2 q.2.1)) s2)
  | false => exact iteF (k2 fx st r1 ts B1 H1 c1 Qd Xd Q ok s1 (by rw [if_neg Bool.false_ne_true] at h1; exact h1) fun v d r2 B2 H2 c2 q2 sB2 sH2 s2 => hQ v d r2 B2 H2 c2 q2 (sB.trans sB2) (fun q => by
      simp only [Bool.and_eq_true] at q
      exact (sH q.1).trans (sH2 q.2.2)) s2)
end
end FM

set_option Elab.async false
set_option linter.all false
set_option maxRecDepth 100000
namespace FM
open PySem PySem.Spec PyProof.Rows L2

structure DEnds where
  nx : DEnv → Prop
  rt : D → DEnv → Prop
  bk : DEnv → Prop := fun _ => False
  ct : DEnv → Prop := fun _ => False
abbrev DS := DEnds → XP → DEnv → Prop
structure Fin (X : Cx) (fx : Fx) (B : Hp) (Dd : DEnds) (Dh : Ends) : Prop where
  nx : ∀ st r B' H' col, Dd.nx r → Same B B' → SR X.K X.mg fx st r [] B' H' col → Dh.nx st H'
  rt : ∀ v d st r B' H' col, Dd.rt d r → Same B B' → SR X.K X.mg fx st r [(v, d)] B' H' col → Dh.rt v H'
  bk : ∀ st r B' H' col, Dd.bk r → Same B B' → SR X.K X.mg fx st r [] B' H' col → Dh.bk st H'
  ct : ∀ st r B' H' col, Dd.ct r → Same B B' → SR X.K X.mg fx st r [] B' H' col → Dh.ct st H'
structure SS (X : Cx) (g : Gd) (s : Stmt) (t : DS) : Prop where
  run : ∃ ts : TS, PS X s ts ∧ ∀ (fx : Fx) (st : L2.St) (r : DEnv) (B H : Hp) (col : Col) (Dd : DEnds) (Xd : XP) (Dh : Ends), g.Ok X fx Xd → SR X.K X.mg fx st r [] B H col → t Dd Xd r → Fin X fx B Dd Dh → ts Dh st H
structure SSs (X : Cx) (g : Gd) (s : List Stmt) (t : DS) : Prop where
  run : ∃ ts : TS, PSs X s ts ∧ ∀ (fx : Fx) (st : L2.St) (r : DEnv) (B H : Hp) (col : Col) (Dd : DEnds) (Xd : XP) (Dh : Ends), g.Ok X fx Xd → SR X.K X.mg fx st r [] B H col → t Dd Xd r → Fin X fx B Dd Dh → ts Dh st H

section
variable {X : Cx} {g : Gd}
theorem Fin.from {fx : Fx} {B B' : Hp} {Dd : DEnds} {Dh : Ends} (f : Fin X fx B Dd Dh) (b : Same B B') : Fin X fx B' Dd Dh :=
  ⟨fun st r B2 H2 c h s => f.nx st r B2 H2 c h (b.trans s), fun v d st r B2 H2 c h s => f.rt v d st r B2 H2 c h (b.trans s), fun st r B2 H2 c h s => f.bk st r B2 H2 c h (b.trans s), fun st r B2 H2 c h s => f.ct st r B2 H2 c h (b.trans s)⟩

/-! ### blocks -/
def dNext : DS := fun D _ r => D.nx r
def dSeq (t u : DS) : DS := fun D X r => t { D with nx := fun r1 => u D X r1 } X r
theorem ss_nil : SSs X g [] dNext := ⟨_, pss_nil, fun fx st r B H col Dd Xd Dh ok s ht f => f.nx st r B H col ht (Same.refl B) s⟩
theorem ss_cons {s : Stmt} {ss : List Stmt} {t u : DS} (h1 : SS X g s t) (h2 : SSs X g ss u) : SSs X g (s :: ss) (dSeq t u) := by
  obtain ⟨ts, ps, k⟩ := h1.run
  obtain ⟨ts2, ps2, k2⟩ := h2.run
  refine ⟨_, pss_cons ps ps2, fun fx st r B H col Dd Xd Dh ok s ht f => ?_⟩
  refine k fx st r B H col _ Xd _ ok s ht ⟨fun st1 r1 B1 H1 c1 h sb s1 => ?_, f.rt, f.bk, f.ct⟩
  exact k2 fx st1 r1 B1 H1 c1 Dd Xd Dh ok s1 h (f.from sb)
theorem ss_one {s : Stmt} {t : DS} (h1 : SS X g s t) : SSs X g [s] t := by
  obtain ⟨ts, ps, k⟩ := h1.run
  exact ⟨_, pss_one ps, k⟩
def dBrk : DS := fun D _ r => D.bk r
def dCnt : DS := fun D _ r => D.ct r
theorem s_break {pos} : SS X g (.Break pos) dBrk := ⟨_, ps_break, fun fx st r B H col Dd Xd Dh ok s ht f => f.bk st r B H col ht (Same.refl B) s⟩
theorem s_continue {pos} : SS X g (.Continue pos) dCnt := ⟨_, ps_continue, fun fx st r B H col Dd Xd Dh ok s ht f => f.ct st r B H col ht (Same.refl B) s⟩
theorem s_pass {pos} : SS X g (.Pass pos) dNext := ⟨_, ps_pass, fun fx st r B H col Dd Xd Dh ok s ht f => f.nx st r B H col ht (Same.refl B) s⟩
theorem s_doc {x j pos pos'} : SS X g (.Expr (.Constant (.str x) j pos) pos') dNext := ⟨_, ps_doc, fun fx st r B H col Dd Xd Dh ok s ht f => f.nx st r B H col ht (Same.refl B) s⟩
def dDrop (t : DE) : DS := fun D X r => t r (fun _ r1 => D.nx r1) X
theorem s_expr {q : Bool} {e : Expr} {t : DE} {pos} (h : SE X g q e t) (hs : swapsWith e none pos.line X.env = pure false := by rfl) : SS X g (.Expr e pos) (dDrop t) := by
  obtain ⟨te, pe, k⟩ := h.run
  exact ⟨_, ps_expr pe hs, fun fx st r B H col Dd Xd Dh ok s ht f => k fx st r [] B H col _ Xd _ ok s ht fun v d r1 B1 H1 c1 h1 sB _ s1 => f.nx st r1 B1 H1 c1 h1 sB s1.drop⟩
def dRet (t : DE) : DS := fun D X r => t r (fun d r1 => D.rt d r1) X
theorem s_ret {q : Bool} {e : Expr} {t : DE} {pos} (h : SE X g q e t) : SS X g (.Return (some e) pos) (dRet t) := by
  obtain ⟨te, pe, k⟩ := h.run
  exact ⟨_, ps_ret pe, fun fx st r B H col Dd Xd Dh ok s ht f => k fx st r [] B H col _ Xd _ ok s ht fun v d r1 B1 H1 c1 h1 sB _ s1 => f.rt v d st r1 B1 H1 c1 h1 sB s1⟩
def dRetN : DS := fun D X r => D.rt .non r
theorem s_retN {pos} : SS X g (.Return none pos) dRetN :=
  ⟨_, ps_retN, fun fx st r B H col Dd Xd Dh ok s ht f => f.rt .non .non st r B H col ht (Same.refl B) (SR.push (ts := []) s .non)⟩
def dIfS (c : DT) (t u : DS) : DS := fun D X r => c r (fun b r1 => if b = true then t D X r1 else u D X r1) X
theorem s_if {q : Bool} {c : Expr} {a b : List Stmt} {tc : DT} {t u : DS} {pos} (hc : ST X g q c tc) (ha : SSs X g a t) (hb : SSs X g b u) : SS X g (.If c a b pos) (dIfS tc t u) := by
  obtain ⟨te, pe, k⟩ := hc.run
  obtain ⟨t1, p1, k1⟩ := ha.run
  obtain ⟨t2, p2, k2⟩ := hb.run
  refine ⟨_, ps_if pe p1 p2, fun fx st r B H col Dd Xd Dh ok s ht f => ?_⟩
  refine k fx st r [] B H col _ Xd _ ok s ht fun b r1 B1 H1 c1 h1 sB _ s1 => ?_
  cases b with
  | true => exact iteT (k1 fx st r1 B1 H1 c1 Dd Xd Dh ok s1 (by rw [if_pos rfl] at h1; exact h1) (f.from sB))
  | false => exact iteF (k2 fx st r1 B1 H1 c1 Dd Xd Dh ok s1 (by rw [if_neg Bool.false_ne_true] at h1; exact h1) (f.from sB))
/-- what is never come to -/
def dNever : DS := fun _ _ _ => False
theorem s_never {s : Stmt} : SS X g s dNever := ⟨_, ps_never, fun _ _ _ _ _ _ _ _ _ _ _ h _ => h.elim⟩
def dRaise (x : Str) : DS := fun _ X _ => X ⟨x, []⟩
theorem s_raise {x m : Str} {j : Nat} {p p2 pos pos' : Pos} {C : Addr} {bmB : List Value} {Bc newId initId : String} (hc : X.calm = true) (tk : L2N.Takes X fun c d _ H => g.E c d H) (F : ExcBaseFacts Bc newId initId bmB) (q : PySem.W.excIn X.K C bmB newId = true) (gC : X.mg x = some (.ref C))
    (kC : PySem.W.keepIn X.K (.ref C) = true) (r : Raises X (.ref C)) (hg : Gl X x) (hdb : (x == ("__debug__" : Str)) = false := by decide) : SS X g (.Raise (some (.Call (.Name x p) [.Constant (.str m) j p2] [] pos)) none pos') (dRaise x) :=
  ⟨_, L2N.ps_raise hc tk (L2N.pmk_own F q gC kC r hg hdb), fun fx st r B H col Dd Xd Dh ok s ht f => ok.link _ _ _ H ht ⟨C, gC, rfl, .inl ⟨rfl, rfl⟩⟩ s.frame s.stay⟩

/-! ### targets -/
abbrev DG := D → DEnv → (DEnv → Prop) → Prop
abbrev DGs := List D → DEnv → (DEnv → Prop) → Prop
structure SG (X : Cx) (g : Gd) (gs : List Nat) (tg : Expr) (t : DG) : Prop where
  run : ∃ gt : TG, PG X tg gt ∧ ∀ (fx : Fx) (st : L2.St) (r : DEnv) (ts : List (V × D)) (B H : Hp) (col : Col) (v : V) (d : D) (Qd : DEnv → Prop) (Q : L2.St → Hp → Prop), fx.io.map (·.1) = g.I → SR X.K X.mg fx st r (ts ++ [(v, d)]) B H col → t d r Qd →
    (∀ st' r' col', Qd r' → SR X.K X.mg fx st' r' ts B H col' → (∀ i, i ∉ gs → st'[i]? = st[i]?) → st'.length = st.length → Q st' H) → gt v st H Q
structure SGs (X : Cx) (g : Gd) (gs : List Nat) (tgs : List Expr) (t : DGs) : Prop where
  run : ∃ gt : TGs, PGs X tgs gt ∧ ∀ (fx : Fx) (st : L2.St) (r : DEnv) (ts : List (V × D)) (B H : Hp) (col : Col) (vs : List V) (ds : List D) (Qd : DEnv → Prop) (Q : L2.St → Hp → Prop), fx.io.map (·.1) = g.I → SR X.K X.mg fx st r ts B H col → Rels X.K X.mg B H vs ds [] → t ds r Qd →
    (∀ st' r' col', Qd r' → SR X.K X.mg fx st' r' ts B H col' → (∀ i, i ∉ gs → st'[i]? = st[i]?) → st'.length = st.length → Q st' H) → gt vs st H Q
def dgName (i : Nat) : DG := fun d r Q => i < r.length ∧ Q (r.set i (some d))
def dgNil : DGs := fun ds r Q => ds = [] ∧ Q r
def dgCons (t : DG) (u : DGs) : DGs := fun ds r Q => match ds with
  | d :: ds => t d r fun r1 => u ds r1 Q
  | [] => False
def asTup (n : Nat) : D → Option (List D)
  | .tup ds => if ds.length = n then some ds else none
  | _ => none
def dgTup (n : Nat) (u : DGs) : DG := fun d r Q => got (asTup n d) fun ds => stbL ds = true ∧ u ds r Q
theorem sg_name {i : Nat} {x : Str} {pos} (hN : X.N.Nodup) (hi : X.N[i]? = some x) (hx : Loc X.env.scope x) (hI : i ∉ g.I) (hf : X.fn x = true ∨ X.env.scope.names.lookup x = some .local := by first | exact .inl rfl | exact .inr rfl | assumption) : SG X g [i] (.Name x pos) (dgName i) := by
  refine ⟨_, pg_name hN hi hx hf, fun fx st r ts B H col v d Qd Q ok s ⟨hl, ht⟩ hQ => ?_⟩
  have s' := s.store (i := i) (fun p hp e => hI (by rw [← ok]; exact e ▸ List.mem_map_of_mem hp)) (by rw [← s.len]; exact hl)
  exact hQ _ _ _ ht s' (fun j hj => List.getElem?_set_ne (fun e => hj (by simp [e]))) (by simp)
theorem sgs_nil {gs : List Nat} : SGs X g gs [] dgNil := ⟨_, pgs_nil, fun fx st r ts B H col vs ds Qd Q ok s rr ⟨e, ht⟩ hQ => by
  subst e
  cases rr
  exact ⟨rfl, hQ st r col ht s (fun _ _ => rfl) rfl⟩⟩
theorem sgs_cons {g1 g2 : List Nat} {e : Expr} {es : List Expr} {t : DG} {u : DGs} (h1 : SG X g g1 e t) (h2 : SGs X g g2 es u) (hs : (assignEach (e :: es) X.env).map (·.2) = assign e X.env :: (assignEach es X.env).map (·.2) := by rfl) : SGs X g (g1 ++ g2) (e :: es) (dgCons t u) := by
  obtain ⟨gt, pg, k⟩ := h1.run
  obtain ⟨gt2, pg2, k2⟩ := h2.run
  refine ⟨_, pgs_cons pg pg2 hs, fun fx st r ts B H col vs ds Qd Q ok s rr ht hQ => ?_⟩
  cases ds with
  | nil => exact ht.elim
  | cons d ds =>
    generalize hF : ([] : List Addr) = F0 at rr
    cases rr with
    | cons r1 r2 =>
      rename_i v vs F G
      obtain ⟨rfl, rfl⟩ := List.append_eq_nil_iff.mp hF.symm
      refine ⟨v, vs, rfl, k fx st r ts B H col v d _ _ ok (s.push r1) ht fun st1 r1' c1 h1 s1 e1 l1 => ?_⟩
      exact k2 fx st1 r1' ts B H c1 vs ds Qd Q ok s1 r2 h1 fun st2 r2' c2 q2 s2 e2 l2 => hQ st2 r2' c2 q2 s2 (fun i hi => by
        simp only [List.mem_append, not_or] at hi
        exact (e2 i hi.2).trans (e1 i hi.1)) (l2.trans l1)
theorem sg_tup {gs : List Nat} {es : List Expr} {k : Nat} {u : DGs} {n : Nat} {pos} (hc : X.calm = true) (h : SGs X g gs es u) (hn : (assignEach es X.env).length = n := by rfl) (hst : (assignEach es X.env).findIdx? (·.1) = none := by rfl) : SG X g gs (.Tuple es k pos) (dgTup n u) := by
  obtain ⟨gt, pg, kk⟩ := h.run
  refine ⟨_, pg_tup hc pg hn hst, fun fx st r ts B H col v d Qd Q ok s ht hQ => ?_⟩
  obtain ⟨ds, e1, hs, ht2⟩ := got_cases ht
  have e2 : d = .tup ds ∧ ds.length = n := by
    unfold asTup at e1
    split at e1
    · split at e1
      · rename_i h; cases e1; exact ⟨rfl, h⟩
      · cases e1
    · cases e1
  obtain ⟨rfl, hl⟩ := e2
  have w := s.relTop (by simp only [stb]; exact hs)
  generalize hF : ([] : List Addr) = F0 at w
  cases w with
  | tup hq rr =>
    subst hF
    exact ⟨_, _, rfl, sqT_mono s.bh hq, by rw [rr.length]; exact hl, kk fx st r ts B H col _ ds Qd Q ok s.drop rr ht2 hQ⟩
def dAsg (t : DE) (u : DG) : DS := fun D X r => t r (fun d r1 => u d r1 D.nx) X
theorem s_asg {q : Bool} {gs : List Nat} {tg e : Expr} {t : DE} {u : DG} {pos} (he : SE X g q e t) (hg : SG X g gs tg u) (hs : swapsWithSole [tg] e pos.line X.env = pure false := by rfl) (hw : swappedStores [tg] e X.env = pure none := by rfl)
    (h1 : (assignEach [tg] X.env).map (·.2) = [assign tg X.env] := by rfl) : SS X g (.Assign [tg] e pos) (dAsg t u) := by
  obtain ⟨te, pe, k⟩ := he.run
  obtain ⟨gt, pg, kg⟩ := hg.run
  refine ⟨_, ps_asg pe pg hs hw h1, fun fx st r B H col Dd Xd Dh ok s ht f => ?_⟩
  refine k fx st r [] B H col _ Xd _ ok s ht fun v d r1 B1 H1 c1 h1 sB _ s1 => ?_
  exact kg fx st r1 [] B1 H1 c1 v d _ _ ok.io s1 h1 fun st2 r2 c2 q2 s2 _ _ => f.nx st2 r2 B1 H1 c2 q2 sB s2
/-- name = value -/
theorem s_set {q : Bool} {i : Nat} {x : Str} {e : Expr} {t : DE} {pos pos'} (hN : X.N.Nodup) (hi : X.N[i]? = some x) (hx : Loc X.env.scope x) (hI : i ∉ g.I) (he : SE X g q e t) (hs : swapsWith e (some (.Name x pos')) pos.line X.env = pure false := by rfl)
    (hf : X.fn x = true ∨ X.env.scope.names.lookup x = some .local := by first | exact .inl rfl | exact .inr rfl | assumption) : SS X g (.Assign [.Name x pos'] e pos) (dAsg t (dgName i)) := by
  obtain ⟨te, pe, k⟩ := he.run
  refine ⟨_, ps_set hN hi hx pe hs hf, fun fx st r B H col Dd Xd Dh ok s ht f => ?_⟩
  refine k fx st r [] B H col _ Xd _ ok s ht fun v d r1 B1 H1 c1 ⟨hl, h1⟩ sB _ s1 => ?_
  have s2 := SR.store (ts := []) (i := i) s1 (ok.ne hI) (by rw [← s1.len]; exact hl)
  exact f.nx _ _ B1 H1 _ h1 sB s2
/-- name op= e, the answer a number or a text -/
def dAug (i : Nat) (gg : D → D → Option D) (t : DE) : DS := fun D X r => got (slotAt r i) fun x => stb x = true ∧ t r (fun y r1 => got (gg x y) fun z => i < r1.length ∧ D.nx (r1.set i (some z))) X
theorem s_aug {q : Bool} {i : Nat} {x : Str} {e : Expr} {t : DE} {op : Operator} {gg : D → D → Option D} {pos pos'} (hN : X.N.Nodup) (hi : X.N[i]? = some x) (hx : Loc X.env.scope x) (hI : i ∉ g.I) (ho : OpA X (inplaceOp op) gg) (he : SB X g q e t)
    (hf : X.fn x = true ∨ X.env.scope.names.lookup x = some .local := by first | exact .inl rfl | exact .inr rfl | assumption) : SS X g (.AugAssign (.Name x pos') op e pos) (dAug i gg t) := by
  obtain ⟨rr, pr, kr⟩ := ho
  obtain ⟨te, pe, k⟩ := he.run
  refine ⟨_, ps_aug hN hi hx pe pr hf, fun fx st r B H col Dd Xd Dh ok s ht f => ?_⟩
  obtain ⟨x, e1, hs, ht⟩ := get_cases ht
  obtain ⟨v, e2, w⟩ := s.viewSlot e1
  refine ⟨v, e2, k fx st r [] B H col _ Xd _ ok s ht fun u y r1 B1 H1 c1 h1 sB _ s1 w1 => ?_⟩
  obtain ⟨z, ez, hl, hz⟩ := got_cases h1
  refine kr B1 H1 v u x y z _ s1.bh (w.mono' sB hs) w1 ez fun o ho => ?_
  have s2 := SR.store (ts := []) (i := i) (SR.push (ts := []) s1 (ho B1 H1)) (ok.ne hI) (by rw [← s1.len]; exact hl)
  exact f.nx _ _ B1 H1 _ hz sB s2
theorem oi_add : OpA X (inplaceOp .Add) gAdd := opa_I0 iop_add fun _ _ => atom_int
theorem oi_sub : OpA X (inplaceOp .Sub) gSub := opa_I0 iop_sub fun _ _ => atom_int
theorem oi_addS : OpA X (inplaceOp .Add) gAddS := by
  refine ⟨_, iop_add_str, fun B H v u d e z Q bh w1 w2 hz hQ => ?_⟩
  unfold gAddS at hz
  split at hz
  · split at hz
    · rename_i hh
      cases hz
      exact ⟨_, _, view_str w1, view_str w2, hh, hQ _ atom_str⟩
    · cases hz
  · cases hz

/-! ### loops -/
def WalkD (K : PySem.W.Frag) (mg : Str → Option Value) (B : Hp) (J : It) (items : List D) : Prop :=
  ∃ (G : Hp → Prop) (Y : Nat → Hp → V → Hp → Prop), Walk J items.length G Y ∧ (∀ H, Same B H → G H) ∧ ∀ i x B1 H1 H2, Same B B1 → Same B1 H1 → Y i H1 x H2 → ∃ d, items[i]? = some d ∧ stb d = true ∧ ∃ B2, Same B1 B2 ∧ Rel K mg B2 H2 x d [] ∧ ((B2 = B1 ∧ H2 = H1) ∨ ∃ T o, H1 T = none ∧ B2 = upd B1 T o ∧ H2 = upd H1 T o)
structure SI (X : Cx) (g : Gd) (q : Bool) (tg iter : Expr) (t : DA) : Prop where
  run : ∃ wi : TI, PI X tg iter wi ∧ ∀ (fx : Fx) (st : L2.St) (r : DEnv) (ts : List (V × D)) (B H : Hp) (col : Col) (Qd : List D → DEnv → Prop) (Xd : XP) (R : It → Hp → Prop), g.Ok X fx Xd → SR X.K X.mg fx st r ts B H col → t r Qd Xd →
    (∀ items r' B' H' col' J, Qd items r' → Same B B' → (q = true → Same H H') → SR X.K X.mg fx st r' ts B' H' col' → WalkD X.K X.mg B' J items → R J H') → wi st H R
def forW (u : DG) (tb : DS) (D : DEnds) (X : XP) : List FM.D → DEnv → Prop
  | [], r => D.nx r
  | d :: ds, r => u d r fun r1 => tb ⟨fun r2 => forW u tb D X ds r2, D.rt, D.nx, fun r2 => forW u tb D X ds r2⟩ X r1
def dFor (t : DA) (u : DG) (tb : DS) : DS := fun D X r => t r (fun items r1 => forW u tb D X items r1) X
theorem SR.yield {K : PySem.W.Frag} {mg : Str → Option Value} {fx : Fx} {st : L2.St} {r : DEnv} {ts : List (V × D)} {B1 H1 B2 H2 : Hp} {col : Col} {x : V} {d : D} (s : SR K mg fx st r ts B1 H1 col) (hr : Rel K mg B2 H2 x d []) (h : (B2 = B1 ∧ H2 = H1) ∨ ∃ T o, H1 T = none ∧ B2 = upd B1 T o ∧ H2 = upd H1 T o) :
    SR K mg fx st r (ts ++ [(x, d)]) B2 H2 col := by
  rcases h with ⟨rfl, rfl⟩ | ⟨T, o, hT, rfl, rfl⟩
  · exact s.push hr
  · exact (s.laidB hT o).push hr
theorem s_for {q : Bool} {gs : List Nat} {tg iter : Expr} {body : List Stmt} {t : DA} {u : DG} {tb : DS} {pos} (hp : PassesOwn (model X.prog X.w) X.A X.env X.xe) (hc : X.calm = true) (hi : SI X g q tg iter t) (hg : SG X g gs tg u) (hb : SSs X g body tb)
    (hs : ∀ x, foldedSetIterable iter X.env x = pure x := by intro _; rfl) : SS X g (.For tg iter body [] pos) (dFor t u tb) := by
  obtain ⟨wi, pi, k⟩ := hi.run
  obtain ⟨gt, pg, kg⟩ := hg.run
  obtain ⟨tsb, pb, kb⟩ := hb.run
  refine ⟨_, ps_for hp hc pi pg pb hs, fun fx st r B H col Dd Xd Dh ok s ht f => ?_⟩
  refine k fx st r [] B H col _ Xd _ ok s ht fun items r1 B1 H1 c1 J h1 sB _ s1 ⟨G, Y, w, hG, hY⟩ => ?_
  refine for_it w (fun i st2 H2 => ∃ r2 B2 c2, SR X.K X.mg fx st2 r2 [] B2 H2 c2 ∧ Same B1 B2 ∧ forW u tb Dd Xd (items.drop i) r2) ⟨r1, B1, c1, s1, Same.refl _, h1⟩ (fun i st2 H2 _ ⟨r2, B2, c2, s2, sb, _⟩ => hG H2 (sb.trans s2.bh)) (fun i x st2 H2 H3 hi ⟨r2, B2, c2, s2, sb, hf⟩ y => ?_) (fun st2 H2 ⟨r2, B2, c2, s2, sb, hf⟩ => ?_)
  · obtain ⟨d, e, hs, B3, sb3, rr, al⟩ := hY i x B2 H2 H3 sb s2.bh y
    have s3 := SR.yield (ts := []) s2 rr al
    have ed : items.drop i = d :: items.drop (i + 1) := by
      obtain ⟨hlt, e'⟩ := List.getElem?_eq_some_iff.mp e
      rw [List.drop_eq_getElem_cons hlt, e']
    rw [ed] at hf
    refine kg fx st2 r2 [] B3 H3 c2 x d _ _ ok.io s3 hf fun st4 r4 c4 h4 s4 _ _ => ?_
    refine kb fx st4 r4 B3 H3 c4 _ Xd _ ok s4 h4 ⟨fun st5 r5 B5 H5 c5 h5 sb5 s5 => ?_, fun v d st5 r5 B5 H5 c5 h5 sb5 s5 => ?_, fun st5 r5 B5 H5 c5 h5 sb5 s5 => ?_, fun st5 r5 B5 H5 c5 h5 sb5 s5 => ?_⟩
    · exact ⟨r5, B5, c5, s5, (sb.trans sb3).trans sb5, h5⟩
    · exact f.rt v d st5 r5 B5 H5 c5 h5 (((sB.trans sb).trans sb3).trans sb5) s5
    · exact f.nx st5 r5 B5 H5 c5 h5 (((sB.trans sb).trans sb3).trans sb5) s5
    · exact ⟨r5, B5, c5, s5, (sb.trans sb3).trans sb5, h5⟩
  · rw [List.drop_length] at hf
    exact f.nx st2 r2 B2 H2 c2 hf (sB.trans sb) s2
def dWhile (t : DT) (tb : DS) : DS := fun D X r => ∃ I : Nat → DEnv → Prop, (∃ m, I m r) ∧ ∀ m r, I m r → t r (fun b r1 => if b = true then tb ⟨fun r2 => ∃ m', m' < m ∧ I m' r2, D.rt, D.nx, fun r2 => ∃ m', m' < m ∧ I m' r2⟩ X r1 else D.nx r1) X
theorem s_while {q : Bool} {c : Expr} {body : List Stmt} {t : DT} {tb : DS} {pos} (hp : PassesOwn (model X.prog X.w) X.A X.env X.xe) (hc : ST X g q c t) (hb : SSs X g body tb) : SS X g (.While c body [] pos) (dWhile t tb) := by
  obtain ⟨tt, pt, k⟩ := hc.run
  obtain ⟨tsb, pb, kb⟩ := hb.run
  refine ⟨_, ps_while hp pt pb, fun fx st r B H col Dd Xd Dh ok s ⟨I, ⟨m0, i0⟩, hI⟩ f => ?_⟩
  refine ⟨fun m st2 H2 => ∃ r2 B2 c2, SR X.K X.mg fx st2 r2 [] B2 H2 c2 ∧ Same B B2 ∧ I m r2, ⟨m0, r, B, col, s, Same.refl _, i0⟩, fun m st2 H2 ⟨r2, B2, c2, s2, sb, i2⟩ => ?_⟩
  refine k fx st2 r2 [] B2 H2 c2 _ Xd _ ok s2 (hI m r2 i2) fun b r3 B3 H3 c3 h3 sb3 _ s3 => ?_
  cases b with
  | true =>
    rw [if_pos rfl] at h3 ⊢
    refine ⟨fun st4 H4 => ∃ m', m' < m ∧ ∃ r4 B4 c4, SR X.K X.mg fx st4 r4 [] B4 H4 c4 ∧ Same B B4 ∧ I m' r4, fun _ _ h => h, ?_⟩
    refine kb fx st2 r3 B3 H3 c3 _ Xd _ ok s3 h3 ⟨fun st5 r5 B5 H5 c5 ⟨m', hm, h5⟩ sb5 s5 => ?_, fun v d st5 r5 B5 H5 c5 h5 sb5 s5 => ?_, fun st5 r5 B5 H5 c5 h5 sb5 s5 => ?_, fun st5 r5 B5 H5 c5 ⟨m', hm, h5⟩ sb5 s5 => ?_⟩
    · exact ⟨m', hm, r5, B5, c5, s5, (sb.trans sb3).trans sb5, h5⟩
    · exact f.rt v d st5 r5 B5 H5 c5 h5 ((sb.trans sb3).trans sb5) s5
    · exact f.nx st5 r5 B5 H5 c5 h5 ((sb.trans sb3).trans sb5) s5
    · exact ⟨m', hm, r5, B5, c5, s5, (sb.trans sb3).trans sb5, h5⟩
  | false =>
    rw [if_neg Bool.false_ne_true] at h3 ⊢
    exact f.nx st2 r3 B3 H3 c3 h3 (sb.trans sb3) s3

/-! ### what is walked -/
def seqD : D → Option (List D)
  | .tup xs => some xs
  | .lst _ xs => some xs
  | _ => none
/-- a list or a tuple at hand: its items stay -/
def diSeq (t : DE) : DA := fun r Q X => t r (fun d r1 => got (seqD d) fun xs => stbL xs = true ∧ Q (frzL xs) r1) X
theorem walkD_tup {K : PySem.W.Frag} {mg : Str → Option Value} {B H : Hp} {a : Addr} {xs : List D} (h : Rel K mg B H (.ref a) (.tup xs) []) (s : stbL xs = true) : WalkD K mg B (Itt K a) xs := by
  generalize hF : ([] : List Addr) = F at h
  cases h with
  | @tup _ vs _ _ hq rr =>
    subst hF
    refine ⟨fun H => SqT K H a vs, YAt vs, by rw [← rr.length]; exact walk_tup, fun H' sb => sqT_mono sb hq, fun i x B1 H1 H2 b1 b2 ⟨e, ex⟩ => ?_⟩
    subst e
    have hi := (List.getElem?_eq_some_iff.mp ex).1
    rw [rr.length] at hi
    obtain ⟨v, G, e2, r2, sub, _⟩ := rr.get (List.getElem?_eq_getElem hi)
    rw [ex] at e2; cases e2
    have hs : stb xs[i] = true := by rw [stbL_all, List.all_eq_true] at s; exact s _ (List.getElem_mem hi)
    have := r2.stbF _ _ _ hs; subst this
    exact ⟨xs[i], List.getElem?_eq_getElem hi, hs, B1, Same.refl _, r2.mono b1 _ _ _ fun _ z => (nomatch z), .inl ⟨rfl, rfl⟩⟩
theorem walkD_lst {K : PySem.W.Frag} {mg : Str → Option Value} {B H : Hp} {a : Addr} {xs : List D} (h : Rel K mg B H (.ref a) (.lst false xs) []) (s : stbL xs = true) : WalkD K mg B (Itl K a) xs := by
  generalize hF : ([] : List Addr) = F at h
  cases h with
  | @fl _ vs _ hq rr =>
    refine ⟨fun H => SqL K H a vs, YAt vs, by rw [← rr.length]; exact walk_list, fun H' sb => .inl (.inl (sb _ _ hq)), fun i x B1 H1 H2 b1 b2 ⟨e, ex⟩ => ?_⟩
    subst e
    have hi := (List.getElem?_eq_some_iff.mp ex).1
    rw [rr.length] at hi
    obtain ⟨v, G, e2, r2, sub, _⟩ := rr.get (List.getElem?_eq_getElem hi)
    rw [ex] at e2; cases e2
    have hs : stb xs[i] = true := by rw [stbL_all, List.all_eq_true] at s; exact s _ (List.getElem_mem hi)
    have := r2.stbF _ _ _ hs; subst this
    exact ⟨xs[i], List.getElem?_eq_getElem hi, hs, B1, Same.refl _, r2.mono b1 _ _ _ fun _ z => (nomatch z), .inl ⟨rfl, rfl⟩⟩
/-- over a thing that is taken: a tuple, a list that is shared or made on the way -/
def diTup (t : DE) : DA := fun r Q X => t r (fun d r1 => match d with
  | .tup xs => stbL xs = true ∧ Q xs r1
  | _ => False) X
def diLst (t : DE) : DA := fun r Q X => t r (fun d r1 => match d with
  | .lst _ xs => Q (frzL xs) r1
  | _ => False) X
theorem si_tup {q : Bool} {tg e : Expr} {t : DE} (h : SE X g q e t) : SI X g q tg e (diTup t) := by
  obtain ⟨te, pe, k⟩ := h.run
  refine ⟨_, pi_tup pe, fun fx st r ts B H col Qd Xd R ok s ht hR => ?_⟩
  refine k fx st r ts B H col _ Xd _ ok s ht fun v d r1 B1 H1 c1 h1 sB sH s1 => ?_
  cases d with
  | tup xs =>
    have rl := s1.relTop (by simp only [stb]; exact h1.1)
    have rl2 := rl
    cases rl2 with
    | tup hq rr => exact ⟨_, rfl, ⟨_, sqT_mono s1.bh hq⟩, hR xs r1 B1 H1 c1 _ h1.2 sB sH s1.drop (walkD_tup rl h1.1)⟩
  | _ => exact h1.elim
theorem si_lst {q : Bool} {tg e : Expr} {t : DE} (h : SE X g q e t) : SI X g q tg e (diLst t) := by
  obtain ⟨te, pe, k⟩ := h.run
  refine ⟨_, pi_list pe, fun fx st r ts B H col Qd Xd R ok s ht hR => ?_⟩
  refine k fx st r ts B H col _ Xd _ ok s ht fun v d r1 B1 H1 c1 h1 sB sH s1 => ?_
  cases d with
  | lst o xs =>
    have s2 := s1.freezeTop
    have sBf := s1.sameF (.t ts.length)
    have rl : Rel X.K X.mg (frzB c1 (.t ts.length) B1 H1) H1 v (.lst false (frzL xs)) [] := s2.relTop (by simp only [frz, stb, stbL_frz]; rfl)
    have rl2 := rl
    cases rl2 with
    | fl hq rr => exact ⟨_, rfl, ⟨_, .inl (.inl (s2.bh _ _ hq))⟩, hR (frzL xs) r1 _ H1 _ _ h1 (sB.trans sBf) sH s2.drop (walkD_lst rl (stbL_frz xs))⟩
  | _ => exact h1.elim
/-- range(a), range(a, b) -/
def R62 (i : Int) : Prop := -(2 ^ 62) ≤ i ∧ i < 2 ^ 62
def rngD (a b : Int) : List D := (List.range (b - a).toNat).map fun i => .int (a + (i : Nat))
theorem walkD_rng {K : PySem.W.Frag} {mg : Str → Option Value} {B : Hp} {a b : Int} : WalkD K mg B (Itr a (b - a).toNat) (rngD a b) := by
  have hl : (rngD a b).length = (b - a).toNat := by unfold rngD; rw [List.length_map, List.length_range]
  refine ⟨fun _ => True, fun i H x H' => i < (b - a).toNat ∧ H' = H ∧ x = .int (a + i), ?_, fun _ _ => trivial, fun i x B1 H1 H2 b1 b2 ⟨hi, e, ex⟩ => ?_⟩
  · rw [hl]
    exact walk_range.mono (fun _ h => h) fun i H x H' hi _ y => ⟨hi, y⟩
  · subst e ex
    exact ⟨.int (a + i), by unfold rngD; rw [List.getElem?_map, List.getElem?_range hi]; rfl, rfl, B1, Same.refl _, .int _, .inl ⟨rfl, rfl⟩⟩
def diRng1 (u : DA) : DA := fun r Q X => u r (fun ds r1 => match ds with
  | [.int j] => R62 j ∧ Q (rngD 0 j) r1
  | _ => False) X
def diRng2 (u : DA) : DA := fun r Q X => u r (fun ds r2 => match ds with
  | [.int i, .int j] => R62 i ∧ R62 j ∧ Q (rngD i j) r2
  | _ => False) X
theorem si_rng1 {q : Bool} {tg a : Expr} {u : DA} {p pos : Pos} (hg : Gl X "range") (hm : X.mg "range" = none) (h : SL X g q [a] u) (hs : starEach [a] X.env = [(false, eval a X.env)] := by rfl) : SI X g q tg (.Call (.Name "range" p) [a] [] pos) (diRng1 u) := by
  obtain ⟨te, pe, k⟩ := h.run
  refine ⟨_, pi_range1 hg hm pe hs, fun fx st r ts B H col Qd Xd R ok s ht hR => ?_⟩
  refine k fx st r ts B H col _ Xd _ ok s ht fun vs ds r1 B1 H1 c1 h1 sB sH s1 w => ?_
  split at h1
  · rename_i j
    obtain ⟨v, e1, w1⟩ := vws1 w; subst e1
    have := view_int w1; subst this
    have w0 : WalkD X.K X.mg B1 (Itr 0 (j - 0).toNat) (rngD 0 j) := walkD_rng
    rw [Int.sub_zero] at w0
    exact ⟨j, rfl, h1.1.1, h1.1.2, hR _ r1 B1 H1 c1 _ h1.2 sB sH s1 w0⟩
  · exact h1.elim
theorem si_rng2 {q : Bool} {tg a b : Expr} {u : DA} {p pos : Pos} (hg : Gl X "range") (hm : X.mg "range" = none) (h : SL X g q [a, b] u) (hs : starEach [a, b] X.env = [(false, eval a X.env), (false, eval b X.env)] := by rfl) (hs2 : starEach [b] X.env = [(false, eval b X.env)] := by rfl) : SI X g q tg (.Call (.Name "range" p) [a, b] [] pos) (diRng2 u) := by
  obtain ⟨te, pe, k⟩ := h.run
  refine ⟨_, pi_range2 hg hm pe hs hs2, fun fx st r ts B H col Qd Xd R ok s ht hR => ?_⟩
  refine k fx st r ts B H col _ Xd _ ok s ht fun vs ds r1 B1 H1 c1 h1 sB sH s1 w => ?_
  split at h1
  · rename_i i j
    obtain ⟨v, v2, e1, w1, w2⟩ := vws2 w; subst e1
    have := view_int w1; subst this
    have := view_int w2; subst this
    exact ⟨i, j, rfl, ⟨h1.1.1, h1.1.2, h1.2.1.1, h1.2.1.2⟩, hR _ r1 B1 H1 c1 _ h1.2.2 sB sH s1 walkD_rng⟩
  · exact h1.elim
end
end FM

set_option Elab.async false
set_option linter.all false
set_option maxRecDepth 100000
namespace FM
open PySem PySem.Spec PyProof.Rows L2

/-- what a def does to trees: io are the places of the arguments that it may change -/
structure FSpec where
  n : Nat
  io : List Nat
  wp : List D → (D → List D → Prop) → XP → Prop
def slotsAt (r : DEnv) : List Nat → Option (List D)
  | [] => some []
  | i :: is => match slotAt r i, slotsAt r is with
    | some d, some ds => some (d :: ds)
    | _, _ => none
theorem slotsAt_cons {r : DEnv} {i : Nat} {is : List Nat} {ds : List D} (h : slotsAt r (i :: is) = some ds) : ∃ d ds', ds = d :: ds' ∧ slotAt r i = some d ∧ slotsAt r is = some ds' := by
  simp only [slotsAt] at h
  split at h
  · rename_i d ds' e1 e2; cases h; exact ⟨d, ds', rfl, e1, e2⟩
  · cases h
theorem slotsAt_get {r : DEnv} : ∀ {is : List Nat} {ds : List D}, slotsAt r is = some ds → ds.length = is.length ∧ ∀ (k i : Nat) (d : D), is[k]? = some i → ds[k]? = some d → slotAt r i = some d
  | [], ds, h => by
    cases h
    exact ⟨rfl, fun k i d e => by simp at e⟩
  | i :: is, ds, h => by
    obtain ⟨d, ds', rfl, e1, e2⟩ := slotsAt_cons h
    obtain ⟨hl, k2⟩ := slotsAt_get e2
    refine ⟨by simp [hl], fun k j d' a b => ?_⟩
    cases k with
    | zero => simp at a b; subst a; subst b; exact e1
    | succ k => exact k2 k j d' (by simpa using a) (by simpa using b)
def spOf (K : PySem.W.Frag) (mg : Str → Option Value) (fs : FSpec) : Sp := fun vs H Q E => vs.length = fs.n ∧ ∃ (fx : Fx) (ds : List D) (B : Hp) (col : Col) (Qd : D → List D → Prop) (Xd : XP), fx.H0 = H ∧ fx.B0 = B ∧ fx.io.map (·.1) = fs.io ∧ ds.length = fs.n ∧
  SR K mg fx (vs.map some) (ds.map some) [] B H col ∧ (∀ a p, fx.IO a = some p → col a = some (.s p)) ∧ fs.wp ds Qd Xd ∧ (∀ v d outs st r B' H' col', slotsAt r fs.io = some outs → Qd d outs → SR K mg fx st r [(v, d)] B' H' col' → Q v H') ∧ Link mg fx Xd E

section
variable {P : Program} {w : World} {K : PySem.W.Frag} {mg : Str → Option Value} {base : Heap}
theorem map_some_get {α : Type} {l : List α} {i : Nat} {x : α} (h : (l.map some)[i]? = some (some x)) : l[i]? = some x := by
  rw [List.getElem?_map] at h
  cases e : l[i]? with
  | none => rw [e] at h; cases h
  | some y => rw [e] at h; simpa using h
theorem start_get {α : Type} {l : List α} {n i : Nat} {x : α} (h : (l.map some ++ List.replicate n none)[i]? = some (some x)) : (l.map some)[i]? = some (some x) := by
  by_cases hi : i < (l.map some).length
  · rw [List.getElem?_append_left hi] at h; exact h
  · rw [List.getElem?_append_right (by omega), List.getElem?_replicate] at h
    split at h <;> cases h
theorem get_start {α : Type} {l : List α} {n i : Nat} {x : Option α} (h : (l.map some)[i]? = some x) : (l.map some ++ List.replicate n none)[i]? = some x := by
  rw [List.getElem?_append_left (List.getElem?_eq_some_iff.mp h).1]; exact h
theorem SR.start {fx : Fx} {vs : List V} {ds : List D} {B H : Hp} {col : Col} (s : SR K mg fx (vs.map some) (ds.map some) [] B H col) (n : Nat) : SR K mg fx (vs.map some ++ List.replicate n none) (ds.map some ++ List.replicate n none) [] B H col :=
  ⟨fun i d e => by
    obtain ⟨v, F, e1, h⟩ := s.slot i d (start_get e)
    exact ⟨v, F, get_start e1, h⟩, s.temp, s.bh, s.b0, s.frame, s.stay, s.new, s.grow, s.nb, s.th, fun p hp => get_start (s.io p hp), by
    have := s.len
    simp only [List.length_append, List.length_map, List.length_replicate] at this ⊢
    omega⟩
end

/-! ### a call -/
/-- an argument: taken, looked at in its slot, handed over in its slot to be changed -/
inductive AK where
  | c (d : D) | b (i : Nat) | m (i : Nat)
abbrev DAk := DEnv → (List AK → DEnv → Prop) → XP → Prop
/-- the taken ones -/
def csOf : List V → List AK → List (V × D)
  | v :: vs, .c d :: as => (v, d) :: csOf vs as
  | _ :: vs, _ :: as => csOf vs as
  | _, _ => []
inductive ArgOk (st : L2.St) : List V → List AK → Prop
  | nil : ArgOk st [] []
  | c {v : V} {vs : List V} {d : D} {as : List AK} : ArgOk st vs as → ArgOk st (v :: vs) (.c d :: as)
  | b {v : V} {vs : List V} {i : Nat} {as : List AK} : st[i]? = some (some v) → ArgOk st vs as → ArgOk st (v :: vs) (.b i :: as)
  | m {v : V} {vs : List V} {i : Nat} {as : List AK} : st[i]? = some (some v) → ArgOk st vs as → ArgOk st (v :: vs) (.m i :: as)
structure SK (X : Cx) (g : Gd) (q : Bool) (es : List Expr) (t : DAk) : Prop where
  run : ∃ ta : TA, PA X es ta ∧ ∀ (fx : Fx) (st : L2.St) (r : DEnv) (ts : List (V × D)) (B H : Hp) (col : Col) (Qd : List AK → DEnv → Prop) (Xd : XP) (Q : List V → Hp → Prop), g.Ok X fx Xd → SR X.K X.mg fx st r ts B H col → t r Qd Xd →
    (∀ vs as r' B' H' col', Qd as r' → Same B B' → (q = true → Same H H') → SR X.K X.mg fx st r' (ts ++ csOf vs as) B' H' col' → ArgOk st vs as → Q vs H') → ta st H Q
section
variable {X : Cx} {g : Gd}
def dkNil : DAk := fun r Q _ => Q [] r
def dkC (t : DE) (u : DAk) : DAk := fun r Q X => t r (fun d r1 => u r1 (fun as r2 => Q (.c d :: as) r2) X) X
def dkB (i : Nat) (u : DAk) : DAk := fun r Q X => got (slotAt r i) fun _ => u r (fun as r2 => Q (.b i :: as) r2) X
def dkM (i : Nat) (u : DAk) : DAk := fun r Q X => got (slotAt r i) fun _ => u r (fun as r2 => Q (.m i :: as) r2) X
theorem sk_nil : SK X g true [] dkNil := ⟨_, pa_nil, fun fx st r ts B H col Qd Xd Q ok s ht hQ => hQ [] [] r B H col ht (Same.refl B) (fun _ => Same.refl H) (by simpa [csOf] using s) .nil⟩
theorem sk_c {q1 q2 : Bool} {e : Expr} {es : List Expr} {t : DE} {u : DAk} (ha : SE X g q1 e t) (hr : SK X g q2 es u) (hs : starEach (e :: es) X.env = (false, eval e X.env) :: starEach es X.env := by rfl) : SK X g (q1 && q2) (e :: es) (dkC t u) := by
  obtain ⟨te, pe, ka⟩ := ha.run
  obtain ⟨te2, pe2, kb⟩ := hr.run
  refine ⟨_, pa_cons pe pe2 hs, fun fx st r ts B H col Qd Xd Q ok s ht hQ => ?_⟩
  refine ka fx st r ts B H col _ Xd _ ok s ht fun v d r1 B1 H1 c1 h1 sB sH s1 => ?_
  refine kb fx st r1 (ts ++ [(v, d)]) B1 H1 c1 _ Xd _ ok s1 h1 fun vs as r2 B2 H2 c2 h2 sB2 sH2 s2 a2 => ?_
  exact hQ (v :: vs) (.c d :: as) r2 B2 H2 c2 h2 (sB.trans sB2) (fun q => by
    simp only [Bool.and_eq_true] at q
    exact (sH q.1).trans (sH2 q.2)) (by simpa [csOf] using s2) (.c a2)
theorem sk_b {q : Bool} {i : Nat} {e : Expr} {es : List Expr} {u : DAk} (p : PE X e (tVar i)) (hr : SK X g q es u) (hs : starEach (e :: es) X.env = (false, eval e X.env) :: starEach es X.env := by rfl) : SK X g q (e :: es) (dkB i u) := by
  obtain ⟨te2, pe2, kb⟩ := hr.run
  refine ⟨_, pa_cons p pe2 hs, fun fx st r ts B H col Qd Xd Q ok s ht hQ => ?_⟩
  obtain ⟨d, e1, h⟩ := get_cases ht
  obtain ⟨v, F, e2, _⟩ := s.slot i d e1
  refine ⟨v, e2, kb fx st r ts B H col _ Xd _ ok s h fun vs as r2 B2 H2 c2 h2 sB2 sH2 s2 a2 => hQ (v :: vs) (.b i :: as) r2 B2 H2 c2 h2 sB2 sH2 (by simpa [csOf] using s2) (.b e2 a2)⟩
theorem sk_m {q : Bool} {i : Nat} {e : Expr} {es : List Expr} {u : DAk} (p : PE X e (tVar i)) (hr : SK X g q es u) (hs : starEach (e :: es) X.env = (false, eval e X.env) :: starEach es X.env := by rfl) : SK X g q (e :: es) (dkM i u) := by
  obtain ⟨te2, pe2, kb⟩ := hr.run
  refine ⟨_, pa_cons p pe2 hs, fun fx st r ts B H col Qd Xd Q ok s ht hQ => ?_⟩
  obtain ⟨d, e1, h⟩ := get_cases ht
  obtain ⟨v, F, e2, _⟩ := s.slot i d e1
  refine ⟨v, e2, kb fx st r ts B H col _ Xd _ ok s h fun vs as r2 B2 H2 c2 h2 sB2 sH2 s2 a2 => hQ (v :: vs) (.m i :: as) r2 B2 H2 c2 h2 sB2 sH2 (by simpa [csOf] using s2) (.m e2 a2)⟩

/-- the arguments as trees -/
def argD (r : DEnv) : AK → Option D
  | .c d => some (frz d)
  | .b i => (slotAt r i).map frz
  | .m i => slotAt r i
def argDs (r : DEnv) : List AK → Option (List D)
  | [] => some []
  | a :: as => match argD r a, argDs r as with
    | some d, some ds => some (d :: ds)
    | _, _ => none
/-- the slots handed over, and their places among the arguments -/
def msOf : List AK → List Nat
  | [] => []
  | .m i :: as => i :: msOf as
  | _ :: as => msOf as
def mpOf (n : Nat) : List AK → List Nat
  | [] => []
  | .m _ :: as => n :: mpOf (n + 1) as
  | _ :: as => mpOf (n + 1) as
/-- the slots that are looked at and hold something of their own -/
def buOf (r : DEnv) : List AK → List Nat
  | [] => []
  | .b i :: as => match slotAt r i with
    | some d => if stb d = true then buOf r as else i :: buOf r as
    | none => i :: buOf r as
  | _ :: as => buOf r as
def putAll : DEnv → List Nat → List D → DEnv
  | r, i :: is, d :: ds => putAll (r.set i (some d)) is ds
  | r, _, _ => r
/-- the call is as the def wants it -/
def callOk (fs : FSpec) (r : DEnv) (as : List AK) : Bool := decide (as.length = fs.n) && (decide (mpOf 0 as = fs.io) && (decide (msOf as).Nodup && (buOf r as).all fun i => decide (i ∉ msOf as)))
def dCall (fs : FSpec) (u : DAk) : DE := fun r Q X => u r (fun as r1 => got (argDs r1 as) fun ds => callOk fs r1 as = true ∧ fs.wp ds (fun d outs => (buOf r1 as = [] ∨ (nofl d = true ∧ noflL outs = true)) ∧ Q d (putAll r1 (msOf as) outs)) X) X
end
end FM

set_option Elab.async false
set_option linter.all false
set_option maxRecDepth 100000
namespace FM
open PySem PySem.Spec PyProof.Rows L2
/-- a def's promise, where no text of an object is being made -/
structure FnG (P : Program) (w : World) (K : PySem.W.Frag) (mg : Str → Option Value) (base : Heap) (k : Nat) (f : Addr) (fd : FuncData) (ps : List Str) (sp : Sp) : Prop where
  len : ∀ vs H Q E, sp vs H Q E → vs.length = ps.length
  run : ∀ (A : Around) (outer : List Env) (s : Shared) (H : Hp) (args : Args) (us : List Value) (vs : List V) (Q : VK) (E : XK), Room k A → A.guards = some [] → Env0 P w K mg base A outer s H → BindsTo s fd args (ps.zip us) → Vals vs us → sp vs H Q E →
    codeAny (model P w) A (.call (.ref f) args) (CR (L2N.CX P w) outer P w H s Q E) s
section
variable {P : Program} {w : World} {K : PySem.W.Frag} {mg : Str → Option Value} {base : Heap}
theorem FnG.mono {j k : Nat} {f : Addr} {fd : FuncData} {ps : List Str} {sp : Sp} (F : FnG P w K mg base j f fd ps sp) (h : j ≤ k) : FnG P w K mg base k f fd ps sp :=
  ⟨F.len, fun A outer s H args us vs Q E hr => F.run A outer s H args us vs Q E (hr.mono h)⟩
theorem guards_deeper {A : Around} {env : Env} (h : A.guards = some []) : (A.deeper env).guards = some [] := by
  first | exact h | simpa [Around.deeper] using h
theorem Fun.okG {x qual : Str} {st : Stmt} {f : Addr} {fd : FuncData} {N ps : List Str} {k : Nat} {sp : Sp} (F : Fun K x qual st f fd) (S : FnScope N ps (defScope st)) (len : ∀ vs H Q E, sp vs H Q E → vs.length = ps.length)
    (hbody : ∀ (cdv : Value) (A : Around) (outer : List Env) (s : Shared) (H : Hp) (vs : List V) (Q : VK) (E : XK), Room k (A.deeper (envOfC qual (defScope st) s.heap.objs.size f cdv)) → A.guards = some [] → sp vs H Q E →
      ∃ t, PSs (cxOf (L2N.CX P w) P w K mg base N qual (defScope st) f cdv A outer s H E) (defBody st) t ∧ t { nx := fun _ H' => Q .non H', rt := Q } (start N vs) H) : FnG P w K mg base (k + 1) f fd ps sp := by
  obtain ⟨oc, od, kV, doc, pm, an, cdv, ct, osl, efd, lk, hcd⟩ := F.ex
  subst efd
  constructor
  · exact len
  intro A outer s H args us vs Q E room hgd e0 hb rel hsp
  have stay : ∀ b o, base.get? b = some o → s.heap.get? b = some o := fun b o e => (e0.bs b o e).1
  have inK : K.In s.heap := e0.mod.kin.keeps stay
  refine codeAny_call_function room.depth (inK _ _ lk) rfl S.co S.gen rfl (PySem.W.codeRec_of inK hcd) (hb _ _ _ _ ?_)
  refine wpAny_newFunctionEnv_cells S.kind (fun y hy => ?_) fun env he s1 x => ?_
  · rcases S.par y.1 (List.of_mem_zip (show (y.1, y.2) ∈ ps.zip us from hy)).1 with q | q
    · exact .inl q
    · exact .inr ⟨q, PySem.W.cellsFrom_some _ _ _ (.inl q)⟩
  · subst he
    refine ⟨(e0.mod.nolimit.keeps stay).keeps x.toInCall.keep, codeAny_func ?_⟩
    obtain ⟨t, ht, hq⟩ := hbody cdv A outer s H vs Q E (room.deeper _) hgd hsp
    have I0 : Inv (cxOf (L2N.CX P w) P w K mg base N qual (defScope st) f cdv A outer s H E) [] (L2.start N vs) H s1 := inv_start S room.hd e0 (len _ _ _ _ hsp) rel x
    refine wpAny_mono (ht.run [] s1 _ H _ I0 hq) (fun fl s' hs => ?_) fun e s' hs => hs
    cases fl with
    | next =>
      obtain ⟨st', H', J, q⟩ := hs
      exact ⟨V.non, H', J.os, J.bare, J.base, J.hok, rfl, q⟩
    | ret u =>
      obtain ⟨v, st', H', J, rv, q⟩ := hs
      exact ⟨v, H', J.os, J.bare, J.base, J.hok, rv, q⟩
    | brk => obtain ⟨_, _, _, q⟩ := hs; exact q.elim
    | cont => obtain ⟨_, _, _, q⟩ := hs; exact q.elim
end
section
variable {X : Cx} {k : Nat} {f : Addr} {fd : FuncData} {ps : List Str} {sp : Sp} {E : XK} {x : Str} {p pos : Pos} {e : Expr} {es : List Expr} {t : TA}
theorem pe_callG (F : FnG X.prog X.w X.K X.mg X.base k f fd ps sp) (hr : Room k X.A) (hgd : X.A.guards = some []) (hg : Gl X x) (hm : X.mg x = some (.ref f)) (hk : PySem.W.keepIn X.K (.ref f) = true) (hb : Binds X.K fd ps []) (hx : Passes (L2N.CX X.prog X.w) X E)
    (ha : PA X (e :: es) t) (hdb : (x == ("__debug__" : Str)) = false := by decide) (he : starEach (e :: es) X.env = (false, eval e X.env) :: starEach es X.env := by rfl) (hpl : (backTo pos (starEach es X.env)).any (·.1) = false := by rfl) :
    PE X (.Call (.Name x p) (e :: es) [] pos) (fun st H Q => t st H fun vs H1 => sp vs H1 Q E) := by
  constructor
  intro pins s st H Q I h
  refine wpAny_Call_Name_kw (ld_glob I hg hm ?_ hdb)
  refine PySem.W.callWith_K (h₀ := X.base) I.ok.mod.kin hk (thn (ha.run pos pins s st H _ I h) fun us s1 ⟨vs, H1, I1, r, q⟩ => ⟨I1.kIn, ?_⟩) he hpl
  have hl : us.length = ps.length := by rw [← r.length]; exact F.len _ _ _ _ q
  have b := hb s1 us I1.kIn (by rw [List.append_nil]; exact hl)
  rw [List.append_nil] at b
  refine wpAny_call (codeAny_mono (F.run X.A X.stack s1 H1 ⟨us, []⟩ us vs Q E hr hgd I1.env0 b r q) fun res s' hq => ?_)
  cases res with
  | error e => exact hx pins st H1 s1 e s' I1 hq
  | ok fl =>
    cases fl with
    | ret u => exact I1.after hq
    | next => exact False.elim hq
    | brk => exact False.elim hq
    | cont => exact False.elim hq
end
section
variable {P : Program} {w : World} {K : PySem.W.Frag} {mg : Str → Option Value} {base : Heap}
/-- a def keeps its promise, by its body -/
theorem fn_ok {x qual : Str} {st : Stmt} {f : Addr} {fd : FuncData} {N ps : List Str} {k : Nat} {tb : DS} (F : Fun K x qual st f fd) (S : FnScope N ps (defScope st)) (fs : FSpec) (hn : ps.length = fs.n)
    (hb : ∀ (cdv : Value) (A : Around) (outer : List Env) (s : Shared) (H : Hp) (E : XK), Room k (A.deeper (envOfC qual (defScope st) s.heap.objs.size f cdv)) → A.guards = some [] →
      SSs (cxOf (L2N.CX P w) P w K mg base N qual (defScope st) f cdv A outer s H E) ⟨E, fs.io⟩ (defBody st) tb)
    (hw : ∀ (ds : List D) (Qd : D → List D → Prop) (Xd : XP), ds.length = fs.n → fs.wp ds Qd Xd →
      tb ⟨fun r => got (slotsAt r fs.io) (Qd .non), fun d r => got (slotsAt r fs.io) (Qd d), fun _ => False, fun _ => False⟩ Xd (ds.map some ++ List.replicate (N.length - fs.n) none)) :
    FnG P w K mg base (k + 1) f fd ps (spOf K mg fs) := by
  refine Fun.okG F S (fun vs H Q E h => h.1.trans hn.symm) fun cdv A outer s H vs Q E hr hgd hsp => ?_
  obtain ⟨hl, fx, ds, B, col, Qd, Xd, rfl, rfl, io, hd, sr, _, wp, hQ, lk⟩ := hsp
  obtain ⟨ts, pss, kk⟩ := (hb cdv A outer s fx.H0 E hr hgd).run
  refine ⟨ts, pss, ?_⟩
  have sr' := sr.start (N.length - fs.n)
  have e : start N vs = vs.map some ++ List.replicate (N.length - fs.n) none := by unfold L2.start; rw [hl]
  rw [e]
  refine kk fx _ _ _ _ col _ Xd _ ⟨io, lk⟩ sr' (hw ds Qd Xd hd wp) ⟨fun st r B' H' c h sb s1 => ?_, fun v d st r B' H' c h sb s1 => ?_, fun _ _ _ _ _ h => h.elim, fun _ _ _ _ _ h => h.elim⟩
  · obtain ⟨outs, e1, h⟩ := got_cases h
    exact hQ .non .non outs st r B' H' c e1 h (SR.push (ts := []) s1 .non)
  · obtain ⟨outs, e1, h⟩ := got_cases h
    exact hQ v d outs st r B' H' c e1 h s1
end
end FM

set_option Elab.async false
set_option linter.all false
set_option maxRecDepth 100000
namespace FM
open PySem PySem.Spec PyProof.Rows L2

theorem argDs_get {r : DEnv} : ∀ {as : List AK} {ds : List D}, argDs r as = some ds → ds.length = as.length ∧ ∀ (j : Nat) (a : AK), as[j]? = some a → ∃ d, ds[j]? = some d ∧ argD r a = some d
  | [], ds, h => by cases h; exact ⟨rfl, fun j a e => by simp at e⟩
  | a :: as, ds, h => by
    simp only [argDs] at h
    split at h
    · rename_i d ds' e1 e2
      cases h
      obtain ⟨hl, k⟩ := argDs_get e2
      refine ⟨by simp [hl], fun j b e => ?_⟩
      cases j with
      | zero => simp at e; subst e; exact ⟨d, rfl, e1⟩
      | succ j => simpa using k j b (by simpa using e)
    · cases h
theorem ArgOk.len {st : L2.St} {vs : List V} {as : List AK} (h : ArgOk st vs as) : vs.length = as.length := by
  induction h <;> simp_all
theorem ArgOk.slot {st : L2.St} {vs : List V} {as : List AK} (h : ArgOk st vs as) : ∀ {j i : Nat}, (as[j]? = some (.b i) ∨ as[j]? = some (.m i)) → ∃ v, vs[j]? = some v ∧ st[i]? = some (some v) := by
  induction h with
  | nil => intro j i e; simp at e
  | c _ ih =>
    intro j i e
    cases j with
    | zero => simp at e
    | succ j => simpa using ih (by simpa using e)
  | b h1 _ ih =>
    intro j i e
    cases j with
    | zero => simp at e; subst e; exact ⟨_, rfl, h1⟩
    | succ j => simpa using ih (by simpa using e)
  | m h1 _ ih =>
    intro j i e
    cases j with
    | zero => simp at e; subst e; exact ⟨_, rfl, h1⟩
    | succ j => simpa using ih (by simpa using e)
theorem csOf_get {st : L2.St} {vs : List V} {as : List AK} (h : ArgOk st vs as) : ∀ {j : Nat} {d : D}, as[j]? = some (.c d) → ∃ (v : V) (k : Nat), vs[j]? = some v ∧ (csOf vs as)[k]? = some (v, d) := by
  induction h with
  | nil => intro j d e; simp at e
  | @c v vs d' as _ ih =>
    intro j d e
    cases j with
    | zero => simp at e; subst e; exact ⟨v, 0, rfl, rfl⟩
    | succ j =>
      obtain ⟨v, k, e1, e2⟩ := ih (j := j) (d := d) (by simpa using e)
      exact ⟨v, k + 1, by simpa using e1, by simpa [csOf] using e2⟩
  | @b v vs i as h1 _ ih =>
    intro j d e
    cases j with
    | zero => simp at e
    | succ j =>
      obtain ⟨v, k, e1, e2⟩ := ih (j := j) (d := d) (by simpa using e)
      exact ⟨v, k, by simpa using e1, by simpa [csOf] using e2⟩
  | @m v vs i as h1 _ ih =>
    intro j d e
    cases j with
    | zero => simp at e
    | succ j =>
      obtain ⟨v, k, e1, e2⟩ := ih (j := j) (d := d) (by simpa using e)
      exact ⟨v, k, by simpa using e1, by simpa [csOf] using e2⟩
def posM (i : Nat) : Nat → List AK → Option Nat
  | _, [] => none
  | n, .m j :: as => if j = i then some n else posM i (n + 1) as
  | n, _ :: as => posM i (n + 1) as
theorem posM_some {i : Nat} : ∀ {as : List AK} {n p : Nat}, posM i n as = some p → n ≤ p ∧ as[p - n]? = some (.m i)
  | [], _, _, h => by cases h
  | .m j :: as, n, p, h => by
    simp only [posM] at h
    split at h
    · rename_i e; cases h; subst e; exact ⟨Nat.le_refl _, by simp⟩
    · obtain ⟨a, b⟩ := posM_some h
      refine ⟨by omega, ?_⟩
      have e : p - n = (p - (n + 1)) + 1 := by omega
      rw [e]; simpa using b
  | .c _ :: as, n, p, h => by
    obtain ⟨a, b⟩ := posM_some (show posM i (n + 1) as = some p from h)
    refine ⟨by omega, ?_⟩
    have e : p - n = (p - (n + 1)) + 1 := by omega
    rw [e]; simpa using b
  | .b _ :: as, n, p, h => by
    obtain ⟨a, b⟩ := posM_some (show posM i (n + 1) as = some p from h)
    refine ⟨by omega, ?_⟩
    have e : p - n = (p - (n + 1)) + 1 := by omega
    rw [e]; simpa using b
theorem mem_msOf {i : Nat} : ∀ {as : List AK} {j : Nat}, as[j]? = some (.m i) → i ∈ msOf as
  | [], _, h => by simp at h
  | a :: as, 0, h => by simp at h; subst h; simp [msOf]
  | a :: as, j + 1, h => by
    have := mem_msOf (as := as) (j := j) (by simpa using h)
    cases a <;> simp [msOf, this]
theorem posM_of {i : Nat} : ∀ {as : List AK} {n j : Nat}, as[j]? = some (.m i) → (msOf as).Nodup → posM i n as = some (n + j)
  | [], _, _, h, _ => by simp at h
  | .m k :: as, n, 0, h, _ => by simp at h; subst h; simp [posM]
  | .m k :: as, n, j + 1, h, nd => by
    simp only [msOf, List.nodup_cons] at nd
    have h' : as[j]? = some (.m i) := by simpa using h
    have ne : k ≠ i := fun e => nd.1 (e ▸ mem_msOf h')
    simp only [posM, if_neg ne]
    rw [posM_of h' nd.2]; congr 1; omega
  | .c _ :: as, n, 0, h, _ => by simp at h
  | .c _ :: as, n, j + 1, h, nd => by
    simp only [posM]
    rw [posM_of (by simpa using h) (by simpa [msOf] using nd)]; congr 1; omega
  | .b _ :: as, n, 0, h, _ => by simp at h
  | .b _ :: as, n, j + 1, h, nd => by
    simp only [posM]
    rw [posM_of (by simpa using h) (by simpa [msOf] using nd)]; congr 1; omega
def ioOf : Nat → List V → List AK → List (Nat × V)
  | n, v :: vs, .m _ :: as => (n, v) :: ioOf (n + 1) vs as
  | n, _ :: vs, _ :: as => ioOf (n + 1) vs as
  | _, _, _ => []
theorem ioOf_fst {st : L2.St} {vs : List V} {as : List AK} (h : ArgOk st vs as) : ∀ n, (ioOf n vs as).map (·.1) = mpOf n as := by
  induction h with
  | nil => intro n; rfl
  | c _ ih => intro n; simpa [ioOf, mpOf] using ih (n + 1)
  | b _ _ ih => intro n; simpa [ioOf, mpOf] using ih (n + 1)
  | m _ _ ih => intro n; simp [ioOf, mpOf, ih (n + 1)]
theorem ioOf_mem {st : L2.St} {vs : List V} {as : List AK} (h : ArgOk st vs as) : ∀ {n : Nat} {p : Nat × V}, p ∈ ioOf n vs as → n ≤ p.1 ∧ vs[p.1 - n]? = some p.2 ∧ ∃ i, as[p.1 - n]? = some (.m i) := by
  induction h with
  | nil => intro n p e; cases e
  | c _ ih =>
    intro n p e
    obtain ⟨a, b, i, c⟩ := ih (n := n + 1) (by simpa [ioOf] using e)
    have q : p.1 - n = (p.1 - (n + 1)) + 1 := by omega
    exact ⟨by omega, by rw [q]; simpa using b, i, by rw [q]; simpa using c⟩
  | b _ _ ih =>
    intro n p e
    obtain ⟨a, b, i, c⟩ := ih (n := n + 1) (by simpa [ioOf] using e)
    have q : p.1 - n = (p.1 - (n + 1)) + 1 := by omega
    exact ⟨by omega, by rw [q]; simpa using b, i, by rw [q]; simpa using c⟩
  | @m v vs i as _ _ ih =>
    intro n p e
    simp only [ioOf, List.mem_cons] at e
    rcases e with e | e
    · subst e; exact ⟨Nat.le_refl _, by simp, i, by simp⟩
    · obtain ⟨a, b, i, c⟩ := ih (n := n + 1) e
      have q : p.1 - n = (p.1 - (n + 1)) + 1 := by omega
      exact ⟨by omega, by rw [q]; simpa using b, i, by rw [q]; simpa using c⟩
theorem ioOf_in {st : L2.St} {vs : List V} {as : List AK} (h : ArgOk st vs as) : ∀ {n j i : Nat}, as[j]? = some (.m i) → ∃ v, vs[j]? = some v ∧ (n + j, v) ∈ ioOf n vs as := by
  induction h with
  | nil => intro n j i e; simp at e
  | c _ ih =>
    intro n j i e
    cases j with
    | zero => simp at e
    | succ j =>
      obtain ⟨v, a, b⟩ := ih (n := n + 1) (j := j) (i := i) (by simpa using e)
      exact ⟨v, by simpa using a, by rw [show n + (j + 1) = n + 1 + j by omega]; simpa [ioOf] using b⟩
  | b _ _ ih =>
    intro n j i e
    cases j with
    | zero => simp at e
    | succ j =>
      obtain ⟨v, a, b⟩ := ih (n := n + 1) (j := j) (i := i) (by simpa using e)
      exact ⟨v, by simpa using a, by rw [show n + (j + 1) = n + 1 + j by omega]; simpa [ioOf] using b⟩
  | @m v vs i' as _ _ ih =>
    intro n j i e
    cases j with
    | zero => exact ⟨v, rfl, by simp [ioOf]⟩
    | succ j =>
      obtain ⟨v, a, b⟩ := ih (n := n + 1) (j := j) (i := i) (by simpa using e)
      exact ⟨v, by simpa using a, by rw [show n + (j + 1) = n + 1 + j by omega]; simp [ioOf, b]⟩
theorem mp_ms : ∀ {as : List AK} {n k p : Nat}, (mpOf n as)[k]? = some p → n ≤ p ∧ ∃ i, as[p - n]? = some (.m i) ∧ (msOf as)[k]? = some i
  | [], _, _, _, h => by simp [mpOf] at h
  | .m i :: as, n, 0, p, h => by
    simp [mpOf] at h; subst h
    exact ⟨Nat.le_refl _, i, by simp, rfl⟩
  | .m i :: as, n, k + 1, p, h => by
    obtain ⟨a, i', b, c⟩ := mp_ms (as := as) (n := n + 1) (k := k) (p := p) (by simpa [mpOf] using h)
    have q : p - n = (p - (n + 1)) + 1 := by omega
    exact ⟨by omega, i', by rw [q]; simpa using b, by simpa [msOf] using c⟩
  | .c _ :: as, n, k, p, h => by
    obtain ⟨a, i', b, c⟩ := mp_ms (as := as) (n := n + 1) (k := k) (p := p) (by simpa [mpOf] using h)
    have q : p - n = (p - (n + 1)) + 1 := by omega
    exact ⟨by omega, i', by rw [q]; simpa using b, by simpa [msOf] using c⟩
  | .b _ :: as, n, k, p, h => by
    obtain ⟨a, i', b, c⟩ := mp_ms (as := as) (n := n + 1) (k := k) (p := p) (by simpa [mpOf] using h)
    have q : p - n = (p - (n + 1)) + 1 := by omega
    exact ⟨by omega, i', by rw [q]; simpa using b, by simpa [msOf] using c⟩
theorem mp_len : ∀ {as : List AK} {n : Nat}, (mpOf n as).length = (msOf as).length
  | [], _ => rfl
  | .m i :: as, n => by simp [mpOf, msOf, mp_len (as := as)]
  | .c _ :: as, n => by simp [mpOf, msOf, mp_len (as := as)]
  | .b _ :: as, n => by simp [mpOf, msOf, mp_len (as := as)]
theorem buOf_or {r : DEnv} {i : Nat} : ∀ {as : List AK} {j : Nat}, as[j]? = some (.b i) → (∃ d, slotAt r i = some d ∧ stb d = true) ∨ i ∈ buOf r as
  | [], _, h => by simp at h
  | .b i' :: as, 0, h => by
    simp at h; subst h
    simp only [buOf]
    cases e : slotAt r i' with
    | none => exact .inr (by simp)
    | some d =>
      by_cases hs : stb d = true
      · exact .inl ⟨d, rfl, hs⟩
      · exact .inr (by simp [hs])
  | .m i' :: as, 0, h => by simp at h
  | .c i' :: as, 0, h => by simp at h
  | a :: as, j + 1, h => by
    rcases buOf_or (r := r) (as := as) (j := j) (by simpa using h) with z | z
    · exact .inl z
    · refine .inr ?_
      cases a with
      | c _ => simpa [buOf] using z
      | m _ => simpa [buOf] using z
      | b k =>
        simp only [buOf]
        split
        · split
          · exact z
          · exact List.mem_cons_of_mem _ z
        · exact List.mem_cons_of_mem _ z
theorem putAll_len : ∀ {is : List Nat} {r : DEnv} {ds : List D}, (putAll r is ds).length = r.length
  | [], _, _ => by simp [putAll]
  | _ :: _, _, [] => by simp [putAll]
  | i :: is, r, d :: ds => by simp [putAll, putAll_len (is := is)]
theorem putAll_out {i : Nat} : ∀ {is : List Nat} {r : DEnv} {ds : List D}, i ∉ is → (putAll r is ds)[i]? = r[i]?
  | [], _, _, _ => by simp [putAll]
  | _ :: _, _, [], _ => by simp [putAll]
  | j :: is, r, d :: ds, h => by
    simp only [List.mem_cons, not_or] at h
    simp only [putAll]
    rw [putAll_out h.2, List.getElem?_set_ne (Ne.symm h.1)]
theorem putAll_in {i k : Nat} {d : D} : ∀ {is : List Nat} {r : DEnv} {ds : List D}, is.Nodup → is[k]? = some i → ds[k]? = some d → i < r.length → (putAll r is ds)[i]? = some (some d)
    := by
  induction k with
  | zero =>
    intro is r ds nd h1 h2 hl
    cases is with
    | nil => simp at h1
    | cons j is =>
      cases ds with
      | nil => simp at h2
      | cons e ds =>
        simp at h1 h2; subst h1; subst h2
        simp only [putAll]
        rw [putAll_out (List.nodup_cons.mp nd).1, List.getElem?_set_self hl]
  | succ k ih =>
    intro is r ds nd h1 h2 hl
    cases is with
    | nil => simp at h1
    | cons j is =>
      cases ds with
      | nil => simp at h2
      | cons e ds =>
        simp only [putAll]
        exact ih (List.nodup_cons.mp nd).2 (by simpa using h1) (by simpa using h2) (by simpa using hl)
theorem noflL_get : ∀ {ds : List D} {k : Nat} {d : D}, noflL ds = true → ds[k]? = some d → nofl d = true := fun {ds k d} h e => by
  rw [noflL_all, List.all_eq_true] at h
  exact h d (List.mem_of_getElem? e)
end FM

set_option Elab.async false
set_option linter.all false
set_option maxRecDepth 100000
namespace FM
open PySem PySem.Spec PyProof.Rows L2

section
variable {K : PySem.W.Frag} {mg : Str → Option Value} {fx : Fx} {st : L2.St} {r : DEnv} {ts : List (V × D)} {B H : Hp} {col : Col} {vs : List V} {as : List AK} {m : Nat}
/-- what is made shared for the call -/
def cB (col : Col) (m : Nat) (bu : List Nat) (B H : Hp) : Hp := fun a => match col a with
  | some (.t k) => if m ≤ k then H a else B a
  | some (.s i) => if i ∈ bu then H a else B a
  | none => B a
def cO (col : Col) (as : List AK) : Addr → Option Nat := fun a => match col a with
  | some (.s i) => posM i 0 as
  | _ => none
def cC (col : Col) (as : List AK) : Col := fun a => (cO col as a).map Own.s
/-- what stays the caller's own -/
def keepC (col : Col) (m : Nat) (as : List AK) (a : Addr) : Bool := match col a with
  | some (.t k) => decide (k < m)
  | some (.s i) => (posM i 0 as).isNone
  | none => false
def slotP (as : List AK) (p : Nat) : Option Nat := match as[p]? with
  | some (.m i) => some i
  | _ => none
def newB (col : Col) (m : Nat) (as : List AK) (B' : Hp) : Hp := fun a => if keepC col m as a = true then none else B' a
def newC (col : Col) (m : Nat) (as : List AK) (col' : Col) : Col := fun a => match col' a with
  | some (.t 0) => some (.t m)
  | some (.s p) => (slotP as p).map Own.s
  | _ => if keepC col m as a = true then col a else none
theorem cB_same (s : SR K mg fx st r ts B H col) (bu : List Nat) : Same B (cB col m bu B H) := fun a o e => by
  unfold cB
  split
  · split
    · exact s.bh a o e
    · exact e
  · split
    · exact s.bh a o e
    · exact e
  · exact e
theorem cB_sameH (s : SR K mg fx st r ts B H col) (bu : List Nat) : Same (cB col m bu B H) H := fun a o e => by
  unfold cB at e
  split at e
  · split at e
    · exact e
    · exact s.bh a o e
  · split at e
    · exact e
    · exact s.bh a o e
  · exact s.bh a o e
theorem cO_some {a : Addr} {p : Nat} (e : cO col as a = some p) : ∃ i, col a = some (.s i) ∧ posM i 0 as = some p ∧ as[p]? = some (.m i) := by
  unfold cO at e
  split at e
  · rename_i i h
    obtain ⟨_, q⟩ := posM_some e
    exact ⟨i, h, e, by simpa using q⟩
  · cases e
/-- the callee's beginning -/
theorem call_in (s : SR K mg fx st r (ts ++ csOf vs as) B H col) (ao : ArgOk st vs as) {ds : List D} (hd : argDs r as = some ds) (nd : (msOf as).Nodup) (hbm : ∀ i ∈ buOf r as, i ∉ msOf as) :
    SR K mg ⟨H, cB col ts.length (buOf r as) B H, cO col as, ioOf 0 vs as⟩ (vs.map some) (ds.map some) [] (cB col ts.length (buOf r as) B H) H (cC col as) := by
  obtain ⟨hl, hk⟩ := argDs_get hd
  have sb := cB_same (m := ts.length) s (buOf r as)
  refine ⟨fun j d e => ?_, fun k v d e => by simp at e, cB_sameH s _, Same.refl _, fun a o e _ => e, fun a o e => ⟨o, e⟩, fun a c e => ?_, fun a o e => .inl e, fun a c e => ?_, fun a c e => ?_, fun p hp => ?_, by
    rw [List.length_map, List.length_map, ao.len, hl]⟩
  · have ej := map_some_get e
    have hj : j < as.length := by rw [← hl]; exact (List.getElem?_eq_some_iff.mp ej).1
    obtain ⟨d', e1, e2⟩ := hk j as[j] (List.getElem?_eq_getElem hj)
    rw [ej] at e1; cases e1
    have eas := List.getElem?_eq_getElem hj
    generalize as[j] = a at eas e2
    cases a with
    | c d0 =>
      simp only [argD, Option.some.injEq] at e2; subst e2
      obtain ⟨v, k, e3, e4⟩ := csOf_get ao eas
      obtain ⟨F, h, n, c⟩ := s.temp (ts.length + k) v d0 (by rw [List.getElem?_append_right (by omega)]; simpa using e4)
      refine ⟨v, [], by rw [List.getElem?_map, e3]; rfl, h.frz_ sb _ _ _ fun a ha o q => ?_, List.nodup_nil, fun _ z => nomatch z⟩
      unfold cB; rw [c a ha]; simp [q]
    | b i =>
      obtain ⟨v, e3, e4⟩ := ao.slot (.inl eas)
      simp only [argD, Option.map_eq_some_iff] at e2
      obtain ⟨d0, e5, e6⟩ := e2; subst e6
      obtain ⟨v', F, e7, h, n, c⟩ := s.slot i d0 (slotAt_get e5)
      rw [e4] at e7; cases e7
      refine ⟨v, [], by rw [List.getElem?_map, e3]; rfl, ?_, List.nodup_nil, fun _ z => nomatch z⟩
      rcases buOf_or (r := r) eas with ⟨d1, e8, hs⟩ | hb
      · rw [e5] at e8; cases e8
        have := h.stbF _ _ _ hs; subst this
        rw [frz_stb _ hs]
        exact h.mono sb _ _ _ fun _ z => nomatch z
      · exact h.frz_ sb _ _ _ fun a ha o q => by unfold cB; rw [c a ha]; simp [hb, q]
    | m i =>
      obtain ⟨v, e3, e4⟩ := ao.slot (.inr eas)
      simp only [argD] at e2
      obtain ⟨v', F, e7, h, n, c⟩ := s.slot i d (slotAt_get e2)
      rw [e4] at e7; cases e7
      refine ⟨v, F, by rw [List.getElem?_map, e3]; rfl, h.mono sb _ _ _ fun _ _ => rfl, n, fun a ha => ?_⟩
      unfold cC cO; rw [c a ha]
      have := posM_of (n := 0) eas nd
      simp [this]
  · unfold cC at e
    obtain ⟨p, e1, e2⟩ := Option.map_eq_some_iff.mp e
    obtain ⟨i, c1, c2, c3⟩ := cO_some e1
    obtain ⟨v, _, q⟩ := ioOf_in (n := 0) ao c3
    exact .inr ⟨(p, v), by simpa using q, e1, e2.symm⟩
  · unfold cC at e
    obtain ⟨p, e1, e2⟩ := Option.map_eq_some_iff.mp e
    obtain ⟨i, c1, c2, c3⟩ := cO_some e1
    have nb := s.nb a _ c1
    unfold cB; rw [c1]
    show (if i ∈ buOf r as then H a else B a) = none
    rw [if_neg fun z => hbm i z (mem_msOf c3)]; exact nb
  · unfold cC at e
    obtain ⟨p, e1, e2⟩ := Option.map_eq_some_iff.mp e
    obtain ⟨i, c1, c2, c3⟩ := cO_some e1
    exact s.th a _ c1
  · obtain ⟨_, b, _⟩ := ioOf_mem ao hp
    rw [List.getElem?_map]
    have : p.1 - 0 = p.1 := rfl
    rw [this] at b
    rw [b]; rfl

/-- the caller behind the call -/
theorem call_out (s : SR K mg fx st r (ts ++ csOf vs as) B H col) (ao : ArgOk st vs as) (nd : (msOf as).Nodup) (hbm : ∀ i ∈ buOf r as, i ∉ msOf as) {st' : L2.St} {r' : DEnv} {v : V} {d : D} {B' H' : Hp} {col' : Col} {outs : List D}
    (c : SR K mg ⟨H, cB col ts.length (buOf r as) B H, cO col as, ioOf 0 vs as⟩ st' r' [(v, d)] B' H' col') (ho : slotsAt r' (mpOf 0 as) = some outs) (hnf : buOf r as = [] ∨ (nofl d = true ∧ noflL outs = true)) (hms : ∀ i ∈ msOf as, i < r.length) :
    SR K mg fx st (putAll r (msOf as) outs) (ts ++ [(v, d)]) (newB col ts.length as B') H' (newC col ts.length as col') ∧ Same B (newB col ts.length as B') ∧ (msOf as = [] → Same H H') := by
  obtain ⟨hol, hog⟩ := slotsAt_get ho
  have sb : Same B (cB col ts.length (buOf r as) B H) := cB_same s _
  have sbB' : Same B B' := sb.trans c.b0
  -- kept cells
  have kc : ∀ {a x}, col a = some x → keepC col ts.length as a = true → B a = none ∧ H a ≠ none := fun {a x} e _ => ⟨s.nb a _ e, by
    obtain ⟨vs, q⟩ := s.th a _ e; rw [q]; exact fun z => nomatch z⟩
  have keepCol : ∀ {a}, keepC col ts.length as a = true → ∃ x, col a = some x := fun {a} e => by
    unfold keepC at e
    cases h : col a with
    | none => rw [h] at e; cases e
    | some x => exact ⟨x, rfl⟩
  have sB2 : Same B (newB col ts.length as B') := fun a o e => by
    unfold newB
    split
    · rename_i h
      obtain ⟨x, hx⟩ := keepCol h
      rw [s.nb a _ hx] at e; cases e
    · exact sbB' a o e
  have B2H : Same (newB col ts.length as B') H' := fun a o e => by
    unfold newB at e
    split at e
    · cases e
    · exact c.bh a o e
  -- kept cells are not among the callee's
  have keepIO : ∀ {a}, keepC col ts.length as a = true → cO col as a = none := fun {a} e => by
    unfold keepC at e; unfold cO
    cases h : col a with
    | none => rfl
    | some x =>
      rw [h] at e
      cases x with
      | t k => rfl
      | s i => simpa using e
  have keepH : ∀ {a}, keepC col ts.length as a = true → ∃ vs, H a = some (.lst vs) ∧ H' a = some (.lst vs) := fun {a} e => by
    obtain ⟨x, hx⟩ := keepCol e
    obtain ⟨vs, q⟩ := s.th a _ hx
    exact ⟨vs, q, c.frame a _ q (keepIO e)⟩
  have keepN : ∀ {a}, keepC col ts.length as a = true → col' a = none := fun {a} e => by
    cases h : col' a with
    | none => rfl
    | some y =>
      obtain ⟨vs, q, _⟩ := keepH e
      rcases c.new a y h with z | ⟨p, hp, z, _⟩
      · have z' : H a = none := z
        rw [q] at z'; cases z'
      · have z' : cO col as a = some p.1 := z
        rw [keepIO e] at z'; cases z'
  have keepNew : ∀ {a}, keepC col ts.length as a = true → newC col ts.length as col' a = col a := fun {a} e => by
    unfold newC; rw [keepN e]; simp [e]
  -- down from B'
  have down : ∀ {u x F}, Rel K mg B' H' u x F → (buOf r as = [] ∨ nofl x = true) → Rel K mg (newB col ts.length as B') H' u x F := fun {u x F} h hn => by
    have cell : ∀ a o, B' a = some o → keepC col ts.length as a = true → buOf r as ≠ [] ∧ ∃ vs, o = .lst vs := fun a o e k => by
      obtain ⟨y, hy⟩ := keepCol k
      obtain ⟨vs, q, q'⟩ := keepH k
      have eo : o = .lst vs := by
        have := c.bh a o e
        rw [q'] at this; exact (Option.some.inj this).symm
      refine ⟨fun z => ?_, vs, eo⟩
      rcases c.grow a o e with g1 | g1
      · have g2 : cB col ts.length (buOf r as) B H a = some o := g1
        unfold cB at g2
        rw [hy, z] at g2
        have nb := s.nb a _ hy
        cases y with
        | t k' =>
          have hk : k' < ts.length := by
            unfold keepC at k; rw [hy] at k; simpa using k
          simp only [Nat.not_le.mpr hk, if_false] at g2
          rw [nb] at g2; cases g2
        | s i =>
          simp only [List.not_mem_nil, if_false] at g2
          rw [nb] at g2; cases g2
      · have g2 : H a = none := g1
        rw [q] at g2; cases g2
    rcases hn with hn | hn
    · have e : newB col ts.length as B' = B' := by
        funext a
        unfold newB
        split
        · rename_i k
          cases h : B' a with
          | none => rfl
          | some o => exact absurd hn (cell a o h k).1
        · rfl
      rw [e]; exact h
    · refine h.less (fun a o e nl => ?_) _ _ _ hn
      unfold newB
      split
      · rename_i k
        obtain ⟨_, vs, q⟩ := cell a o e k
        exact absurd q (nl vs)
      · exact e
  -- what was the caller's
  have old : ∀ {u x F cc}, Rel K mg B H u x F → (∀ a ∈ F, col a = some cc) → (∀ a, col a = some cc → keepC col ts.length as a = true) → Rel K mg (newB col ts.length as B') H' u x F ∧ ∀ a ∈ F, newC col ts.length as col' a = some cc := fun {u x F cc} h hc hk => by
    refine ⟨h.mono sB2 _ _ _ fun a ha => ?_, fun a ha => by rw [keepNew (hk a (hc a ha))]; exact hc a ha⟩
    obtain ⟨vs, q, q'⟩ := keepH (hk a (hc a ha))
    rw [q, q']
  refine ⟨⟨fun i x e => ?_, fun k u x e => ?_, B2H, fun a o e => sB2 a o (s.b0 a o e), fun a o e n => ?_, fun a o e => ?_, fun a y e => ?_, fun a o e => ?_, fun a y e => ?_, fun a y e => ?_, s.io, by rw [putAll_len]; exact s.len⟩, sB2, fun hm => ?_⟩
  · by_cases hi : i ∈ msOf as
    · obtain ⟨k, hk⟩ := List.getElem?_of_mem hi
      have hkl : k < outs.length := by
        rw [hol, mp_len]; exact (List.getElem?_eq_some_iff.mp hk).1
      have e2 := putAll_in (r := r) nd hk (List.getElem?_eq_getElem hkl) (hms i hi)
      rw [e] at e2
      have ex : x = outs[k] := by simpa using e2
      have hkm : k < (mpOf 0 as).length := by rw [← hol]; exact hkl
      obtain ⟨_, i', ha, hk'⟩ := mp_ms (List.getElem?_eq_getElem hkm)
      rw [hk] at hk'; cases hk'
      have hp : as[(mpOf 0 as)[k]]? = some (.m i) := by simpa using ha
      have sl := slotAt_get (hog k _ _ (List.getElem?_eq_getElem hkm) (List.getElem?_eq_getElem hkl))
      obtain ⟨u, F, e3, h, n, cc⟩ := c.slot _ _ sl
      obtain ⟨v1, e4, e5⟩ := ao.slot (.inr hp)
      obtain ⟨v2, e6, e7⟩ := ioOf_in (n := 0) ao hp
      rw [e4] at e6; cases e6
      have e8 := c.io _ e7
      simp only [Nat.zero_add] at e8
      rw [e8] at e3; cases e3
      refine ⟨_, F, e5, ?_, n, fun a ha => ?_⟩
      · rw [ex]; exact down h (hnf.imp_right fun z => noflL_get z.2 (List.getElem?_eq_getElem hkl))
      · unfold newC; rw [cc a ha]
        show (slotP as _).map Own.s = _
        unfold slotP; rw [hp]; rfl
    · rw [putAll_out hi] at e
      obtain ⟨u, F, e1, h, n, cc⟩ := s.slot i x e
      obtain ⟨h', c'⟩ := old h cc fun a ha => by
        unfold keepC; rw [ha]
        show (posM i 0 as).isNone = true
        cases hp : posM i 0 as with
        | none => rfl
        | some p => exact absurd (mem_msOf (posM_some hp).2) hi
      exact ⟨u, F, e1, h', n, c'⟩
  · rcases last_at e with ⟨hk, e1⟩ | ⟨rfl, e3⟩
    · obtain ⟨F, h, n, cc⟩ := s.temp k u x (by rw [List.getElem?_append_left hk]; exact e1)
      obtain ⟨h', c'⟩ := old h cc fun a ha => by unfold keepC; rw [ha]; simpa using hk
      exact ⟨F, h', n, c'⟩
    · cases e3
      obtain ⟨F, h, n, cc⟩ := c.temp 0 v d rfl
      refine ⟨F, down h (hnf.imp_right fun z => z.1), n, fun a ha => ?_⟩
      unfold newC; rw [cc a ha]; rfl
  · have q := s.frame a o e n
    refine c.frame a o q ?_
    show cO col as a = none
    cases h : cO col as a with
    | none => rfl
    | some p =>
      obtain ⟨i, c1, _, _⟩ := cO_some h
      rcases s.new a _ c1 with z | ⟨p, _, z, _⟩
      · rw [e] at z; cases z
      · rw [n] at z; cases z
  · obtain ⟨o', q⟩ := s.stay a o e
    exact c.stay a o' q
  · have nn : ∀ z, fx.H0 a = some z → H a ≠ none := fun z hz hh => by
      obtain ⟨o', q⟩ := s.stay a z hz; rw [hh] at q; cases q
    have none_of : H a = none → fx.H0 a = none := fun hh => by
      cases q : fx.H0 a with
      | none => rfl
      | some z => exact absurd hh (nn z q)
    by_cases hkeep : keepC col ts.length as a = true
    · rw [keepNew hkeep] at e
      exact s.new a y e
    · unfold newC at e
      split at e
      · rename_i h
        rcases c.new a _ h with z | ⟨_, _, _, z⟩
        · exact .inl (none_of z)
        · cases z
      · rename_i p h
        obtain ⟨i, e1, e2⟩ := Option.map_eq_some_iff.mp e
        rcases c.new a _ h with z | ⟨p', hp', z, z2⟩
        · exact .inl (none_of z)
        · have z1 : cO col as a = some p'.1 := z
          injection z2 with z2
          rw [← z2] at z1
          obtain ⟨i', c1, c2, c3⟩ := cO_some z1
          have : i = i' := by
            unfold slotP at e1; rw [c3] at e1; exact (Option.some.inj e1).symm
          subst this
          rw [← e2]
          exact s.new a _ c1
      · rw [if_neg hkeep] at e; cases e
  · unfold newB at e
    split at e
    · cases e
    · rename_i hk
      rcases c.grow a o e with g1 | g1
      · have g2 : cB col ts.length (buOf r as) B H a = some o := g1
        unfold cB at g2
        have old1 : ∀ o', B a = some o' → fx.B0 a = some o ∨ fx.H0 a = none := fun o' q => by
          have := sbB' a o' q
          rw [e] at this; cases this
          exact s.grow a o q
        split at g2
        · rename_i k hc
          split at g2
          · rcases s.new a _ hc with z | ⟨_, _, _, z⟩
            · exact .inr z
            · cases z
          · exact old1 o g2
        · rename_i i hc
          split at g2
          · rename_i hb
            exfalso
            apply hk
            unfold keepC; rw [hc]
            show (posM i 0 as).isNone = true
            cases hp : posM i 0 as with
            | none => rfl
            | some p => exact absurd (mem_msOf (posM_some hp).2) (hbm i hb)
          · exact old1 o g2
        · exact old1 o g2
      · have g2 : H a = none := g1
        refine .inr ?_
        cases q : fx.H0 a with
        | none => rfl
        | some z => obtain ⟨o', q'⟩ := s.stay a z q; rw [g2] at q'; cases q'
  · unfold newB
    split
    · rfl
    · rename_i hk
      unfold newC at e
      split at e
      · rename_i h; exact c.nb a _ h
      · rename_i p h; exact c.nb a _ h
      · rw [if_neg hk] at e; cases e
  · by_cases hkeep : keepC col ts.length as a = true
    · obtain ⟨vs, _, q⟩ := keepH hkeep
      exact ⟨vs, q⟩
    · unfold newC at e
      split at e
      · rename_i h; exact c.th a _ h
      · rename_i p h; exact c.th a _ h
      · rw [if_neg hkeep] at e; cases e
  · intro a o e
    refine c.frame a o e ?_
    show cO col as a = none
    cases h : cO col as a with
    | none => rfl
    | some p =>
      obtain ⟨i, _, _, c3⟩ := cO_some h
      have := mem_msOf c3
      rw [hm] at this; cases this
end

section
variable {X : Cx} {g : Gd}
/-- f(..) of a def with its promise -/
theorem se_call {q : Bool} {k : Nat} {f : Addr} {fd : FuncData} {ps : List Str} {fs : FSpec} {x : Str} {p pos : Pos} {e : Expr} {es : List Expr} {u : DAk} (G : FnG X.prog X.w X.K X.mg X.base k f fd ps (spOf X.K X.mg fs)) (hr : Room k X.A) (hgd : X.A.guards = some []) (hg : Gl X x) (hm : X.mg x = some (.ref f)) (hk : PySem.W.keepIn X.K (.ref f) = true) (hb : Binds X.K fd ps [])
    (hx : Passes (L2N.CX X.prog X.w) X g.E) (ha : SK X g q (e :: es) u) (hdb : (x == ("__debug__" : Str)) = false := by decide) (he : starEach (e :: es) X.env = (false, eval e X.env) :: starEach es X.env := by rfl) (hpl : (backTo pos (starEach es X.env)).any (·.1) = false := by rfl) :
    SE X g (q && fs.io.isEmpty) (.Call (.Name x p) (e :: es) [] pos) (dCall fs u) := by
  obtain ⟨ta, pa, ka⟩ := ha.run
  refine ⟨_, pe_callG G hr hgd hg hm hk hb hx pa hdb he hpl, fun fx st r ts B H col Qd Xd Q ok s ht hQ => ?_⟩
  refine ka fx st r ts B H col _ Xd _ ok s ht fun vs as r1 B1 H1 c1 h1 sB sH s1 ao => ?_
  obtain ⟨ds, hd, hok, wp⟩ := got_cases h1
  unfold callOk at hok
  simp only [Bool.and_eq_true, decide_eq_true_eq, List.all_eq_true] at hok
  obtain ⟨hn, hio, nd, hbm⟩ := hok
  have hms : ∀ i ∈ msOf as, i < r1.length := fun i hi => by
    obtain ⟨k, hk⟩ := List.getElem?_of_mem hi
    have hkm : k < (mpOf 0 as).length := by rw [mp_len]; exact (List.getElem?_eq_some_iff.mp hk).1
    obtain ⟨_, i', ha, hk'⟩ := mp_ms (List.getElem?_eq_getElem hkm)
    rw [hk] at hk'; cases hk'
    obtain ⟨d, _, e2⟩ := (argDs_get hd).2 _ _ ha
    exact (List.getElem?_eq_some_iff.mp (slotAt_get (show slotAt r1 i = some d from e2))).1
  refine ⟨ao.len.trans hn, ⟨H1, cB c1 ts.length (buOf r1 as) B1 H1, cO c1 as, ioOf 0 vs as⟩, ds, _, cC c1 as, _, Xd, rfl, rfl, by rw [ioOf_fst ao, hio], (argDs_get hd).1.trans hn, call_in s1 ao hd nd hbm, fun a p z => by show (cO c1 as a).map Own.s = some (.s p); rw [show cO c1 as a = some p from z]; rfl, wp, fun v d outs st' r' B' H' col' ho hq c => ?_, fun x c d H' hx er hf hs => ?_⟩
  · rw [← hio] at ho
    obtain ⟨s2, sb2, hh⟩ := call_out s1 ao nd hbm c ho hq.1 hms
    exact hQ v d _ _ H' _ hq.2 (sB.trans sb2) (fun hqq => by
      simp only [Bool.and_eq_true] at hqq
      refine (sH hqq.1).trans (hh ?_)
      have : (mpOf 0 as).length = 0 := by
        rw [hio]
        have := hqq.2
        cases hfs : fs.io with
        | nil => rfl
        | cons _ _ => rw [hfs] at this; cases this
      rw [mp_len] at this
      exact List.length_eq_zero_iff.mp this) s2
  · refine ok.link x c d H' hx er (fun a o e n => ?_) (fun a o e => ?_)
    · have q := s1.frame a o e n
      refine hf a o q ?_
      show cO c1 as a = none
      cases h : cO c1 as a with
      | none => rfl
      | some p =>
        obtain ⟨i, c1', _, _⟩ := cO_some h
        rcases s1.new a _ c1' with z | ⟨p, _, z, _⟩
        · rw [e] at z; cases z
        · rw [n] at z; cases z
    · obtain ⟨o', q⟩ := s1.stay a o e
      exact hs a o' q
end
end FM

set_option Elab.async false
set_option linter.all false
set_option maxRecDepth 100000
namespace FM
open PySem PySem.Spec PyProof.Rows L2

section
variable {K : PySem.W.Frag} {mg : Str → Option Value} {fx : Fx} {st : L2.St} {r : DEnv} {ts us : List (V × D)} {B H : Hp} {col : Col}
/-- the last temps go over to an owner -/
def absC (col : Col) (m : Nat) (c : Own) : Col := fun a => match col a with
  | some (.t k) => if m ≤ k then some c else some (.t k)
  | x => x
theorem absC_t {m k : Nat} {c : Own} {a : Addr} (e : col a = some (.t k)) (h : m ≤ k) : absC col m c a = some c := by unfold absC; rw [e]; simp [h]
theorem absC_l {m k : Nat} {c : Own} {a : Addr} (e : col a = some (.t k)) (h : k < m) : absC col m c a = some (.t k) := by unfold absC; rw [e]; simp; omega
theorem absC_s {m i : Nat} {c : Own} {a : Addr} (e : col a = some (.s i)) : absC col m c a = some (.s i) := by unfold absC; rw [e]
theorem absC_some {m : Nat} {c x : Own} {a : Addr} (e : absC col m c a = some x) : (∃ k, m ≤ k ∧ col a = some (.t k) ∧ x = c) ∨ col a = some x := by
  unfold absC at e
  split at e
  · rename_i k h
    split at e
    · cases e; rename_i hk; exact .inl ⟨k, hk, h, rfl⟩
    · cases e; exact .inr h
  · exact .inr e
theorem absC_any {m : Nat} {c x : Own} {a : Addr} (e : absC col m c a = some x) : ∃ y, col a = some y := by
  rcases absC_some e with ⟨k, _, h, _⟩ | h <;> exact ⟨_, h⟩
/-- a slot's own list gets other items -/
theorem SR.setL (s : SR K mg fx st r (ts ++ us) B H col) {i : Nat} {xs : List D} (e : r[i]? = some (some (.lst true xs))) :
    ∃ a vs F0, st[i]? = some (some (.ref a)) ∧ H a = some (.lst vs) ∧ Rels K mg B H vs xs F0 ∧ F0.Nodup ∧ (∀ b ∈ F0, col b = some (.s i)) ∧
      ∀ vs' ds' F', Rels K mg B H vs' ds' F' → F'.Nodup → (∀ b ∈ F', b ∈ F0 ∨ ∃ k, ts.length ≤ k ∧ col b = some (.t k)) → SR K mg fx st (r.set i (some (.lst true ds'))) ts B (upd H a (.lst vs')) (absC col ts.length (.s i)) := by
  obtain ⟨v, F, e1, h, n, c⟩ := s.slot i _ e
  cases h with
  | @ol a vs _ F0 ha hr =>
    have ca := c a (List.mem_cons_self ..)
    have na := s.nb a _ ca
    have hi := (List.getElem?_eq_some_iff.mp e).1
    have n0 := List.nodup_cons.mp n
    refine ⟨a, vs, F0, e1, ha, hr, n0.2, fun b hb => c b (List.mem_cons_of_mem _ hb), fun vs' ds' F' hr' nF hF => ?_⟩
    have ne : ∀ {b x}, col b = some x → x ≠ .s i → b ≠ a := fun q hx z => by rw [z, ca] at q; exact hx (Option.some.inj q).symm
    have neF : ∀ b ∈ F', b ≠ a := fun b hb z => by
      rcases hF b hb with q | ⟨k, _, q⟩
      · exact n0.1 (z ▸ q)
      · exact ne q (by intro z; cases z) z
    refine ⟨fun j d e' => ?_, fun k v' d' e' => ?_, same_upd2 s.bh na, s.b0, fun b o e' n' => ?_, fun b o e' => ?_, fun b x e' => ?_, s.grow, fun b x e' => ?_, fun b x e' => ?_, s.io, by simp [s.len]⟩
    · by_cases hj : j = i
      · subst hj
        rw [List.getElem?_set_self hi] at e'; cases e'
        refine ⟨_, a :: F', e1, .ol upd_same (hr'.mono (Same.refl B) _ _ _ fun b hb => upd_ne (neF b hb)), List.nodup_cons.mpr ⟨fun z => neF a z rfl, nF⟩, fun b hb => ?_⟩
        rcases List.mem_cons.mp hb with z | z
        · subst z; exact absC_s ca
        · rcases hF b z with q | ⟨k, hk, q⟩
          · exact absC_s (c b (List.mem_cons_of_mem _ q))
          · exact absC_t q hk
      · rw [List.getElem?_set_ne (Ne.symm hj)] at e'
        obtain ⟨v, F, e1, h, n, c⟩ := s.slot j d e'
        exact ⟨v, F, e1, h.mono (Same.refl B) _ _ _ fun b hb => upd_ne (ne (c b hb) (by intro z; injection z with z; exact hj z)), n, fun b hb => absC_s (c b hb)⟩
    · have hk := (List.getElem?_eq_some_iff.mp e').1
      obtain ⟨F, h, n, c⟩ := s.temp k v' d' (by rw [List.getElem?_append_left hk]; exact e')
      exact ⟨F, h.mono (Same.refl B) _ _ _ fun b hb => upd_ne (ne (c b hb) (by intro z; cases z)), n, fun b hb => absC_l (c b hb) hk⟩
    · rw [upd_ne fun z => ?_]
      · exact s.frame b o e' n'
      · subst z
        rcases s.new b _ ca with q | ⟨p, _, q, _⟩
        · rw [e'] at q; cases q
        · rw [n'] at q; cases q
    · by_cases hb : b = a
      · subst hb; exact ⟨_, upd_same⟩
      · rw [upd_ne hb]; exact s.stay b o e'
    · rcases absC_some e' with ⟨k, _, q, rfl⟩ | q
      · rcases s.new b _ q with z | ⟨_, _, _, z⟩
        · exact .inl z
        · cases z
      · exact s.new b x q
    · obtain ⟨y, q⟩ := absC_any e'; exact s.nb b y q
    · obtain ⟨y, q⟩ := absC_any e'
      by_cases hb : b = a
      · subst hb; exact ⟨_, upd_same⟩
      · rw [upd_ne hb]; exact s.th b y q
/-- a list on the way gets one item more -/
theorem SR.growTemp {p : Addr} {acc : List D} {y : V} {d : D} (s : SR K mg fx st r (ts ++ [(.ref p, .lst true acc)] ++ [(y, d)]) B H col) :
    ∃ vs, H p = some (.lst vs) ∧ vs.length = acc.length ∧ SR K mg fx st r (ts ++ [(.ref p, .lst true (acc ++ [d]))]) B (upd H p (.lst (vs ++ [y]))) (absC col ts.length (.t ts.length)) := by
  obtain ⟨F, h, n, c⟩ := s.temp ts.length (.ref p) (.lst true acc) (by simp)
  obtain ⟨G, h2, n2, c2⟩ := s.temp (ts.length + 1) y d (by
    rw [List.append_assoc, List.getElem?_append_right (by omega)]
    simp)
  cases h with
  | @ol a vs _ F0 ha hr =>
    have ca := c p (List.mem_cons_self ..)
    have na := s.nb p _ ca
    have n0 := List.nodup_cons.mp n
    have ne : ∀ {b x}, col b = some x → x ≠ .t ts.length → b ≠ p := fun q hx z => by rw [z, ca] at q; exact hx (Option.some.inj q).symm
    have neG : ∀ b ∈ G, b ≠ p := fun b hb => ne (c2 b hb) (by intro z; injection z with z; omega)
    have ne0 : ∀ b ∈ F0, b ≠ p := fun b hb z => n0.1 (z ▸ hb)
    refine ⟨vs, ha, hr.length, fun j x e' => ?_, fun k v' d' e' => ?_, same_upd2 s.bh na, s.b0, fun b o e' n' => ?_, fun b o e' => ?_, fun b x e' => ?_, s.grow, fun b x e' => ?_, fun b x e' => ?_, s.io, s.len⟩
    · obtain ⟨v, F, e1, h, n, c⟩ := s.slot j x e'
      exact ⟨v, F, e1, h.mono (Same.refl B) _ _ _ fun b hb => upd_ne (ne (c b hb) (by intro z; cases z)), n, fun b hb => absC_s (c b hb)⟩
    · rcases last_at e' with ⟨hk, e1⟩ | ⟨rfl, e3⟩
      · obtain ⟨F, h, n, c⟩ := s.temp k v' d' (by rw [List.append_assoc, List.getElem?_append_left hk]; exact e1)
        exact ⟨F, h.mono (Same.refl B) _ _ _ fun b hb => upd_ne (ne (c b hb) (by intro z; injection z with z; omega)), n, fun b hb => absC_l (c b hb) hk⟩
      · cases e3
        have hr2 : Rels K mg B H (vs ++ [y]) (acc ++ [d]) (F0 ++ (G ++ [])) := hr.append (.cons h2 .nil)
        rw [List.append_nil] at hr2
        refine ⟨p :: (F0 ++ G), .ol upd_same (hr2.mono (Same.refl B) _ _ _ fun b hb => upd_ne ?_), List.nodup_cons.mpr ⟨fun z => ?_, List.nodup_append.mpr ⟨n0.2, n2, fun b hb b' hb' e => ?_⟩⟩, fun b hb => ?_⟩
        · rcases List.mem_append.mp hb with z | z
          · exact ne0 b z
          · exact neG b z
        · rcases List.mem_append.mp z with z | z
          · exact n0.1 z
          · exact neG p z rfl
        · subst e
          have q1 := c b (List.mem_cons_of_mem _ hb)
          rw [c2 b hb'] at q1; injection q1 with q1; injection q1 with q1; omega
        · rcases List.mem_cons.mp hb with z | z
          · subst z; exact absC_t ca (Nat.le_refl _)
          · rcases List.mem_append.mp z with z | z
            · exact absC_t (c b (List.mem_cons_of_mem _ z)) (Nat.le_refl _)
            · exact absC_t (c2 b z) (by omega)
    · rw [upd_ne fun z => ?_]
      · exact s.frame b o e' n'
      · subst z
        rcases s.new b _ ca with q | ⟨p, _, _, q⟩
        · rw [e'] at q; cases q
        · cases q
    · by_cases hb : b = p
      · subst hb; exact ⟨_, upd_same⟩
      · rw [upd_ne hb]; exact s.stay b o e'
    · rcases absC_some e' with ⟨k, _, q, rfl⟩ | q
      · rcases s.new b _ q with z | ⟨_, _, _, z⟩
        · exact .inl z
        · cases z
      · exact s.new b x q
    · obtain ⟨y, q⟩ := absC_any e'; exact s.nb b y q
    · obtain ⟨y, q⟩ := absC_any e'
      by_cases hb : b = p
      · subst hb; exact ⟨_, upd_same⟩
      · rw [upd_ne hb]; exact s.th b y q
/-- some slots forgotten -/
def wipeD (r : DEnv) : List Nat → DEnv
  | [] => r
  | v :: vs => (wipeD r vs).set v none
theorem wipeD_len {r : DEnv} : ∀ {vs : List Nat}, (wipeD r vs).length = r.length
  | [] => rfl
  | v :: vs => by simp [wipeD, wipeD_len (vs := vs)]
theorem wipeD_some {r : DEnv} {i : Nat} {d : D} : ∀ {vs : List Nat}, (wipeD r vs)[i]? = some (some d) → r[i]? = some (some d) ∧ i ∉ vs
  | [], h => ⟨h, by simp⟩
  | v :: vs, h => by
    unfold wipeD at h
    by_cases hi : v = i
    · subst hi
      by_cases hv : v < (wipeD r vs).length
      · rw [List.getElem?_set_self hv] at h; cases h
      · rw [List.getElem?_eq_none (by simpa using hv)] at h; cases h
    · rw [List.getElem?_set_ne hi] at h
      obtain ⟨h1, h2⟩ := wipeD_some h
      exact ⟨h1, by simp only [List.mem_cons, not_or]; exact ⟨fun e => hi e.symm, h2⟩⟩
theorem SR.wiped (s : SR K mg fx st r ts B H col) {own : List Nat} (hio : ∀ p ∈ fx.io, p.1 ∉ own) {st2 : L2.St} (h : ∀ i, i ∉ own → st2[i]? = st[i]?) (hl : st2.length = st.length) : SR K mg fx st2 (wipeD r own) ts B H col :=
  ⟨fun i d e => by
    obtain ⟨e1, e2⟩ := wipeD_some e
    obtain ⟨v, F, e3, q⟩ := s.slot i d e1
    exact ⟨v, F, by rw [h i e2]; exact e3, q⟩, s.temp, s.bh, s.b0, s.frame, s.stay, s.new, s.grow, s.nb, s.th, fun p hp => by rw [h p.1 (hio p hp)]; exact s.io p hp, by rw [wipeD_len, s.len, hl]⟩
def back (r1 r2 : DEnv) : List Nat → DEnv
  | [] => r2
  | i :: is => (back r1 r2 is).set i (slotAt r1 i)
theorem back_len {r1 r2 : DEnv} : ∀ {vs : List Nat}, (back r1 r2 vs).length = r2.length
  | [] => rfl
  | v :: vs => by simp [back, back_len (vs := vs)]
theorem back_some {r1 r2 : DEnv} {i : Nat} {d : D} : ∀ {vs : List Nat}, (back r1 r2 vs)[i]? = some (some d) → (i ∈ vs ∧ slotAt r1 i = some d) ∨ (i ∉ vs ∧ r2[i]? = some (some d))
  | [], h => .inr ⟨by simp, h⟩
  | v :: vs, h => by
    unfold back at h
    by_cases hi : v = i
    · subst hi
      by_cases hv : v < (back r1 r2 vs).length
      · rw [List.getElem?_set_self hv] at h
        exact .inl ⟨List.mem_cons_self .., by simpa using h⟩
      · rw [List.getElem?_eq_none (by simpa using hv)] at h; cases h
    · rw [List.getElem?_set_ne hi] at h
      rcases back_some h with ⟨a, b⟩ | ⟨a, b⟩
      · exact .inl ⟨List.mem_cons_of_mem _ a, b⟩
      · exact .inr ⟨by simp only [List.mem_cons, not_or]; exact ⟨fun e => hi e.symm, a⟩, b⟩
def hidOk (r : DEnv) (own : List Nat) : Bool := own.all fun i => match slotAt r i with
  | some d => stb d
  | none => true
theorem wipe_at {st : L2.St} {i : Nat} : ∀ {vs : List Nat}, i ∉ vs → (wipe st vs)[i]? = st[i]?
  | [], _ => rfl
  | v :: vs, h => by
    simp only [List.mem_cons, not_or] at h
    unfold wipe
    rw [List.getElem?_set_ne (Ne.symm h.1), wipe_at h.2]
theorem wipe_in {st : L2.St} {i : Nat} : ∀ {vs : List Nat}, i ∈ vs → (wipe st vs)[i]? = if i < st.length then some none else none
  | [], h => by cases h
  | v :: vs, h => by
    unfold wipe
    by_cases e : v = i
    · subst e
      by_cases hv : v < st.length
      · rw [List.getElem?_set_self (by rw [wipe_length]; exact hv), if_pos hv]
      · rw [List.getElem?_eq_none (by rw [List.length_set, wipe_length]; omega), if_neg hv]
    · rw [List.getElem?_set_ne e]
      rcases List.mem_cons.mp h with z | z
      · exact absurd z.symm e
      · exact wipe_in z
theorem wipe_eq {st st4 : L2.St} {own : List Nat} (hl : st4.length = (wipe st own).length) (h : ∀ i, i ∉ own → st4[i]? = (wipe st own)[i]?) : wipe st4 own = wipe st own := by
  apply List.ext_getElem?
  intro i
  by_cases hi : i ∈ own
  · rw [wipe_in hi, wipe_in hi, hl, wipe_length]
  · rw [wipe_at hi, h i hi]
/-- back from a block whose own slots were forgotten -/
theorem SR.back {own : List Nat} {r1 r2 : DEnv} {ts2 : List (V × D)} {B1 H1 B2 H2 : Hp} {c1 c2 : Col} {st2 : L2.St} (s1 : SR K mg fx st r1 ts B1 H1 c1) (hid : hidOk r1 own = true) (s2 : SR K mg fx st2 r2 ts2 B2 H2 c2) (hst : ∀ i, i ∉ own → st2[i]? = st[i]?) (hl : r2.length = r1.length) (b : Same B1 B2) : SR K mg fx st (back r1 r2 own) ts2 B2 H2 c2 :=
  ⟨fun i d e => by
    rcases back_some e with ⟨hi, e1⟩ | ⟨hi, e1⟩
    · obtain ⟨v, F, e2, h, n, c⟩ := s1.slot i d (slotAt_get e1)
      have hs : stb d = true := by
        unfold hidOk at hid
        rw [List.all_eq_true] at hid
        have := hid i hi
        rw [e1] at this; exact this
      have := h.stbF _ _ _ hs; subst this
      exact ⟨v, [], e2, h.mono b _ _ _ fun _ z => (nomatch z), List.nodup_nil, fun _ z => nomatch z⟩
    · obtain ⟨v, F, e2, q⟩ := s2.slot i d e1
      exact ⟨v, F, by rw [← hst i hi]; exact e2, q⟩, s2.temp, s2.bh, s2.b0, s2.frame, s2.stay, s2.new, s2.grow, s2.nb, s2.th, s1.io, by rw [back_len, hl, s1.len]⟩
end

/-! ### readings that do not hang on the place -/
def cTE (K : PySem.W.Frag) (mg : Str → Option Value) (g : Gd) (q : Bool) (t : DE) : TE := fun st H Q => ∃ (fx : Fx) (r : DEnv) (ts : List (V × D)) (B : Hp) (col : Col) (Qd : D → DEnv → Prop) (Xd : XP), (fx.io.map (·.1) = g.I ∧ Link mg fx Xd g.E) ∧ SR K mg fx st r ts B H col ∧ t r Qd Xd ∧
  ∀ v d r' B' H' col', Qd d r' → Same B B' → (q = true → Same H H') → SR K mg fx st r' (ts ++ [(v, d)]) B' H' col' → Q v H'
def cTT (K : PySem.W.Frag) (mg : Str → Option Value) (g : Gd) (q : Bool) (t : DT) : TT := fun st H Q => ∃ (fx : Fx) (r : DEnv) (ts : List (V × D)) (B : Hp) (col : Col) (Qd : Bool → DEnv → Prop) (Xd : XP), (fx.io.map (·.1) = g.I ∧ Link mg fx Xd g.E) ∧ SR K mg fx st r ts B H col ∧ t r Qd Xd ∧
  ∀ b r' B' H' col', Qd b r' → Same B B' → (q = true → Same H H') → SR K mg fx st r' ts B' H' col' → Q b H'
def cTG (K : PySem.W.Frag) (mg : Str → Option Value) (g : Gd) (gs : List Nat) (t : DG) : TG := fun v st H Q => ∃ (fx : Fx) (r : DEnv) (ts : List (V × D)) (B : Hp) (col : Col) (d : D) (Qd : DEnv → Prop), fx.io.map (·.1) = g.I ∧ SR K mg fx st r (ts ++ [(v, d)]) B H col ∧ t d r Qd ∧
  ∀ st' r' col', Qd r' → SR K mg fx st' r' ts B H col' → (∀ i, i ∉ gs → st'[i]? = st[i]?) → st'.length = st.length → Q st' H
section
variable {X : Cx} {g : Gd}
theorem SE.canon {q : Bool} {e : Expr} {t : DE} (h : SE X g q e t) : PE X e (cTE X.K X.mg g q t) := by
  obtain ⟨te, pe, k⟩ := h.run
  exact ⟨fun pins s st H Q I ⟨fx, r, ts, B, col, Qd, Xd, ok, sr, ht, hQ⟩ => pe.run pins s st H Q I (k fx st r ts B H col Qd Xd Q ⟨ok.1, ok.2⟩ sr ht hQ)⟩
theorem ST.canon {q : Bool} {e : Expr} {t : DT} (h : ST X g q e t) : PT X e (cTT X.K X.mg g q t) := by
  obtain ⟨te, pe, k⟩ := h.run
  exact ⟨fun pins s st H Q I ⟨fx, r, ts, B, col, Qd, Xd, ok, sr, ht, hQ⟩ => pe.run pins s st H Q I (k fx st r ts B H col Qd Xd Q ⟨ok.1, ok.2⟩ sr ht hQ)⟩
theorem SG.canon {gs : List Nat} {e : Expr} {t : DG} (h : SG X g gs e t) : PG X e (cTG X.K X.mg g gs t) := by
  obtain ⟨te, pe, k⟩ := h.run
  exact ⟨fun pins s st H v u Q I rv ⟨fx, r, ts, B, col, d, Qd, ok, sr, ht, hQ⟩ => pe.run pins s st H v u Q I rv (k fx st r ts B H col v d Qd Q ok sr ht hQ)⟩

/-! ### comprehensions -/
abbrev X0 : XP := fun _ => False
def Gd.q (g : Gd) : Gd := ⟨fun _ _ _ => False, g.I⟩
/-- no test, one test -/
structure STs (X : Cx) (g : Gd) (q : Bool) (ifs : List Expr) (t : DT) : Prop where
  run : PTs X ifs (cTT X.K X.mg g q t)
def dtYes : DT := fun r Q _ => Q true r
theorem sts_nil : STs X g true [] dtYes := ⟨⟨fun pins s st H Q I ⟨fx, r, ts, B, col, Qd, Xd, ok, sr, ht, hQ⟩ => wpAny_tests_nil ⟨H, I, hQ true r B H col ht (Same.refl B) (fun _ => Same.refl H) sr⟩⟩⟩
theorem sts_one {q : Bool} {c : Expr} {t : DT} (h : ST X g q c t) : STs X g q [c] t := ⟨pts_one h.canon⟩
def compW (u : DG) (tt : DT) (te : DE) (own : List Nat) : List D → DEnv → List D → (List D → DEnv → Prop) → Prop
  | [], r, acc, Q => Q acc r
  | d :: ds, r, acc, Q => u d r fun r1 => tt r1 (fun b r2 => if b = true then te r2 (fun y r3 => compW u tt te own ds (wipeD r3 own) (acc ++ [y]) Q) X0 else compW u tt te own ds (wipeD r2 own) acc Q) X0
def dComp (ti : DA) (own : List Nat) (u : DG) (tt : DT) (te : DE) : DE := fun r Q X => ti r (fun items r1 => Small items.length ∧ hidOk r1 own = true ∧ compW u tt te own items (wipeD r1 own) [] (fun acc r2 => Q (.lst true acc) (back r1 r2 own))) X
theorem comp_core {fx : Fx} {st : L2.St} {r1 : DEnv} {ts : List (V × D)} {B1 H1 : Hp} {c1 : Col} {J : It} {items : List D} {gs own : List Nat} {u : DG} {tt : DT} {te : DE} {qt qe : Bool} {Qf : List D → DEnv → Prop} {Q : Hp → Prop} {p : Addr} {K : PySem.W.Frag} {mg : Str → Option Value}
    (hgs : ∀ i ∈ gs, i ∈ own) (hI : ∀ i ∈ own, i ∉ g.I) (io : fx.io.map (·.1) = g.I) (s1 : SR K mg fx st r1 ts B1 H1 c1) (hz : Small items.length) (hid : hidOk r1 own = true) (w : WalkD K mg B1 J items) (hw : compW u tt te own items (wipeD r1 own) [] Qf) (hp : H1 p = none)
    (hQ : ∀ acc r2 B2 H2 c2, Qf acc r2 → Same B1 B2 → (qt = true → qe = true → Same H1 H2) → SR K mg fx st (back r1 r2 own) (ts ++ [(.ref p, .lst true acc)]) B2 H2 c2 → Q H2) :
    ∃ W : Nat → Nat → Hp → Prop, (∃ m, W 0 m (upd H1 p (.lst []))) ∧ ∀ i m H, W i m H →
      (J.stop i H ∧ Q H) ∨ (J.go i H ∧ ∃ Nx : Hp → Prop, (∀ H', Nx H' → ∃ m', m' < m ∧ W (i + 1) m' H') ∧ ∀ x H', J.yld i H x H' → cTG K mg g.q gs u x (wipe st own) H' fun σ2 H2 => wipe σ2 own = wipe st own ∧ cTT K mg g.q qt tt σ2 H2 fun b H3 =>
        if b = true then cTE K mg g.q qe te σ2 H3 fun y H4 => ∃ acc, H4 p = some (.lst acc) ∧ acc.length < sizeLine ∧ Nx (upd H4 p (.lst (acc ++ [y]))) else Nx H3) := by
  obtain ⟨G, Y, wk, hG, hY⟩ := w
  have hio : ∀ p ∈ fx.io, p.1 ∉ own := fun p hp z => hI _ z (by rw [← io]; exact List.mem_map_of_mem hp)
  have lk : Link mg fx X0 g.q.E := fun _ _ _ _ h => h.elim
  have s0 : SR K mg fx st r1 (ts ++ [(.ref p, .lst true [])]) B1 (upd H1 p (.lst [])) _ := SR.list (vds := []) (by simpa using s1) hp
  have sH0 : Same H1 (upd H1 p (.lst [])) := same_new hp
  refine lc_it wk (fun i H => ∃ r2 B2 c2 acc, SR K mg fx (wipe st own) r2 (ts ++ [(.ref p, .lst true acc)]) B2 H c2 ∧ r2.length = r1.length ∧ Same B1 B2 ∧ (qt = true → qe = true → Same H1 H) ∧ acc.length ≤ i ∧ compW u tt te own (items.drop i) r2 acc Qf) ?_ (fun i H _ ⟨r2, B2, c2, acc, s2, _, sb, _⟩ => hG H (sb.trans s2.bh)) (fun i x H H' hi ⟨r2, B2, c2, acc, s2, rl, sb, sh, ha, hc⟩ y => ?_) (fun H ⟨r2, B2, c2, acc, s2, rl, sb, sh, ha, hc⟩ => ?_)
  · exact ⟨wipeD r1 own, B1, _, [], s0.wiped hio (fun i hi => wipe_at hi) (wipe_length _ _), wipeD_len, Same.refl _, fun _ _ => sH0, Nat.le_refl _, hw⟩
  · obtain ⟨d, e, hs, B3, sb3, rr, al⟩ := hY i x B2 H H' sb s2.bh y
    have s3 := s2.yield rr al
    have shH : Same H H' := by
      rcases al with ⟨_, rfl⟩ | ⟨T, o, hT, _, rfl⟩
      · exact Same.refl _
      · exact same_new hT
    have ed : items.drop i = d :: items.drop (i + 1) := by
      obtain ⟨hlt, e'⟩ := List.getElem?_eq_some_iff.mp e
      rw [List.drop_eq_getElem_cons hlt, e']
    rw [ed] at hc
    refine ⟨fx, r2, _, B3, c2, d, _, io, s3, hc, fun st4 r4 c4 h4 s4 e4 l4 => ?_⟩
    have e4' : ∀ i, i ∉ own → st4[i]? = (wipe st own)[i]? := fun i hi => e4 i fun z => hi (hgs i z)
    have e5 : ∀ i, i ∉ own → (wipe st own)[i]? = st4[i]? := fun i hi => (e4' i hi).symm
    have l5 : (wipe st own).length = st4.length := l4.symm
    refine ⟨wipe_eq l4 e4', fx, r4, _, B3, c4, _, X0, ⟨io, lk⟩, s4, h4, fun b r5 B5 H5 c5 h5 sb5 sh5 s5 => ?_⟩
    have rlen : r5.length = r1.length := by
      have a := s5.len
      have b := s1.len
      rw [l4, wipe_length] at a
      omega
    cases b with
    | true =>
      refine iteT ⟨fx, r5, _, B5, c5, _, X0, ⟨io, lk⟩, s5, by rw [if_pos rfl] at h5; exact h5, fun v dv r6 B6 H6 c6 h6 sb6 sh6 s6 => ?_⟩
      obtain ⟨vs, hv, hvl, s7⟩ := s6.growTemp
      refine ⟨vs, hv, ?_, wipeD r6 own, B6, _, acc ++ [dv], s7.wiped hio e5 l5, ?_, ((sb.trans sb3).trans sb5).trans sb6, fun q1 q2 => ?_, ?_, h6⟩
      · rw [hvl, sizeLine_eq]
        unfold Small at hz
        omega
      · rw [wipeD_len]
        have a := s6.len
        have b := s1.len
        rw [l4, wipe_length] at a
        omega
      · refine same_upd2 ((((sh q1 q2).trans shH).trans (sh5 q1)).trans (sh6 q2)) hp
      · rw [List.length_append, List.length_singleton]; omega
    | false =>
      refine iteF ⟨wipeD r5 own, B5, c5, acc, s5.wiped hio e5 l5, by rw [wipeD_len]; exact rlen, (sb.trans sb3).trans sb5, fun q1 q2 => ((sh q1 q2).trans shH).trans (sh5 q1), by omega, by rw [if_neg Bool.false_ne_true] at h5; exact h5⟩
  · rw [List.drop_length] at hc
    exact hQ acc r2 B2 H c2 hc sb sh (s1.back hid s2 (fun i hi => wipe_at hi) rl sb)
/-- [elt for target in iter if ..] -/
theorem se_comp {q qt qe : Bool} {elt tg iter : Expr} {ifs : List Expr} {scope : Scope} {own : List (Str × Nat)} {gs : List Nat} {pos : Pos} {ti : DA} {u : DG} {tt : DT} {te : DE} (hc : X.calm = true) (hN : X.N.Nodup) (hi : SI X g q tg iter ti) (ok : BlkOk X.N X.env.scope scope own)
    (hg : ∀ (s : Shared) (H : Hp) (C : Addr) (cl : List (Str × Addr)) (fp : List Addr), SG (X.blk s H scope (compEnvC scope cl C X.env) fp) g.q gs tg u) (ht : ∀ (s : Shared) (H : Hp) (C : Addr) (cl : List (Str × Addr)) (fp : List Addr), STs (X.blk s H scope (compEnvC scope cl C X.env) fp) g.q qt ifs tt)
    (he : ∀ (s : Shared) (H : Hp) (C : Addr) (cl : List (Str × Addr)) (fp : List Addr), SE (X.blk s H scope (compEnvC scope cl C X.env) fp) g.q qe elt te) (hgs : ∀ i ∈ gs, i ∈ own.map (·.2)) (hI : ∀ i ∈ own.map (·.2), i ∉ g.I) (hs : ∀ x, foldedSetIterable iter X.env x = pure x := by intro _; rfl) :
    SE X g (q && (qt && qe)) (.ListComp elt [⟨tg, iter, ifs, 0⟩] scope pos) (dComp ti (own.map (·.2)) u tt te) := by
  obtain ⟨wi, pi, k⟩ := hi.run
  refine ⟨_, pe_lc (g := cTG X.K X.mg g.q gs u) (tt := cTT X.K X.mg g.q qt tt) (te := cTE X.K X.mg g.q qe te) hc hN pi ok (fun s H C cl fp => (hg s H C cl fp).canon) (fun s H C cl fp => (ht s H C cl fp).run) (fun s H C cl fp => (he s H C cl fp).canon) hs, fun fx st r ts B H col Qd Xd Q gok s ht hQ => ?_⟩
  refine k fx st r ts B H col _ Xd _ gok s ht fun items r1 B1 H1 c1 J ⟨hz, hid, hw⟩ sB sH s1 w => fun p hp => ?_
  exact comp_core (g := g) (qt := qt) (qe := qe) hgs hI gok.io s1 hz hid w hw hp fun acc r2 B2 H2 c2 hq sb sh s2 => hQ _ _ _ B2 H2 c2 hq (sB.trans sb) (fun q => by
    simp only [Bool.and_eq_true] at q
    exact (sH q.1).trans (sh q.2.1 q.2.2)) s2
/-- name = [elt for target in iter if ..], on one line, the name a local -/
theorem s_setComp {q qt qe : Bool} {i : Nat} {y : Str} {py : Pos} {elt tg iter : Expr} {ifs : List Expr} {scope : Scope} {own : List (Str × Nat)} {gs : List Nat} {pos spos : Pos} {ti : DA} {u : DG} {tt : DT} {te : DE} (hc : X.calm = true) (hN : X.N.Nodup) (hy : X.N[i]? = some y) (hyl : X.env.scope.names.lookup y = some .local) (hyI : i ∉ g.I)
    (hsw : swapsWith (.ListComp elt [⟨tg, iter, ifs, 0⟩] scope pos) (some (.Name y py)) spos.line X.env = pure true) (hi : SI X g q tg iter ti) (ok : BlkOk X.N X.env.scope scope own)
    (hg : ∀ (s : Shared) (H : Hp) (C : Addr) (cl : List (Str × Addr)) (fp : List Addr), SG (X.blk s H scope (compEnvC scope cl C X.env) fp) g.q gs tg u) (ht : ∀ (s : Shared) (H : Hp) (C : Addr) (cl : List (Str × Addr)) (fp : List Addr), STs (X.blk s H scope (compEnvC scope cl C X.env) fp) g.q qt ifs tt)
    (he : ∀ (s : Shared) (H : Hp) (C : Addr) (cl : List (Str × Addr)) (fp : List Addr), SE (X.blk s H scope (compEnvC scope cl C X.env) fp) g.q qe elt te) (hgs : ∀ i ∈ gs, i ∈ own.map (·.2)) (hI : ∀ i ∈ own.map (·.2), i ∉ g.I) (hs : ∀ x, foldedSetIterable iter X.env x = pure x := by intro _; rfl) :
    SS X g (.Assign [.Name y py] (.ListComp elt [⟨tg, iter, ifs, 0⟩] scope pos) spos) (dAsg (dComp ti (own.map (·.2)) u tt te) (dgName i)) := by
  obtain ⟨wi, pi, k⟩ := hi.run
  refine ⟨_, ps_setLc (g := cTG X.K X.mg g.q gs u) (tt := cTT X.K X.mg g.q qt tt) (te := cTE X.K X.mg g.q qe te) hc hN hy hyl hsw pi ok (fun s H C cl fp => (hg s H C cl fp).canon) (fun s H C cl fp => (ht s H C cl fp).run) (fun s H C cl fp => (he s H C cl fp).canon) hs, fun fx st r B H col Dd Xd Dh gok s ht f => ?_⟩
  refine k fx st r [] B H col _ Xd _ gok s ht fun items r1 B1 H1 c1 J ⟨hz, hid, hw⟩ sB sH s1 w => fun p hp => ?_
  refine comp_core (g := g) (qt := qt) (qe := qe) hgs hI gok.io s1 hz hid w hw hp fun acc r2 B2 H2 c2 hq sb sh s2 => ?_
  obtain ⟨hl, hq⟩ := hq
  have s3 := SR.store (ts := []) (i := i) s2 (gok.ne hyI) (by rw [← s2.len]; exact hl)
  exact f.nx _ _ B2 H2 _ hq (sB.trans sb) s3

/-! ### a list's methods -/
def ownL : D → Option (List D)
  | .lst true xs => some xs
  | _ => none
theorem ownL_some {d : D} {xs : List D} (h : ownL d = some xs) : d = .lst true xs := by
  unfold ownL at h
  split at h
  · cases h; rfl
  · cases h
/-- x.append(e), x in slot i -/
def dApp (i : Nat) (t : DE) : DE := fun r Q X => got (slotAt r i) fun c => got (ownL c) fun _ => t r (fun d r1 => got (slotAt r1 i) fun c => got (ownL c) fun xs => Small (xs.length + 1) ∧ Q .non (r1.set i (some (.lst true (xs ++ [d]))))) X
theorem SR.headL {K : PySem.W.Frag} {mg : Str → Option Value} {fx : Fx} {st : L2.St} {r : DEnv} {ts : List (V × D)} {B H : Hp} {col : Col} (s : SR K mg fx st r ts B H col) {i : Nat} {xs : List D} (e : r[i]? = some (some (.lst true xs))) : ∃ a vs, st[i]? = some (some (.ref a)) ∧ H a = some (.lst vs) ∧ vs.length = xs.length := by
  obtain ⟨v, F, e1, h, n, c⟩ := s.slot i _ e
  cases h with
  | @ol a vs _ F0 ha hr => exact ⟨a, vs, e1, ha, hr.length⟩
theorem se_append {q : Bool} {i : Nat} {o e : Expr} {t : DE} {apos cpos : Pos} (po : PE X o (tVar i)) (he : SE X g q e t) (hs1 : starEach [e] X.env = (false, eval e X.env) :: starEach [] X.env := by rfl)
    (hbase : attributeBase o "append" X.env (eval o X.env) = eval o X.env := by rfl)
    (hfew : ((backTo cpos (starEach [e] X.env)).all (fun x => !x.1) && (backToKw cpos (keywordEach [] X.env)).all (fun x => x.1.isSome)
      && decide (([e] : List Expr).length + ([] : List Keyword).length + (if ([] : List Keyword).isEmpty then 0 else 1) < 30)) = true := by rfl)
    (hline : (apos.endLine == cpos.line) = true := by rfl) (hplain : (backTo cpos (starEach [] X.env)).any (·.1) = false := by rfl) : SE X g false (.Call (.Attribute o "append" apos) [e] [] cpos) (dApp i t) := by
  obtain ⟨te, pe, k⟩ := he.run
  refine ⟨_, pe_bm PySem.F.plainAttrs_list PySem.F.slot_list_append PySem.F.type_list_append mt_append po (pa_cons pe pa_nil hs1) hbase hfew hline hs1 hplain, fun fx st r ts B H col Qd Xd Q ok s ht hQ => ?_⟩
  obtain ⟨c, e1, ht⟩ := get_cases ht
  obtain ⟨xs0, e2, ht⟩ := got_cases ht
  have := ownL_some e2; subst this
  obtain ⟨a0, vs0, e3, e4, _⟩ := s.headL e1
  refine ⟨.ref a0, e3, .inl ⟨rfl, vs0, .inl (.inl e4)⟩, k fx st r ts B H col _ Xd _ ok s ht fun v d r1 B1 H1 c1 h1 sB sH s1 => ?_⟩
  obtain ⟨c, e5, h1⟩ := get_cases h1
  obtain ⟨xs, e6, hz, h7⟩ := got_cases h1
  have := ownL_some e6; subst this
  obtain ⟨a, vs, F0, f1, f2, f3, f4, f5, f6⟩ := s1.setL e5
  rw [e3] at f1; cases f1
  obtain ⟨G, g1, g2, g3⟩ := s1.temp ts.length v d (by simp)
  have rr : Rels X.K X.mg B1 H1 (vs ++ [v]) (xs ++ [d]) (F0 ++ (G ++ [])) := f3.append (.cons g1 .nil)
  rw [List.append_nil] at rr
  refine ⟨a0, vs, v, rfl, rfl, f2, ?_, ?_⟩
  · rw [f3.length, sizeLine_eq]; unfold Small at hz; omega
  · have s2 := f6 _ _ _ rr (List.nodup_append.mpr ⟨f4, g2, fun b hb b' hb' e => by
      subst e
      have q1 := f5 b hb
      rw [g3 b hb'] at q1; cases q1⟩) fun b hb => by
        rcases List.mem_append.mp hb with z | z
        · exact .inl z
        · exact .inr ⟨ts.length, Nat.le_refl _, g3 b z⟩
    exact hQ .non .non _ B1 _ _ h7 sB (fun q => by cases q) (s2.push .non)
end
end FM

set_option Elab.async false
set_option linter.all false
set_option maxRecDepth 100000
namespace FM
open PySem PySem.Spec PyProof.Rows L2
section
variable {X : Cx} {g : Gd}
theorem Rels.set {K : PySem.W.Frag} {mg : Str → Option Value} {B H : Hp} {v : V} {d : D} {G : List Addr} (h2 : Rel K mg B H v d G) : ∀ {vs : List V} {ds : List D} {F : List Addr} {j : Nat}, Rels K mg B H vs ds F → j < ds.length →
    ∃ F', Rels K mg B H (vs.set j v) (ds.set j d) F' ∧ (∀ b ∈ F', b ∈ F ∨ b ∈ G) ∧ (F.Nodup → G.Nodup → (∀ b ∈ F, b ∉ G) → F'.Nodup)
  | _, [], _, _, h, hj => by simp at hj
  | _, d0 :: ds, _, 0, h, _ => by
    cases h with
    | @cons v0 vs _ _ F1 F2 h1 hr =>
      refine ⟨G ++ F2, .cons h2 hr, fun b hb => ?_, fun n1 n2 dj => List.nodup_append.mpr ⟨n2, (List.nodup_append.mp n1).2.1, fun a ha b hb e => ?_⟩⟩
      · rcases List.mem_append.mp hb with z | z
        · exact .inr z
        · exact .inl (List.mem_append_right _ z)
      · subst e; exact dj a (List.mem_append_right _ hb) ha
  | _, d0 :: ds, _, j + 1, h, hj => by
    cases h with
    | @cons v0 vs _ _ F1 F2 h1 hr =>
      obtain ⟨F', r, m, n⟩ := Rels.set h2 (j := j) hr (by simpa using hj)
      refine ⟨F1 ++ F', .cons h1 r, fun b hb => ?_, fun n1 n2 dj => ?_⟩
      · rcases List.mem_append.mp hb with z | z
        · exact .inl (List.mem_append_left _ z)
        · rcases m b z with y | y
          · exact .inl (List.mem_append_right _ y)
          · exact .inr y
      · have q := List.nodup_append.mp n1
        refine List.nodup_append.mpr ⟨q.1, n q.2.1 n2 fun b hb => dj b (List.mem_append_right _ hb), fun a ha b hb e => ?_⟩
        subst e
        rcases m a hb with y | y
        · exact q.2.2 a ha a y rfl
        · exact dj a (List.mem_append_left _ ha) y
def asI : D → Option Int
  | .int i => some i
  | _ => none
theorem asI_some {d : D} {i : Int} (h : asI d = some i) : d = .int i := by
  unfold asI at h
  split at h
  · cases h; rfl
  · cases h
/-- x[k] = e, x in slot i -/
def dSetIx (i : Nat) (tk te : DE) : DS := fun D X r => te r (fun d r1 => got (slotAt r1 i) fun _ => tk r1 (fun k r2 => got (slotAt r2 i) fun c => got (ownL c) fun xs => got (asI k) fun n => got (ixN xs.length n) fun j => D.nx (r2.set i (some (.lst true (xs.set j d))))) X) X
theorem s_setIx {q q2 : Bool} {i : Nat} {o k e : Expr} {tk te : DE} {pos pos' : Pos} (po : PE X o (tVar i)) (hk : SB X g q2 k tk) (he : SE X g q e te)
    (ha : ∀ v, assign (.Subscript o k pos') X.env v = (do
      let ov ← holding [v] (eval o X.env)
      let iv ← holding [v, ov] (eval k X.env)
      standAt pos'
      holding [v, ov, iv] (setItem ov iv v)
      release [v, ov, iv] []) := by intro _; rfl)
    (hs : swapsWithSole [.Subscript o k pos'] e pos.line X.env = pure false := by rfl) (hw : swappedStores [.Subscript o k pos'] e X.env = pure none := by rfl)
    (h1 : (assignEach [.Subscript o k pos'] X.env).map (·.2) = [assign (.Subscript o k pos') X.env] := by rfl) : SS X g (.Assign [.Subscript o k pos'] e pos) (dSetIx i tk te) := by
  obtain ⟨t1, p1, k1⟩ := hk.run
  obtain ⟨t2, p2, k2⟩ := he.run
  refine ⟨_, ps_asg p2 (pg_sub po p1 set_list ha) hs hw h1, fun fx st r B H col Dd Xd Dh ok s ht f => ?_⟩
  refine k2 fx st r [] B H col _ Xd _ ok s ht fun v d r1 B1 H1 c1 h1 sB _ s1 => ?_
  obtain ⟨c0, e0, h1⟩ := get_cases h1
  obtain ⟨a, F, e1, _⟩ := s1.slot i _ e0
  refine ⟨a, e1, k1 fx st r1 _ B1 H1 c1 _ Xd _ ok s1 h1 fun u kd r2 B2 H2 c2 h2 sB2 _ s2 w2 => ?_⟩
  obtain ⟨c, e2, h2⟩ := get_cases h2
  obtain ⟨xs, e3, h2⟩ := got_cases h2
  obtain ⟨n, e4, h2⟩ := got_cases h2
  obtain ⟨j, e5, h9⟩ := got_cases h2
  have := ownL_some e3; subst this
  have := asI_some e4; subst this
  obtain ⟨b, vs, F0, f1, f2, f3, f4, f5, f6⟩ := SR.setL (ts := []) s2 e2
  rw [e1] at f1; cases f1
  obtain ⟨G, g1, g2, g3⟩ := s2.temp 0 v d rfl
  obtain ⟨_, hj, _⟩ := ixN_seq e5
  obtain ⟨F', r', m', n'⟩ := Rels.set g1 f3 hj
  refine ⟨b, vs, n, j, rfl, view_int w2, f2, by rw [f3.length]; exact e5, ?_⟩
  have s3 := f6 _ _ F' r' (n' f4 g2 fun x hx hg => by
    have q1 := f5 x hx
    rw [g3 x hg] at q1; cases q1) fun x hx => by
      rcases m' x hx with z | z
      · exact .inl z
      · exact .inr ⟨0, Nat.le_refl _, g3 x z⟩
  exact f.nx _ _ B2 _ _ h9 (sB.trans sB2) s3
end
end FM

set_option Elab.async false
set_option linter.all false
set_option maxRecDepth 100000
namespace FM
open PySem PySem.Spec PyProof.Rows L2
/-- the law's call, from its def's promise on the script -/
theorem run_law {P : Program} {w : World} {K : PySem.W.Frag} {mg mb : Str → Option Value} {k : Nat} {fa a : Addr} {fd : FuncData} {x : Str} {fs : FSpec} {s : Shared} {vs : List Value} {ns : List Int}
    (KX : K.In s.heap) (hns : s.heap.Ns mainGlobals mg) (hb : s.heap.Ns builtinsNs mb) (hbb : ∀ x : Str, x ≠ "__name__" → mb x = bootBuiltins x) (hlim : s.heap.NoLimit) (hg : s.gens = #[])
    (ha : s.heap.get? a = some { cls := .type "list", data := .seq vs.toArray }) (hi : IntsAre vs ns) (hl : ns.length ≤ sizeLine) (hr : Room k callerA) (hfs : fs.n = 1 ∧ fs.io = []) (hwp : fs.wp [.scr ns] (fun d _ => d = .bl true) (fun _ => False))
    (F : ∀ base : Heap, K.In base → base.Ns mainGlobals mg → FnG P w K mg base k fa fd [x] (spOf K mg fs)) (hbind : ∀ (s : Shared) (u : Value), BindsTo s fd ⟨[u], []⟩ [(x, u)]) :
    codeAny (model P w) callerA (.call (.ref fa) ⟨[.ref a], []⟩) (fun r s' => r = .ok (.ret (.bool true)) ∧ OldK s.heap s'.heap ∧ s'.os = s.os ∧ AllBare s'.gens) s := by
  have rv := vals_ints hi
  -- the script may be tracked, as a thing that is known
  have main : ∀ H : Hp, (∀ b u, H b = some u → b = a ∧ u = .frz { cls := .type "list", data := .seq vs.toArray } (.lst (ns.map V.int)) ∧ K.lookup a = none) → SqL K H a (ns.map V.int) →
      codeAny (model P w) callerA (.call (.ref fa) ⟨[.ref a], []⟩) (fun r s' => r = .ok (.ret (.bool true)) ∧ OldK s.heap s'.heap ∧ s'.os = s.os ∧ AllBare s'.gens) s := by
    intro H hH hS
    have hok : HOk P w H s.heap := fun b u e => by
      obtain ⟨rfl, rfl, _⟩ := hH b u e
      exact ⟨ha, by rw [List.length_map]; exact hl, vs, _, rv, ha⟩
    have keep : ∀ {b o}, s.heap.get? b = some o → (b = a → H a = none) → (hidT s.heap H).get? b = some o := fun {b o} e n => hidT_get e (by
      cases q : H b with
      | none => rfl
      | some u =>
        obtain ⟨rfl, _, _⟩ := hH b u q
        rw [n rfl] at q; cases q)
    have dict : ∀ {b m}, s.heap.Ns b m → (hidT s.heap H).Ns b m := fun {b m} ⟨o, es, ep, e, d, r⟩ => ⟨o, es, ep, keep e (fun z => by
      subst z
      rw [ha] at e; cases e
      have d' : Data.seq vs.toArray _ = Data.dict es ep := d
      cases d'), d, r⟩
    have kin : K.In (hidT s.heap H) := fun b o e => keep (KX b o e) fun z => by
      subst z
      cases q : H b with
      | none => rfl
      | some u => rw [(hH b u q).2.2] at e; cases e
    have md : Mod K mg (hidT s.heap H) := ⟨kin, dict hns, ⟨mb, dict hb, hbb⟩, let ⟨mc, h1, h2⟩ := hlim; ⟨mc, dict h1, h2⟩⟩
    have env : Env0 P w K mg (hidT s.heap H) callerA [] s H := ⟨rfl, md, fun b o e => of_hidT e, Nat.le_of_eq (hidT_size _ _), trivial, fun b hb => absurd (show b ∈ ([] : List Addr) from hb) (by simp), hok, .of_eq hg⟩
    have sp : spOf K mg fs [.ref a] H (fun v _ => v = .bl true) fun _ _ _ => False := by
      refine ⟨hfs.1.symm, ⟨H, H, fun _ => none, []⟩, [.scr ns], H, fun _ => none, _, _, rfl, rfl, hfs.2.symm, hfs.1.symm, ?_, fun _ _ z => (nomatch z), hwp, fun v d outs st r B' H' c e q sr => ?_, fun _ _ _ _ h => h.elim⟩
      · refine ⟨fun i d e => ?_, fun k v d e => by simp at e, Same.refl _, Same.refl _, fun _ _ e _ => e, fun _ o e => ⟨o, e⟩, fun _ _ e => (nomatch e), fun _ _ e => .inl e, fun _ _ e => (nomatch e), fun _ _ e => (nomatch e), fun _ hp => (nomatch hp), rfl⟩
        cases i with
        | zero =>
          simp at e; subst e
          exact ⟨.ref a, [], rfl, .scr hS, List.nodup_nil, fun _ z => nomatch z⟩
        | succ i => simp at e
      · subst q
        exact view_bl sr.viewTop0
    refine codeAny_mono ((F _ kin (dict hns)).run callerA [] s H ⟨[.ref a], []⟩ [.ref a] [.ref a] _ _ hr rfl env (hbind s (.ref a)) (.cons rfl .nil) sp) fun r s' h => ?_
    cases r with
    | error e =>
      obtain ⟨_, _, _, _, _, _, _, _, _, _, _, _, z⟩ := (show L2N.CX P w [] H s (fun _ _ _ => False) e s' from h)
      exact z.elim
    | ok fl =>
      cases fl with
      | next => exact False.elim h
      | brk => exact False.elim h
      | cont => exact False.elim h
      | ret u =>
        obtain ⟨v, H', os, bare, un, hok', r', q⟩ := h
        have q' : v = .bl true := q
        subst q'
        obtain rfl : u = Value.bool true := r'
        refine ⟨rfl, OldK.of_keep fun b o e => ?_, os, bare⟩
        cases q : H b with
        | none => exact un.keep b o e q (by intro z; exact absurd (show b ∈ ([] : List Addr) from z) (by simp)) (by simp)
        | some u =>
          obtain ⟨rfl, rfl, _⟩ := hH b u q
          have z2 := un.frzs b _ _ q
          obtain ⟨e2, _⟩ := hok' b _ z2
          rw [ha] at e; cases e
          exact e2
  have lenV := hi.length
  cases hk : K.lookup a with
  | some o =>
    have e := KX a o hk
    rw [ha] at e; cases e
    exact main (fun _ => none) (fun _ _ z => nomatch z) (.inr ⟨_, vs.toArray, _, hk, rfl, rfl, rfl, by rw [List.size_toArray, lenV]; exact hl, by simpa using rv⟩)
  | none =>
    refine main (fun b => if b = a then some (.frz { cls := .type "list", data := .seq vs.toArray } (.lst (ns.map V.int))) else none) (fun b u z => ?_) (.inl (.inr ⟨_, if_pos rfl⟩))
    by_cases hb : b = a
    · have z' := (if_pos hb).symm.trans z
      exact ⟨hb, (Option.some.inj z').symm, hk⟩
    · have z' := (if_neg hb).symm.trans z
      cases z'
/-- the end of a law's row -/
theorem law_end {l : PySem.W.OpenLaw} {n k : Nat} {q : Program} {loose : List Str} {XP : (Str → Option Value) → Heap → Prop} {YP : World → Heap → Prop} {d : DefRec} {K : Params → PySem.W.Frag} {fs : FSpec} {x : Str}
    (hn : l.most = some n) (hn2 : n ≤ sizeLine) (hdf : d.params.defaults = []) (hr : Room k callerA) (hfs : fs.n = 1 ∧ fs.io = []) (hwp : ∀ ns : List Int, ns.length ≤ n → fs.wp [.scr ns] (fun d _ => d = .bl true) (fun _ => False))
    (hY : ∀ (w : World) (h : Heap), YP w h → (K w.params).In h)
    (F : ∀ (w : World) (mg : Str → Option Value) (fa : Addr) (h : Heap), (K w.params).In h → h.Ns mainGlobals mg → mg d.name = some (.ref fa) →
      ∃ fd : FuncData, (∀ (s : Shared) (u : Value), BindsTo s fd ⟨[u], []⟩ [(x, u)]) ∧
        ∀ base : Heap, (K w.params).In base → base.Ns mainGlobals mg → FnG l.prog w (K w.params) mg base k fa fd [x] (spOf (K w.params) mg fs)) :
    PySem.W.WalkO q loose XP YP l.row.toRowW d [] (fun f vs => PySem.call f vs) := by
  refine Att.attach_call hn hdf fun w s₀ s₁ mg mb fa o pm cd doc a vs ns G Y ho hd hcd hmg hobj hints hlen hg => ?_
  obtain ⟨fd, hb, hF⟩ := F w mg fa _ (hY w _ Y) G.T.g hmg
  exact run_law (hY w _ Y) G.T.g G.T.b G.T.builtins G.T.nolimit hg hobj hints (Nat.le_trans hlen hn2) hr hfs (hwp ns hlen) hF hb
end FM

set_option Elab.async false
set_option linter.all false
set_option maxRecDepth 100000
namespace FM
open PySem PySem.Spec PyProof.Rows L2
section
variable {X : Cx} {g : Gd}

/-! ### texts compared, one sign in a text -/
def gS (f : Str → Str → Bool) : D → D → Option D
  | .str i, .str j => some (.bl (f i j))
  | _, _ => none
theorem opa_S {f : Value → Value → Sem Value} {h : Str → Str → Bool} (o : OpR X f (fun x y H Q => ∃ i j, x = .str i ∧ y = .str j ∧ Q (.bl (h i j)) H)) : OpA X f (gS h) := by
  refine ⟨_, o, fun B H v u d e z Q b w1 w2 hz hQ => ?_⟩
  unfold gS at hz
  split at hz
  · cases hz
    exact ⟨_, _, view_str w1, view_str w2, hQ _ atom_bl⟩
  · cases hz
theorem oa_ltS : OpA X (compareOp .Lt) (gS fun i j => decide (i.cps.toList < j.cps.toList)) := opa_S op_lt_str
theorem oa_leS : OpA X (compareOp .LtE) (gS fun i j => !decide (j.cps.toList < i.cps.toList)) := opa_S op_le_str
theorem oa_gtS : OpA X (compareOp .Gt) (gS fun i j => decide (j.cps.toList < i.cps.toList)) := opa_S op_gt_str
theorem oa_geS : OpA X (compareOp .GtE) (gS fun i j => !decide (i.cps.toList < j.cps.toList)) := opa_S op_ge_str
theorem oa_inStr : OpA X (compareOp .In) (gS fun i j => !(Builtin.Str.occurrences j i 0 j.length 1).isEmpty) := opa_S op_in_str
theorem oa_niStr : OpA X (compareOp .NotIn) (gS fun i j => !(!(Builtin.Str.occurrences j i 0 j.length 1).isEmpty)) := opa_S op_notIn_str
def gSign (p : Bool → Bool) : D → D → Option D
  | .str ⟨⟨[c]⟩⟩, .str z => some (.bl (p (decide (c ∈ z.cps.toList))))
  | _, _ => none
theorem oa_inSign : OpA X (compareOp .In) (gSign id) := by
  refine ⟨_, op_in_sign, fun B H v u d e z Q b w1 w2 hz hQ => ?_⟩
  unfold gSign at hz
  split at hz
  · cases hz
    exact ⟨_, _, view_str w1, view_str w2, hQ _ atom_bl⟩
  · cases hz
theorem oa_niSign : OpA X (compareOp .NotIn) (gSign not) := by
  refine ⟨_, op_notIn_sign, fun B H v u d e z Q b w1 w2 hz hQ => ?_⟩
  unfold gSign at hz
  split at hz
  · cases hz
    exact ⟨_, _, view_str w1, view_str w2, hQ _ atom_bl⟩
  · cases hz
/-! ### is None -/
def gIsN (p : Bool → Bool) : D → D → Option D
  | .non, .non => some (.bl (p true))
  | .int _, .non => some (.bl (p false))
  | .str _, .non => some (.bl (p false))
  | .bl _, .non => some (.bl (p false))
  | .tup _, .non => some (.bl (p false))
  | .lst _ _, .non => some (.bl (p false))
  | _, _ => none
theorem isN_view {K : PySem.W.Frag} {mg : Str → Option Value} {B H : Hp} {v u : V} {d e z : D} {p : Bool → Bool} (b : Same B H) (w1 : View K mg B H v d) (w2 : View K mg B H u e) (hz : gIsN p d e = some z) : u = .non ∧ z = .bl (p (decide (v = .non))) := by
  unfold gIsN at hz
  split at hz
  · cases hz; exact ⟨view_non w2, by rw [view_non w1]; rfl⟩
  · cases hz; exact ⟨view_non w2, by rw [view_int w1]; rfl⟩
  · cases hz; exact ⟨view_non w2, by rw [view_str w1]; rfl⟩
  · cases hz; exact ⟨view_non w2, by rw [view_bl w1]; rfl⟩
  · cases hz; obtain ⟨a, vs, F, e, _⟩ := w1.tup b; exact ⟨view_non w2, by rw [e]; rfl⟩
  · cases hz; obtain ⟨a, vs, F, e, _⟩ := w1.lst b; exact ⟨view_non w2, by rw [e]; rfl⟩
  · cases hz
theorem oa_isN : OpA X (compareOp .Is) (gIsN id) := by
  refine ⟨_, op_isN, fun B H v u d e z Q b w1 w2 hz hQ => ?_⟩
  obtain ⟨e1, e2⟩ := isN_view b w1 w2 hz
  subst e2
  exact ⟨e1, hQ _ atom_bl⟩
theorem oa_notN : OpA X (compareOp .IsNot) (gIsN not) := by
  refine ⟨_, op_notN, fun B H v u d e z Q b w1 w2 hz hQ => ?_⟩
  obtain ⟨e1, e2⟩ := isN_view b w1 w2 hz
  subst e2
  exact ⟨e1, hQ _ atom_bl⟩
/-! ### in a list or a tuple of flat things -/
def flatD : D → Bool
  | .non => true
  | .bl _ => true
  | .int _ => true
  | .str _ => true
  | _ => false
def eqFl : D → D → Bool
  | .non, .non => true
  | .bl a, .bl b => a == b
  | .int a, .int b => a == b
  | .str a, .str b => a == b
  | .bl a, .int b => (if a then 1 else 0) == b
  | .int a, .bl b => a == (if b then 1 else 0)
  | _, _ => false
def gIn (p : Bool → Bool) : D → D → Option D
  | x, .tup ys => if flatD x = true ∧ ys.all flatD = true then some (.bl (p (ys.any fun y => eqFl y x))) else none
  | x, .lst _ ys => if flatD x = true ∧ ys.all flatD = true then some (.bl (p (ys.any fun y => eqFl y x))) else none
  | _, _ => none
theorem flat_view {K : PySem.W.Frag} {mg : Str → Option Value} {B H : Hp} {v : V} {d : D} (w : View K mg B H v d) (h : flatD d = true) : flatV v = true := by
  obtain ⟨F, w⟩ := w
  cases w <;> first | rfl | (simp [flatD] at h)
theorem eq_view {K : PySem.W.Frag} {mg : Str → Option Value} {B H : Hp} {v u : V} {d e : D} (w : View K mg B H v d) (w2 : View K mg B H u e) (h : flatD d = true) (h2 : flatD e = true) : eqV v u = eqFl d e := by
  obtain ⟨F, w⟩ := w
  obtain ⟨G, w2⟩ := w2
  cases w <;> first
    | (simp [flatD] at h; done)
    | (cases w2 <;> first
        | (simp [flatD] at h2; done)
        | rfl
        | (simp [eqV, eqFl]; done))
theorem flat_rels {K : PySem.W.Frag} {mg : Str → Option Value} {B H : Hp} : ∀ {vs : List V} {ds : List D} {F : List Addr}, Rels K mg B H vs ds F → ds.all flatD = true → vs.all flatV = true
  | _, [], _, h, _ => by cases h; rfl
  | _, d :: ds, _, h, k => by
    simp only [List.all_cons, Bool.and_eq_true] at k
    cases h with | cons a b => simp only [List.all_cons, flat_view ⟨_, a⟩ k.1, flat_rels b k.2, Bool.and_self]
theorem in_rels {K : PySem.W.Frag} {mg : Str → Option Value} {B H : Hp} {u : V} {e : D} (w2 : View K mg B H u e) (h2 : flatD e = true) : ∀ {vs : List V} {ds : List D} {F : List Addr}, Rels K mg B H vs ds F → ds.all flatD = true → inV u vs = ds.any fun y => eqFl y e
  | _, [], _, h, _ => by cases h; rfl
  | _, d :: ds, _, h, k => by
    simp only [List.all_cons, Bool.and_eq_true] at k
    cases h with
    | cons a b =>
      show ((eqV _ u) || inV u _) = _
      rw [in_rels w2 h2 b k.2, eq_view ⟨_, a⟩ w2 k.1 h2]; rfl
theorem gIn_some {p : Bool → Bool} {x y z : D} (h : gIn p x y = some z) : ∃ ys, (y = .tup ys ∨ ∃ o, y = .lst o ys) ∧ flatD x = true ∧ ys.all flatD = true ∧ z = .bl (p (ys.any fun y => eqFl y x)) := by
  unfold gIn at h
  split at h
  · split at h
    · rename_i hh; cases h; exact ⟨_, .inl rfl, hh.1, hh.2, rfl⟩
    · cases h
  · split at h
    · rename_i hh; cases h; exact ⟨_, .inr ⟨_, rfl⟩, hh.1, hh.2, rfl⟩
    · cases h
  · cases h
theorem in_view {K : PySem.W.Frag} {mg : Str → Option Value} {B H : Hp} {v u : V} {d e z : D} {p : Bool → Bool} (b : Same B H) (w1 : View K mg B H v d) (w2 : View K mg B H u e) (hz : gIn p d e = some z) :
    ∃ a xs, u = .ref a ∧ (SqL K H a xs ∨ SqT K H a xs) ∧ flatV v = true ∧ xs.all flatV = true ∧ z = .bl (p (inV v xs)) := by
  obtain ⟨ys, hy, hx, hf, rfl⟩ := gIn_some hz
  rcases hy with rfl | ⟨o, rfl⟩
  · obtain ⟨a, vs, F, e, h, r⟩ := w2.tup b
    exact ⟨a, vs, e, .inr h, flat_view w1 hx, flat_rels r hf, by rw [in_rels w1 hx r hf]⟩
  · obtain ⟨a, vs, F, e, h, r⟩ := w2.lst b
    exact ⟨a, vs, e, .inl (.inl (.inl h)), flat_view w1 hx, flat_rels r hf, by rw [in_rels w1 hx r hf]⟩
theorem oa_in : OpA X (compareOp .In) (gIn id) := by
  refine ⟨_, op_in_seq, fun B H v u d e z Q b w1 w2 hz hQ => ?_⟩
  obtain ⟨a, xs, e1, h, f1, f2, e2⟩ := in_view b w1 w2 hz
  subst e2
  exact ⟨a, xs, e1, h, f1, f2, hQ _ atom_bl⟩
theorem oa_notIn : OpA X (compareOp .NotIn) (gIn not) := by
  refine ⟨_, op_notIn_seq, fun B H v u d e z Q b w1 w2 hz hQ => ?_⟩
  obtain ⟨a, xs, e1, h, f1, f2, e2⟩ := in_view b w1 w2 hz
  subst e2
  exact ⟨a, xs, e1, h, f1, f2, hQ _ atom_bl⟩

/-! ### data of any depth -/
mutual
def toPy : D → Option PyData
  | .non => some .none
  | .bl b => some (.bool b)
  | .int i => some (.int i)
  | .str s => some (.str s)
  | .tup xs => (toPys xs).map .tuple
  | .lst _ xs => (toPys xs).map .list
  | .cls _ => none
  | .scr _ => none
  | .exc _ _ => none
  | .txs ks => some (.tuple (ks.map .str))
  | .rng _ _ => none
def toPys : List D → Option (List PyData)
  | [] => some []
  | x :: xs => match toPy x, toPys xs with
    | some d, some ds => some (d :: ds)
    | _, _ => none
end
theorem dps_strs {K : PySem.W.Frag} {H : Hp} : ∀ ks : List Str, DpAll K H (ks.map V.str) (ks.map PyData.str)
  | [] => .nil
  | k :: ks => .cons (.str _) (dps_strs ks)
mutual
theorem dp_of {K : PySem.W.Frag} {mg : Str → Option Value} {B H : Hp} (b : Same B H) : ∀ (v : V) (d : D) (F : List Addr) (p : PyData), Rel K mg B H v d F → toPy d = some p → Dp K H v p
  | _, .non, _, p, h, e => by cases h; cases e; exact .non
  | _, .bl _, _, p, h, e => by cases h; cases e; exact .bl _
  | _, .int _, _, p, h, e => by cases h; cases e; exact .int _
  | _, .str _, _, p, h, e => by cases h; cases e; exact .str _
  | _, .tup xs, _, p, h, e => by
    simp only [toPy, Option.map_eq_some_iff] at e
    obtain ⟨ps, e1, e2⟩ := e
    subst e2
    cases h with | tup hs hr => exact .tup (sqT_mono b hs) (dps_of b _ xs _ ps hr e1)
  | _, .lst false xs, _, p, h, e => by
    simp only [toPy, Option.map_eq_some_iff] at e
    obtain ⟨ps, e1, e2⟩ := e
    subst e2
    cases h with | fl hs hr => exact .lst (.inl (.inl (b _ _ hs))) (dps_of b _ xs _ ps hr e1)
  | _, .lst true xs, _, p, h, e => by
    simp only [toPy, Option.map_eq_some_iff] at e
    obtain ⟨ps, e1, e2⟩ := e
    subst e2
    cases h with | ol hs hr => exact .lst (.inl (.inl hs)) (dps_of b _ xs _ ps hr e1)
  | _, .cls _, _, p, h, e => by cases e
  | _, .scr _, _, p, h, e => by cases e
  | _, .exc _ _, _, p, h, e => by cases e
  | _, .txs ks, _, p, h, e => by
    cases e
    cases h with | txs h1 h2 h3 => exact .tup (.inl (.inr ⟨_, b _ _ h1⟩)) (dps_strs ks)
  | _, .rng _ _, _, p, h, e => by cases e
theorem dps_of {K : PySem.W.Frag} {mg : Str → Option Value} {B H : Hp} (b : Same B H) : ∀ (vs : List V) (ds : List D) (F : List Addr) (ps : List PyData), Rels K mg B H vs ds F → toPys ds = some ps → DpAll K H vs ps
  | _, [], _, p, h, e => by cases h; cases e; exact .nil
  | _, d :: ds, _, p, h, e => by
    simp only [toPys] at e
    split at e
    · rename_i q qs e1 e2
      cases e
      cases h with | cons h1 h2 => exact .cons (dp_of b _ d _ q h1 e1) (dps_of b _ ds _ qs h2 e2)
    · cases e
end
def gEqD (p : Bool → Bool) (x y : D) : Option D := match toPy x, toPy y with
  | some d, some e => if SeqAt.shaped d = true ∧ SeqAt.shaped e = true then some (.bl (p (PyData.eqv d e))) else none
  | _, _ => none
theorem oa_eqD (hu : X.A.units + 64 < cLine) : OpA X (compareOp .Eq) (gEqD id) := by
  refine ⟨_, op_eqD hu, fun B H v u d e z Q b ⟨F, w1⟩ ⟨G, w2⟩ hz hQ => ?_⟩
  unfold gEqD at hz
  split at hz
  · rename_i p q e1 e2
    split at hz
    · rename_i hh
      cases hz
      exact ⟨p, q, dp_of b _ _ _ _ w1 e1, dp_of b _ _ _ _ w2 e2, hh.1, hh.2, hQ _ atom_bl⟩
    · cases hz
  · cases hz
theorem oa_neD (hu : X.A.units + 64 < cLine) : OpA X (compareOp .NotEq) (gEqD not) := by
  refine ⟨_, op_neD hu, fun B H v u d e z Q b ⟨F, w1⟩ ⟨G, w2⟩ hz hQ => ?_⟩
  unfold gEqD at hz
  split at hz
  · rename_i p q e1 e2
    split at hz
    · rename_i hh
      cases hz
      exact ⟨p, q, dp_of b _ _ _ _ w1 e1, dp_of b _ _ _ _ w2 e2, hh.1, hh.2, hQ _ atom_bl⟩
    · cases hz
  · cases hz
/-- repr(x) -/
theorem cr_repr (hg : X.A.guards = some []) (hu : X.A.units + 100 < cLine) : CallR X (.builtin "repr") (fun xs H Q => ∃ x p, xs = [x] ∧ (∃ a, x = .ref a) ∧ Dp X.K H x p ∧ p.showable = true ∧ p.hasDict = false ∧ p.depth ≤ 90 ∧ p.shown.length ≤ sizeLine ∧ Q (.str p.shown) H) := by
  intro pins s st H xs us Q I r h
  obtain ⟨x, p, rfl, ⟨a, rfl⟩, hd, h1, h2, h3, h4, q⟩ := h
  obtain ⟨u, rfl, ru⟩ := vals1 r
  obtain ⟨as, rd⟩ := Dp.reads I p _ u hd ru
  cases ru
  exact repr_of_reads' rd h1 (fun z => by rw [h2] at z; cases z) hg (by omega) (fun _ _ e => e) (fun h' u tk k => ⟨.str p.shown, H, I.kept k, ⟨_, rfl⟩, q⟩) h4
def isRf : D → Bool
  | .tup _ => true
  | .txs _ => true
  | .lst _ _ => true
  | _ => false
def gRepr : List D → Option D
  | [x] => match toPy x with
    | some p => if isRf x = true ∧ p.showable = true ∧ p.hasDict = false ∧ p.depth ≤ 90 ∧ p.shown.length ≤ sizeLine then some (.str p.shown) else none
    | none => none
  | _ => none
theorem oc_repr (hg : X.A.guards = some []) (hu : X.A.units + 100 < cLine) : OpC X (.builtin "repr") gRepr := by
  refine ⟨_, cr_repr hg hu, fun B H vs ds z Q b w hz hQ => ?_⟩
  unfold gRepr at hz
  split at hz
  · rename_i x
    obtain ⟨v, e1, w1⟩ := vws1 w; subst e1
    split at hz
    · rename_i p e2
      split at hz
      · rename_i hh
        cases hz
        obtain ⟨F, w2⟩ := w1
        have hr : ∃ a, v = .ref a := by
          cases x with
          | tup xs => cases w2; exact ⟨_, rfl⟩
          | txs xs => cases w2; exact ⟨_, rfl⟩
          | lst o xs => cases w2 <;> exact ⟨_, rfl⟩
          | _ => exact absurd hh.1 (by simp [isRf])
        exact ⟨v, p, rfl, hr, dp_of b _ _ _ _ w2 e2, hh.2.1, hh.2.2.1, hh.2.2.2.1, hh.2.2.2.2, hQ _ (.str _)⟩
      · cases hz
    · cases hz
  · cases hz
end
end FM

set_option Elab.async false
set_option linter.all false
set_option maxRecDepth 100000
namespace FM
open PySem PySem.Spec PyProof.Rows L2
section
variable {K : PySem.W.Frag} {mg : Str → Option Value} {fx : Fx} {st : L2.St} {r : DEnv} {ts us : List (V × D)} {B H : Hp} {col : Col}
theorem zip_fst : ∀ {vs : List V} {zs : List D}, vs.length = zs.length → ((vs.zip zs).map (·.1)) = vs ∧ ((vs.zip zs).map (·.2)) = zs
  | [], [], _ => ⟨rfl, rfl⟩
  | [], _ :: _, h => by simp at h
  | _ :: _, [], h => by simp at h
  | v :: vs, z :: zs, h => by
    obtain ⟨a, b⟩ := zip_fst (vs := vs) (zs := zs) (by simpa using h)
    exact ⟨by simp [a], by simp [b]⟩
theorem SR.pushAll (s : SR K mg fx st r ts B H col) : ∀ {vs : List V} {zs : List D}, Rels K mg B H vs zs [] → SR K mg fx st r (ts ++ vs.zip zs) B H col := fun {vs zs} h => by
  refine ⟨s.slot, fun k v d e => ?_, s.bh, s.b0, s.frame, s.stay, s.new, s.grow, s.nb, s.th, s.io, s.len⟩
  by_cases hk : k < ts.length
  · exact s.temp k v d (by rw [List.getElem?_append_left hk] at e; exact e)
  · rw [List.getElem?_append_right (by omega)] at e
    have h1 : vs[k - ts.length]? = some v ∧ zs[k - ts.length]? = some d := by
      rw [List.getElem?_zip_eq_some] at e; exact e
    obtain ⟨v', G, e1, rr, m, _⟩ := h.get h1.2
    rw [h1.1] at e1; cases e1
    have : G = [] := List.eq_nil_iff_forall_not_mem.mpr fun a ha => nomatch m a ha
    subst this
    exact ⟨[], rr, List.nodup_nil, fun _ z => nomatch z⟩
theorem SR.newT (s : SR K mg fx st r ts B H col) {vs : List V} {zs : List D} (h : Rels K mg B H vs zs []) {p : Addr} (hp : H p = none) : ∃ B' col', Same B B' ∧ SR K mg fx st r (ts ++ [(.ref p, .tup zs)]) B' (upd H p (.tup vs)) col' := by
  have s1 := s.pushAll h
  obtain ⟨a, b⟩ := zip_fst h.length
  obtain ⟨s2, sb⟩ := s1.tuple hp
  rw [a, b] at s2
  rw [a] at sb
  exact ⟨_, _, sb, s2⟩
theorem SR.newL (s : SR K mg fx st r ts B H col) {vs : List V} {zs : List D} (h : Rels K mg B H vs zs []) {p : Addr} (hp : H p = none) : ∃ col', SR K mg fx st r (ts ++ [(.ref p, .lst true zs)]) B (upd H p (.lst vs)) col' := by
  have s1 := s.pushAll h
  obtain ⟨a, b⟩ := zip_fst h.length
  have s2 := s1.list hp
  rw [a, b] at s2
  exact ⟨_, s2⟩
end
/-- the ways in which an operation answers: a thing at hand, a new list, a new tuple -/
structure Ans (K : PySem.W.Frag) (mg : Str → Option Value) (B H : Hp) (z : D) (Q : VK) : Prop where
  old : ∀ w, Rel K mg B H w z [] → Q w H
  lst : ∀ zs vs p, z = .lst true zs → Rels K mg B H vs zs [] → H p = none → Q (.ref p) (upd H p (.lst vs))
  tup : ∀ zs vs p, z = .tup zs → Rels K mg B H vs zs [] → H p = none → Q (.ref p) (upd H p (.tup vs))
section
variable {X : Cx} {g : Gd}
theorem SR.ans {K : PySem.W.Frag} {mg : Str → Option Value} {fx : Fx} {st : L2.St} {r : DEnv} {ts : List (V × D)} {B0 B H0 H : Hp} {col : Col} {q : Bool} {z : D} {Q : VK} (s : SR K mg fx st r ts B H col) (sB : Same B0 B) (sH : q = true → Same H0 H)
    (hQ : ∀ v B' H' col', Same B0 B' → (q = true → Same H0 H') → SR K mg fx st r (ts ++ [(v, z)]) B' H' col' → Q v H') : Ans K mg B H z Q where
  old := fun w h => hQ w B H col sB sH (s.push h)
  lst := fun zs vs p e h hp => by
    subst e
    obtain ⟨c, s2⟩ := s.newL h hp
    exact hQ _ _ _ c sB (fun q => (sH q).trans (same_new hp)) s2
  tup := fun zs vs p e h hp => by
    subst e
    obtain ⟨B', c, sb, s2⟩ := s.newT h hp
    exact hQ _ _ _ c (sB.trans sb) (fun q => (sH q).trans (same_new hp)) s2
def OpAN (X : Cx) (f : Value → Value → Sem Value) (gg : D → D → Option D) : Prop :=
  ∃ r : R2, OpR X f r ∧ ∀ (B H : Hp) (v u : V) (d e z : D) (Q : VK), Same B H → View X.K X.mg B H v d → View X.K X.mg B H u e → gg d e = some z → Ans X.K X.mg B H z Q → r v u H Q
theorem OpA.an {f : Value → Value → Sem Value} {gg : D → D → Option D} (h : OpA X f gg) : OpAN X f gg := by
  obtain ⟨r, o, k⟩ := h
  exact ⟨r, o, fun B H v u d e z Q b w1 w2 hz a => k B H v u d e z Q b w1 w2 hz fun w hw => a.old w (hw B H)⟩
def OpCN (X : Cx) (f : Value) (gg : List D → Option D) : Prop :=
  ∃ r : List V → Hp → VK → Prop, CallR X f r ∧ ∀ (B H : Hp) (vs : List V) (ds : List D) (z : D) (Q : VK), Same B H → Vws X.K X.mg B H vs ds → gg ds = some z → Ans X.K X.mg B H z Q → r vs H Q
theorem se_binN {a b : Expr} {qa : Bool} {ta tb : DE} {op : Operator} {gg : D → D → Option D} {pos : Pos} (ho : OpAN X (binaryOp op) gg) (ha : SB X g qa a ta) (hb : SB X g true b tb) : SE X g qa (.BinOp a op b pos) (dOp gg ta tb) := by
  obtain ⟨rr, pr, kr⟩ := ho
  obtain ⟨te, pe, ka⟩ := ha.run
  obtain ⟨te2, pe2, kb⟩ := hb.run
  refine ⟨_, pe_op pr pe pe2, fun fx st r ts B H col Qd Xd Q ok s ht hQ => ?_⟩
  refine ka fx st r ts B H col _ Xd _ ok s ht fun v d r1 B1 H1 c1 h1 sB sH s1 w1 => ?_
  refine kb fx st r1 ts B1 H1 c1 _ Xd _ ok s1 h1 fun u e r2 B2 H2 c2 h2 sB2 sH2 s2 w2 => ?_
  obtain ⟨z, ez, hz⟩ := got_cases h2
  exact kr B2 H2 v u d e z Q s2.bh (w1.mono sB2 (sH2 rfl)) w2 ez (s2.ans (sB.trans sB2) (fun q => (sH q).trans (sH2 rfl)) fun v B' H' c' a b s' => hQ v z r2 B' H' c' hz a b s')
theorem se_binNS {a b : Expr} {qa qb : Bool} {ta tb : DE} {op : Operator} {gg : D → D → Option D} {pos : Pos} (ho : OpAN X (binaryOp op) gg) (ha : SB X g qa a ta) (hb : SB X g qb b tb) : SE X g (qa && qb) (.BinOp a op b pos) (dOpS gg ta tb) := by
  obtain ⟨rr, pr, kr⟩ := ho
  obtain ⟨te, pe, ka⟩ := ha.run
  obtain ⟨te2, pe2, kb⟩ := hb.run
  refine ⟨_, pe_op pr pe pe2, fun fx st r ts B H col Qd Xd Q ok s ht hQ => ?_⟩
  refine ka fx st r ts B H col _ Xd _ ok s ht fun v d r1 B1 H1 c1 ⟨hs, h1⟩ sB sH s1 w1 => ?_
  refine kb fx st r1 ts B1 H1 c1 _ Xd _ ok s1 h1 fun u e r2 B2 H2 c2 h2 sB2 sH2 s2 w2 => ?_
  obtain ⟨z, ez, hz⟩ := got_cases h2
  exact kr B2 H2 v u d e z Q s2.bh (w1.mono' sB2 hs) w2 ez (s2.ans (sB.trans sB2) (fun q => by
    simp only [Bool.and_eq_true] at q
    exact (sH q.1).trans (sH2 q.2)) fun v B' H' c' a b s' => hQ v z r2 B' H' c' hz a b s')
theorem se_callBN {q : Bool} {e : Expr} {es : List Expr} {u : DA} {gg : List D → Option D} {id : String} {x : Str} {p pos : Pos} (ho : OpCN X (.builtin id) gg) (hg : Gl X x) (hm : X.mg x = none) (hv : bootBuiltins x = some (.builtin id)) (ha : SL X g q (e :: es) u)
    (hn : x ≠ "__name__" := by decide) (hdb : (x == ("__debug__" : Str)) = false := by decide) (he : starEach (e :: es) X.env = (false, eval e X.env) :: starEach es X.env := by rfl) (hpl : (backTo pos (starEach es X.env)).any (·.1) = false := by rfl) :
    SE X g q (.Call (.Name x p) (e :: es) [] pos) (dCl gg u) := by
  obtain ⟨rr, pr, kr⟩ := ho
  obtain ⟨te, pe, ka⟩ := ha.run
  refine ⟨_, pe_callB pr hg hm hv pe hn hdb he hpl, fun fx st r ts B H col Qd Xd Q ok s ht hQ => ?_⟩
  refine ka fx st r ts B H col _ Xd _ ok s ht fun vs ds r1 B1 H1 c1 h1 sB sH s1 w1 => ?_
  obtain ⟨z, ez, hz⟩ := got_cases h1
  exact kr B1 H1 vs ds z Q s1.bh w1 ez (s1.ans sB sH fun v B' H' c' a b s' => hQ v z r1 B' H' c' hz a b s')
theorem se_callTyN {q : Bool} {e : Expr} {es : List Expr} {u : DA} {gg : List D → Option D} {T : String} {x : Str} {p pos : Pos} (ho : OpCN X (.type T) gg) (hg : Gl X x) (hm : X.mg x = none) (hv : bootBuiltins x = some (.type T)) (ha : SL X g q (e :: es) u)
    (hn : x ≠ "__name__" := by decide) (hdb : (x == ("__debug__" : Str)) = false := by decide) (he : starEach (e :: es) X.env = (false, eval e X.env) :: starEach es X.env := by rfl) (hpl : (backTo pos (starEach es X.env)).any (·.1) = false := by rfl) :
    SE X g q (.Call (.Name x p) (e :: es) [] pos) (dCl gg u) := by
  obtain ⟨rr, pr, kr⟩ := ho
  obtain ⟨te, pe, ka⟩ := ha.run
  refine ⟨_, pe_callTy pr hg hm hv pe hn hdb he hpl, fun fx st r ts B H col Qd Xd Q ok s ht hQ => ?_⟩
  refine ka fx st r ts B H col _ Xd _ ok s ht fun vs ds r1 B1 H1 c1 h1 sB sH s1 w1 => ?_
  obtain ⟨z, ez, hz⟩ := got_cases h1
  exact kr B1 H1 vs ds z Q s1.bh w1 ez (s1.ans sB sH fun v B' H' c' a b s' => hQ v z r1 B' H' c' hz a b s')

/-! ### stable items of what is seen -/
theorem Rels.stable {K : PySem.W.Frag} {mg : Str → Option Value} {B H : Hp} {vs : List V} {ds : List D} {F : List Addr} (r : Rels K mg B H vs ds F) (s : stbL ds = true) : Rels K mg B H vs ds [] := by
  have := r.stbF _ _ _ s; subst this; exact r

/-! ### t + u, xs + ys, t * n, xs * n -/
def gCatT : D → D → Option D
  | .tup xs, .tup ys => if stbL xs = true ∧ stbL ys = true ∧ xs.length + ys.length ≤ sizeLine then some (.tup (xs ++ ys)) else none
  | _, _ => none
def rCatA (K : PySem.W.Frag) : R2 := fun x y H Q => ∃ a b xs ys, x = .ref a ∧ y = .ref b ∧ SqT K H a xs ∧ SqT K H b ys ∧ xs.length + ys.length ≤ sizeLine ∧
  (xs = [] → Q (.ref b) H) ∧ (xs ≠ [] → ys = [] → Q (.ref a) H) ∧ (xs ≠ [] → ys ≠ [] → ∀ p, H p = none → Q (.ref p) (upd H p (.tup (xs ++ ys))))
theorem op_catA : OpR X (binaryOp .Add) (rCatA X.K) := by
  intro pins s st H x y v u Q I rx ry h
  obtain ⟨a, b, xs, ys, rfl, rfl, ha, hb, hz, q0, q1, q2⟩ := h
  cases rx
  cases ry
  obtain ⟨its, r1, p1, _⟩ := I.tuple ha
  obtain ⟨its2, r2, p2, _⟩ := I.tuple hb
  by_cases hx : xs = []
  · have e1 : its = [] := r1.nil_iff.mpr hx
    subst e1
    obtain ⟨⟨cls, dd, data, sl⟩, ho, hc, n, hd⟩ := id p1
    obtain ⟨⟨cls2, dd2, data2, sl2⟩, ho2, hc2, n2, hd2⟩ := id p2
    simp only at hc hd hc2 hd2
    subst hc hd hc2 hd2
    exact concat_meets ⟨_, ho, rfl⟩ ⟨_, ho2, rfl⟩ noFill_tuple_add seq_tuple_add PySem.F.slot_tuple_add PySem.F.entry_tuple_add (PySem.F.args_tuple_add_2 _ _)
      (tuple_addW0 a b _ _ n n2 dd dd2 sl sl2 (by simp)) ⟨ho, ho2, ⟨.ref b, H, I, rfl, q0 hx⟩⟩
  · exact op_catT pins s st H (.ref a) (.ref b) (.ref a) (.ref b) Q I rfl rfl ⟨a, b, xs, ys, rfl, rfl, ha, hb, hx, hz, q1 hx, q2 hx⟩
theorem on_catT : OpAN X (binaryOp .Add) gCatT := by
  refine ⟨_, op_catA, fun B H v u d e z Q b w1 w2 hz A => ?_⟩
  unfold gCatT at hz
  split at hz
  · rename_i xs ys
    split at hz
    · rename_i hh
      cases hz
      obtain ⟨a, vs, F, rfl, h1, r1⟩ := w1.tup b
      obtain ⟨a2, vs2, F2, rfl, h2, r2⟩ := w2.tup b
      have s1 := r1.stable hh.1
      have s2 := r2.stable hh.2.1
      have rr : Rels X.K X.mg B H (vs ++ vs2) (xs ++ ys) [] := s1.append s2
      refine ⟨a, a2, vs, vs2, rfl, rfl, h1, h2, by rw [r1.length, r2.length]; exact hh.2.2, fun e => ?_, fun _ e => ?_, fun _ _ p hp => A.tup _ _ p rfl rr hp⟩
      · subst e
        have : xs = [] := by cases r1; rfl
        subst this
        exact A.old _ (w2.stable (by simp only [stb]; exact hh.2.1))
      · subst e
        have : ys = [] := by cases r2; rfl
        subst this
        rw [List.append_nil] at A
        exact A.old _ (w1.stable (by simp only [stb]; exact hh.1))
    · cases hz
  · cases hz
def gCatL : D → D → Option D
  | .lst _ xs, .lst _ ys => if stbL xs = true ∧ stbL ys = true ∧ xs.length + ys.length ≤ sizeLine then some (.lst true (xs ++ ys)) else none
  | _, _ => none
theorem on_catL : OpAN X (binaryOp .Add) gCatL := by
  refine ⟨_, op_cat, fun B H v u d e z Q b w1 w2 hz A => ?_⟩
  unfold gCatL at hz
  split at hz
  · split at hz
    · rename_i hh
      cases hz
      obtain ⟨a, vs, F, rfl, h1, r1⟩ := w1.lst b
      obtain ⟨a2, vs2, F2, rfl, h2, r2⟩ := w2.lst b
      exact ⟨a, a2, vs, vs2, rfl, rfl, h1, h2, by rw [r1.length, r2.length]; exact hh.2.2, fun p hp => A.lst _ _ p rfl ((r1.stable hh.1).append (r2.stable hh.2.1)) hp⟩
    · cases hz
  · cases hz
def repD (n : Nat) (xs : List D) : List D := (List.replicate n xs).flatten
theorem rels_rep {K : PySem.W.Frag} {mg : Str → Option Value} {B H : Hp} {vs : List V} {xs : List D} (r : Rels K mg B H vs xs []) : ∀ n, Rels K mg B H (List.replicate n vs).flatten (repD n xs) []
  | 0 => .nil
  | n + 1 => by
    unfold repD
    rw [List.replicate_succ, List.flatten_cons, List.replicate_succ, List.flatten_cons]
    exact r.append (rels_rep r n)
def gRepL : D → D → Option D
  | .lst _ xs, .int k => if stbL xs = true ∧ -(2 ^ 63) ≤ k ∧ k < 2 ^ 63 ∧ xs.length * k.toNat ≤ sizeLine then some (.lst true (repD k.toNat xs)) else none
  | _, _ => none
theorem on_repL : OpAN X (binaryOp .Mult) gRepL := by
  refine ⟨_, op_rep, fun B H v u d e z Q b w1 w2 hz A => ?_⟩
  unfold gRepL at hz
  split at hz
  · split at hz
    · rename_i hh
      cases hz
      obtain ⟨a, vs, F, rfl, h1, r1⟩ := w1.lst b
      exact ⟨a, _, vs, rfl, view_int w2, h1, hh.2.1, hh.2.2.1, by rw [r1.length]; exact hh.2.2.2, fun p hp => A.lst _ _ p rfl (rels_rep (r1.stable hh.1) _) hp⟩
    · cases hz
  · cases hz

/-! ### a[i:j] -/
def cutD (xs : List D) (lo hi : Option Int) : List D := (xs.drop (HT.sIx xs.length 0 lo)).take (HT.sIx xs.length xs.length hi - HT.sIx xs.length 0 lo)
theorem Rels.cut {K : PySem.W.Frag} {mg : Str → Option Value} {B H : Hp} : ∀ {vs : List V} {xs : List D} (n m : Nat), Rels K mg B H vs xs [] → Rels K mg B H ((vs.drop n).take m) ((xs.drop n).take m) []
  | _, [], n, m, h => by
    cases h
    simp only [List.drop_nil, List.take_nil]
    exact .nil
  | _, x :: xs, n, m, h => by
    generalize hF : ([] : List Addr) = F0 at h
    cases h with
    | cons h1 h2 =>
      obtain ⟨rfl, rfl⟩ := List.append_eq_nil_iff.mp hF.symm
      cases n with
      | zero =>
        cases m with
        | zero => exact .nil
        | succ m =>
          have := Rels.cut 0 m h2
          simp only [List.drop_zero, List.take_succ_cons] at this ⊢
          exact .cons (F := []) (G := []) h1 this
      | succ n => exact Rels.cut n m h2
abbrev DO := DEnv → (Option Int → DEnv → Prop) → XP → Prop
structure SO (X : Cx) (g : Gd) (e : Option Expr) (t : DO) : Prop where
  run : ∃ to : TO, PO X e to ∧ ∀ (fx : Fx) (st : L2.St) (r : DEnv) (ts : List (V × D)) (B H : Hp) (col : Col) (Qd : Option Int → DEnv → Prop) (Xd : XP) (Q : Option Int → Hp → Prop), g.Ok X fx Xd → SR X.K X.mg fx st r ts B H col → t r Qd Xd →
    (∀ o r' B' H' col', Qd o r' → Same B B' → Same H H' → SR X.K X.mg fx st r' ts B' H' col' → Q o H') → to st H Q
def doNone : DO := fun r Q _ => Q none r
def doSome (t : DE) : DO := fun r Q X => t r (fun d r1 => got (asI d) fun i => Q (some i) r1) X
theorem so_none : SO X g none doNone := ⟨_, po_none, fun fx st r ts B H col Qd Xd Q ok s ht hQ => hQ none r B H col ht (Same.refl _) (Same.refl _) s⟩
theorem so_some {e : Expr} {t : DE} (h : SB X g true e t) : SO X g (some e) (doSome t) := by
  obtain ⟨te, pe, k⟩ := h.run
  refine ⟨_, po_some pe, fun fx st r ts B H col Qd Xd Q ok s ht hQ => ?_⟩
  refine k fx st r ts B H col _ Xd _ ok s ht fun v d r1 B1 H1 c1 h1 sB sH s1 w1 => ?_
  obtain ⟨i, e1, h2⟩ := got_cases h1
  have := asI_some e1; subst this
  exact ⟨i, view_int w1, hQ (some i) r1 B1 H1 c1 h2 sB (sH rfl) s1⟩
def gSl (x : D) (lo hi : Option Int) : Option D := match x with
  | .tup xs => if stbL xs = true then some (.tup (cutD xs lo hi)) else none
  | .lst _ xs => if stbL xs = true then some (.lst true (cutD xs lo hi)) else none
  | .str z => if z.length ≤ sizeLine then some (.str (cutS z lo hi)) else none
  | .scr ns => some (.lst true (cutD (ns.map D.int) lo hi))
  | _ => none
/-- the whole of a tuple is the tuple itself -/
def rSlW (K : PySem.W.Frag) : V → Option Int → Option Int → Hp → VK → Prop := fun x lo hi H Q => ∃ a xs, x = .ref a ∧ SqT K H a xs ∧ (HT.sIx xs.length 0 lo = 0 ∧ HT.sIx xs.length xs.length hi = xs.length) ∧ Q (.ref a) H
theorem cutD_whole {xs : List D} {lo hi : Option Int} (h : HT.sIx xs.length 0 lo = 0 ∧ HT.sIx xs.length xs.length hi = xs.length) : cutD xs lo hi = xs := by
  unfold cutD
  rw [h.1, h.2, List.drop_zero, Nat.sub_zero, List.take_length]
theorem rels_ints {K : PySem.W.Frag} {mg : Str → Option Value} {B H : Hp} : ∀ ns : List Int, Rels K mg B H (ns.map V.int) (ns.map D.int) []
  | [] => .nil
  | n :: ns => .cons (F := []) (G := []) (.int n) (rels_ints ns)
end
end FM

set_option Elab.async false
set_option linter.all false
set_option maxRecDepth 100000
namespace FM
open PySem PySem.Spec PyProof.Rows L2
section
variable {X : Cx} {g : Gd}
/-! ### a[i:j], the rule -/
abbrev rSlD (K : PySem.W.Frag) : V → Option Int → Option Int → Hp → VK → Prop := fun x lo hi H Q => rSlA K x lo hi H Q ∨ (rSlL K x lo hi H Q ∨ rSlS x lo hi H Q)
theorem sl_D : SlR X (rSlD X.K) := SlR.or sl_tupA (SlR.or sl_list sl_str)
theorem sl_ans {B H : Hp} {v : V} {d z : D} {lo hi : Option Int} {Q : VK} (b : Same B H) (w : View X.K X.mg B H v d) (hz : gSl d lo hi = some z) (A : Ans X.K X.mg B H z Q) : rSlD X.K v lo hi H Q := by
  unfold gSl at hz
  split at hz
  · rename_i xs
    split at hz
    · rename_i hh
      cases hz
      obtain ⟨a, vs, F, rfl, h1, r1⟩ := w.tup b
      have r2 := r1.stable hh
      refine .inl ⟨a, vs, rfl, h1, fun hw => ?_, fun hw p hp => A.tup _ _ p rfl ?_ hp⟩
      · refine A.old _ ?_
        rw [r1.length] at hw
        rw [cutD_whole hw]
        exact w.stable (by simp only [stb]; exact hh)
      · unfold cutV cutD
        rw [r1.length]
        exact r2.cut _ _
    · cases hz
  · rename_i o xs
    split at hz
    · rename_i hh
      cases hz
      obtain ⟨a, vs, F, rfl, h1, r1⟩ := w.lst b
      have r2 := r1.stable hh
      refine .inr (.inl ⟨a, vs, rfl, .inl (.inl h1), fun p hp => A.lst _ _ p rfl ?_ hp⟩)
      unfold cutV cutD
      rw [r1.length]
      exact r2.cut _ _
    · cases hz
  · rename_i x
    split at hz
    · rename_i hh
      cases hz
      have := view_str w; subst this
      exact .inr (.inr ⟨x, rfl, hh, A.old _ (.str _)⟩)
    · cases hz
  · rename_i ns
    cases hz
    obtain ⟨F, w⟩ := w
    cases w with
    | scr h =>
      refine .inr (.inl ⟨_, _, rfl, sqL_mono b h, fun p hp => A.lst _ _ p rfl ?_ hp⟩)
      have := (rels_ints (K := X.K) (mg := X.mg) (B := B) (H := H) ns)
      unfold cutV cutD
      rw [List.length_map, List.length_map]
      exact this.cut _ _
  · cases hz
def dSl (te : DE) (tl th : DO) : DE := fun r Q X => te r (fun x r1 => tl r1 (fun a r2 => th r2 (fun b r3 => got (gSl x a b) fun z => Q z r3) X) X) X
theorem se_slice {a : Expr} {lo hi : Option Expr} {q : Bool} {ta : DE} {tl th : DO} {p2 pos : Pos} (ha : SB X g q a ta) (hl : SO X g lo tl) (hh : SO X g hi th) : SE X g q (.Subscript a (.Slice lo hi none p2) pos) (dSl ta tl th) := by
  obtain ⟨te, pe, ka⟩ := ha.run
  obtain ⟨to1, po1, kl⟩ := hl.run
  obtain ⟨to2, po2, kh⟩ := hh.run
  refine ⟨_, pe_slice sl_D pe po1 po2, fun fx st r ts B H col Qd Xd Q ok s ht hQ => ?_⟩
  refine ka fx st r ts B H col _ Xd _ ok s ht fun v d r1 B1 H1 c1 h1 sB sH s1 w1 => ?_
  refine kl fx st r1 ts B1 H1 c1 _ Xd _ ok s1 h1 fun o1 r2 B2 H2 c2 h2 sB2 sH2 s2 => ?_
  refine kh fx st r2 ts B2 H2 c2 _ Xd _ ok s2 h2 fun o2 r3 B3 H3 c3 h3 sB3 sH3 s3 => ?_
  obtain ⟨z, ez, hz⟩ := got_cases h3
  exact sl_ans s3.bh (w1.mono (sB2.trans sB3) (sH2.trans sH3)) ez (s3.ans (sB.trans (sB2.trans sB3)) (fun q => (sH q).trans (sH2.trans sH3)) fun v B' H' c' a b s' => hQ v z r3 B' H' c' hz a b s')

/-! ### tuple * int -/
def gRepT : D → D → Option D
  | .tup xs, .int k => if stbL xs = true ∧ xs ≠ [] ∧ 2 ≤ k ∧ k ≤ 1000 ∧ xs.length ≤ 1000 then some (.tup (repD k.toNat xs)) else none
  | _, _ => none
theorem on_repT : OpAN X (binaryOp .Mult) gRepT := by
  refine ⟨_, op_repT, fun B H v u d e z Q b w1 w2 hz A => ?_⟩
  unfold gRepT at hz
  split at hz
  · split at hz
    · rename_i hh
      cases hz
      obtain ⟨a, vs, F, rfl, h1, r1⟩ := w1.tup b
      refine ⟨a, _, vs, rfl, view_int w2, h1, fun z => hh.2.1 ?_, hh.2.2.1, hh.2.2.2.1, by rw [r1.length]; exact hh.2.2.2.2, fun p hp => A.tup _ _ p rfl (rels_rep (r1.stable hh.1) _) hp⟩
      subst z
      cases r1; rfl
    · cases hz
  · cases hz

/-! ### lists of ints, lists of texts -/
def intsOf : List D → Option (List Int)
  | [] => some []
  | .int i :: xs => (intsOf xs).map (i :: ·)
  | _ :: _ => none
def strsOf : List D → Option (List Str)
  | [] => some []
  | .str i :: xs => (strsOf xs).map (i :: ·)
  | _ :: _ => none
theorem rels_intsOf {K : PySem.W.Frag} {mg : Str → Option Value} {B H : Hp} : ∀ {vs : List V} {ds : List D} {F : List Addr} {ns : List Int}, Rels K mg B H vs ds F → intsOf ds = some ns → vs = ns.map V.int ∧ ds = ns.map D.int
  | _, [], _, _, h, e => by cases h; cases e; exact ⟨rfl, rfl⟩
  | _, d :: ds, _, ns, h, e => by
    cases h with
    | cons h1 h2 =>
      cases d <;> simp only [intsOf] at e <;> try (cases e; done)
      obtain ⟨ms, e1, e2⟩ := Option.map_eq_some_iff.mp e
      subst e2
      obtain ⟨a, b⟩ := rels_intsOf h2 e1
      cases h1
      exact ⟨by rw [a]; rfl, by rw [b]; rfl⟩
theorem rels_strsOf {K : PySem.W.Frag} {mg : Str → Option Value} {B H : Hp} : ∀ {vs : List V} {ds : List D} {F : List Addr} {ns : List Str}, Rels K mg B H vs ds F → strsOf ds = some ns → vs = ns.map V.str ∧ ds = ns.map D.str
  | _, [], _, _, h, e => by cases h; cases e; exact ⟨rfl, rfl⟩
  | _, d :: ds, _, ns, h, e => by
    cases h with
    | cons h1 h2 =>
      cases d <;> simp only [strsOf] at e <;> try (cases e; done)
      obtain ⟨ms, e1, e2⟩ := Option.map_eq_some_iff.mp e
      subst e2
      obtain ⟨a, b⟩ := rels_strsOf h2 e1
      cases h1
      exact ⟨by rw [a]; rfl, by rw [b]; rfl⟩
theorem rels_strs {K : PySem.W.Frag} {mg : Str → Option Value} {B H : Hp} : ∀ ns : List Str, Rels K mg B H (ns.map V.str) (ns.map D.str) []
  | [] => .nil
  | n :: ns => .cons (F := []) (G := []) (.str n) (rels_strs ns)

/-! ### sum, max, min of lists of ints -/
def gSum : List D → Option D
  | [.lst _ xs] => (intsOf xs).map fun ns => .int ns.sum
  | _ => none
theorem oc_sum (hc : X.calm = true := by rfl) : OpC X (.builtin "sum") gSum := by
  refine ⟨_, cr_sum hc, fun B H vs ds z Q b w hz hQ => ?_⟩
  unfold gSum at hz
  split at hz
  · obtain ⟨ns, e1, e2⟩ := Option.map_eq_some_iff.mp hz
    subst e2
    obtain ⟨v, ev, w1⟩ := vws1 w; subst ev
    obtain ⟨a, vs, F, rfl, h, r⟩ := w1.lst b
    obtain ⟨rfl, _⟩ := rels_intsOf r e1
    exact ⟨a, ns, rfl, .inl (.inl h), hQ _ (.int _)⟩
  · cases hz
def maxL : Int → List Int → Int
  | m, [] => m
  | m, x :: xs => maxL (if m < x then x else m) xs
def minL : Int → List Int → Int
  | m, [] => m
  | m, x :: xs => minL (if x < m then x else m) xs
theorem maxL_spec : ∀ (xs : List Int) (m : Int), maxL m xs ∈ m :: xs ∧ ∀ y ∈ m :: xs, y ≤ maxL m xs
  | [], m => ⟨List.mem_singleton.mpr rfl, fun y h => by rw [List.mem_singleton.mp h]; exact Int.le_refl _⟩
  | x :: xs, m => by
    obtain ⟨h1, h2⟩ := maxL_spec xs (if m < x then x else m)
    have hm : (if m < x then x else m) ≤ maxL (if m < x then x else m) xs := h2 _ (List.mem_cons_self ..)
    refine ⟨?_, fun y hy => ?_⟩
    · show maxL (if m < x then x else m) xs ∈ _
      rcases List.mem_cons.mp h1 with e | e
      · rw [e]
        split
        · exact List.mem_cons_of_mem _ (List.mem_cons_self ..)
        · exact List.mem_cons_self ..
      · exact List.mem_cons_of_mem _ (List.mem_cons_of_mem _ e)
    · show y ≤ maxL (if m < x then x else m) xs
      rcases List.mem_cons.mp hy with e | hy
      · subst e; refine Int.le_trans ?_ hm; split <;> omega
      · rcases List.mem_cons.mp hy with e | hy
        · subst e; refine Int.le_trans ?_ hm; split <;> omega
        · exact h2 _ (List.mem_cons_of_mem _ hy)
theorem minL_spec : ∀ (xs : List Int) (m : Int), minL m xs ∈ m :: xs ∧ ∀ y ∈ m :: xs, minL m xs ≤ y
  | [], m => ⟨List.mem_singleton.mpr rfl, fun y h => by rw [List.mem_singleton.mp h]; exact Int.le_refl _⟩
  | x :: xs, m => by
    obtain ⟨h1, h2⟩ := minL_spec xs (if x < m then x else m)
    have hm : minL (if x < m then x else m) xs ≤ (if x < m then x else m) := h2 _ (List.mem_cons_self ..)
    refine ⟨?_, fun y hy => ?_⟩
    · show minL (if x < m then x else m) xs ∈ _
      rcases List.mem_cons.mp h1 with e | e
      · rw [e]
        split
        · exact List.mem_cons_of_mem _ (List.mem_cons_self ..)
        · exact List.mem_cons_self ..
      · exact List.mem_cons_of_mem _ (List.mem_cons_of_mem _ e)
    · show minL (if x < m then x else m) xs ≤ y
      rcases List.mem_cons.mp hy with e | hy
      · subst e; refine Int.le_trans hm ?_; split <;> omega
      · rcases List.mem_cons.mp hy with e | hy
        · subst e; refine Int.le_trans hm ?_; split <;> omega
        · exact h2 _ (List.mem_cons_of_mem _ hy)
def maxO : List Int → Option Int
  | [] => none
  | x :: xs => some (maxL x xs)
def minO : List Int → Option Int
  | [] => none
  | x :: xs => some (minL x xs)
def gMaxL : List D → Option D
  | [.lst _ xs] => (intsOf xs).bind fun ns => (maxO ns).map D.int
  | _ => none
def gMinL : List D → Option D
  | [.lst _ xs] => (intsOf xs).bind fun ns => (minO ns).map D.int
  | _ => none
theorem oc_maxL (hc : X.calm = true := by rfl) : OpC X (.builtin "max") gMaxL := by
  refine ⟨_, cr_max hc, fun B H vs ds z Q b w hz hQ => ?_⟩
  unfold gMaxL at hz
  split at hz
  · obtain ⟨ns, e1, e2⟩ := Option.bind_eq_some_iff.mp hz
    obtain ⟨m, e3, e4⟩ := Option.map_eq_some_iff.mp e2
    subst e4
    obtain ⟨v, ev, w1⟩ := vws1 w; subst ev
    obtain ⟨a, vs, F, rfl, h, r⟩ := w1.lst b
    obtain ⟨rfl, _⟩ := rels_intsOf r e1
    cases ns with
    | nil => cases e3
    | cons x xs =>
      cases e3
      obtain ⟨s1, s2⟩ := maxL_spec xs x
      refine ⟨a, _, rfl, .inl (.inl h), by simp, fun m hm h2 => ?_⟩
      have : m = maxL x xs := Int.le_antisymm (s2 m hm) (h2 _ s1)
      subst this
      exact hQ _ (.int _)
  · cases hz
theorem oc_minL (hc : X.calm = true := by rfl) : OpC X (.builtin "min") gMinL := by
  refine ⟨_, cr_min hc, fun B H vs ds z Q b w hz hQ => ?_⟩
  unfold gMinL at hz
  split at hz
  · obtain ⟨ns, e1, e2⟩ := Option.bind_eq_some_iff.mp hz
    obtain ⟨m, e3, e4⟩ := Option.map_eq_some_iff.mp e2
    subst e4
    obtain ⟨v, ev, w1⟩ := vws1 w; subst ev
    obtain ⟨a, vs, F, rfl, h, r⟩ := w1.lst b
    obtain ⟨rfl, _⟩ := rels_intsOf r e1
    cases ns with
    | nil => cases e3
    | cons x xs =>
      cases e3
      obtain ⟨s1, s2⟩ := minL_spec xs x
      refine ⟨a, _, rfl, .inl (.inl h), by simp, fun m hm h2 => ?_⟩
      have : m = minL x xs := Int.le_antisymm (h2 _ s1) (s2 m hm)
      subst this
      exact hQ _ (.int _)
  · cases hz
def gMax2 : List D → Option D
  | [.int i, .int j] => some (.int (if j > i then j else i))
  | _ => none
def gMin2 : List D → Option D
  | [.int i, .int j] => some (.int (if j < i then j else i))
  | _ => none
theorem oc_max2 (hc : X.calm = true := by rfl) : OpC X (.builtin "max") gMax2 := by
  refine ⟨_, call_max2 hc, fun B H vs ds z Q b w hz hQ => ?_⟩
  unfold gMax2 at hz
  split at hz
  · cases hz
    obtain ⟨v, u, ev, w1, w2⟩ := vws2 w; subst ev
    have := view_int w1; subst this
    have := view_int w2; subst this
    exact ⟨_, _, rfl, hQ _ (.int _)⟩
  · cases hz
theorem oc_min2 (hc : X.calm = true := by rfl) : OpC X (.builtin "min") gMin2 := by
  refine ⟨_, call_min2 hc, fun B H vs ds z Q b w hz hQ => ?_⟩
  unfold gMin2 at hz
  split at hz
  · cases hz
    obtain ⟨v, u, ev, w1, w2⟩ := vws2 w; subst ev
    have := view_int w1; subst this
    have := view_int w2; subst this
    exact ⟨_, _, rfl, hQ _ (.int _)⟩
  · cases hz

/-! ### list(x), tuple(x), sorted(x) -/
def gListOf : List D → Option D
  | [.tup xs] => if stbL xs = true then some (.lst true xs) else none
  | [.lst _ xs] => if stbL xs = true then some (.lst true xs) else none
  | _ => none
theorem on_listOf : OpCN X (.type "list") gListOf := by
  refine ⟨_, call_list_of, fun B H vs ds z Q b w hz A => ?_⟩
  unfold gListOf at hz
  split at hz
  · split at hz
    · rename_i hh
      cases hz
      obtain ⟨v, ev, w1⟩ := vws1 w; subst ev
      obtain ⟨a, vs, F, rfl, h, r⟩ := w1.tup b
      exact ⟨a, vs, rfl, .inr h, fun p hp => A.lst _ _ p rfl (r.stable hh) hp⟩
    · cases hz
  · split at hz
    · rename_i hh
      cases hz
      obtain ⟨v, ev, w1⟩ := vws1 w; subst ev
      obtain ⟨a, vs, F, rfl, h, r⟩ := w1.lst b
      exact ⟨a, vs, rfl, .inl (.inl (.inl h)), fun p hp => A.lst _ _ p rfl (r.stable hh) hp⟩
    · cases hz
  · cases hz
def gTupOf : List D → Option D
  | [.tup xs] => if stbL xs = true then some (.tup xs) else none
  | [.lst _ xs] => if stbL xs = true then some (.tup xs) else none
  | _ => none
theorem on_tupOf : OpCN X (.type "tuple") gTupOf := by
  refine ⟨_, call_tuple_of, fun B H vs ds z Q b w hz A => ?_⟩
  unfold gTupOf at hz
  split at hz
  · split at hz
    · rename_i hh
      cases hz
      obtain ⟨v, ev, w1⟩ := vws1 w; subst ev
      obtain ⟨a, vs, F, rfl, h, r⟩ := w1.tup b
      exact ⟨a, vs, rfl, .inr ⟨h, A.old _ (w1.stable (by simp only [stb]; exact hh))⟩⟩
    · cases hz
  · split at hz
    · rename_i hh
      cases hz
      obtain ⟨v, ev, w1⟩ := vws1 w; subst ev
      obtain ⟨a, vs, F, rfl, h, r⟩ := w1.lst b
      exact ⟨a, vs, rfl, .inl ⟨.inl (.inl h), fun p hp => A.tup _ _ p rfl (r.stable hh) hp⟩⟩
    · cases hz
  · cases hz
end
end FM

set_option Elab.async false
set_option linter.all false
set_option maxRecDepth 100000
/-! set(x) of a list or a tuple: ints, texts -/
namespace FM
open PySem PySem.Spec PyProof.Rows L2
def fset (w : World) : Obj := { cls := .type "set", dict := none, data := .set #[] 0 (.fresh 0 0 (!w.params.followText "set-order")) }
def IsSq (h : Heap) (T : String) (l : Addr) (xs : Array Value) : Prop := (T = "list" ∧ h.IsList l xs) ∨ (T = "tuple" ∧ h.IsTuple l xs)
/-- what the update of a fresh set by items leaves -/
def Fills (P : Program) (w : World) (xs : Array Value) (Post : Heap → Addr → Prop) : Prop :=
  ∀ (A : Around) (I S : Addr) (fp wr : List Addr) (G : Array GenState → Array GenState → Prop) (St : Nat → Shared → Prop) (s : Shared) (R : Result → Shared → Prop),
    WalksS P w A.in1 I fp wr G xs.size (fun i v => xs[i]? = some v) St → S ∉ fp → St 0 s → s.heap.get? S = some (fset w) →
    (∀ s1, Moved (S :: wr) G s s1 → Post s1.heap S → R (.ok (.ret .none)) s1) → codeAny (model P w) A (.builtin "set.update.loop" ⟨[.ref S, .ref I], []⟩) R s
section
variable {P : Program} {w : World} {A : Around} {E : Value → Shared → Prop} {s : Shared} {l : Addr} {T : String} {xs : Array Value} {Post : Heap → Addr → Prop}
/-- the update, from set.__init__ on -/
theorem fill_init {Q : PySem.Fin → Shared → Prop} (hh : A.handled = none) (a : Addr) (ha : s.heap.get? a = some (fset w)) (hne : a ≠ l) (hl : IsSq s.heap T l xs) (k : Fills P w xs Post)
    (hQ : ∀ (h1 : Heap) (tk : Nat), Post h1 a → (∀ b o, b ≠ a → s.heap.get? b = some o → h1.get? b = some o) → Q (.done (.ret .none)) { s with heap := h1, toks := tk }) :
    wpAny (model P w) A (Builtin.«set.__init__» ⟨[.ref a, .ref l], []⟩) Q E s := by
  have t1 : s.TypeIs (.ref a) "set" := ⟨_, ha, rfl⟩
  have go : ∀ (s2 : Shared) (I : Addr) (A2 : Around) (St : Nat → Shared → Prop), A2.handled = none → s2.heap.get? a = some (fset w) → St 0 s2 → I = s.heap.objs.size →
      (∀ b o, s.heap.get? b = some o → s2.heap.get? b = some o) → s2.gens = s.gens → s2.drawn = s.drawn → s2.os = s.os →
      WalksS P w A2.in1 I [I, l] [I] (fun x y => y = x) xs.size (fun i v => xs[i]? = some v) St →
      codeAny (model P w) A2 (.builtin "set.update.loop" ⟨[.ref a, .ref I], []⟩) (fun r s3 => r = .ok (.ret .none) ∧ ∃ h1 tk, s3 = { s with heap := h1, toks := tk } ∧ Post h1 a ∧ ∀ b o, b ≠ a → s.heap.get? b = some o → h1.get? b = some o) s2 := by
    intro s2 I A2 St hA2 ha2 st hI kp eg ed eo W
    subst hI
    have haI : a ≠ s.heap.objs.size := Nat.ne_of_lt (Heap.lt_size ha)
    refine k A2 _ a _ _ _ St s2 _ W (by simp [hne, haI]) st ha2 fun s1 hm hp => ⟨rfl, s1.heap, s1.toks, ?_, hp, fun b o hb e => ?_⟩
    · obtain ⟨h1, g1, d1, k1, o1⟩ := s1
      have q1 : g1 = s2.gens := hm.gens
      have q2 : d1 = s2.drawn := hm.drawn
      have q3 : o1 = s2.os := hm.os
      rw [eg] at q1; rw [ed] at q2; rw [eo] at q3
      subst q1 q2 q3
      rfl
    · have hb2 : b ≠ s.heap.objs.size := Nat.ne_of_lt (Heap.lt_size e)
      exact hm.heap b o (by simp [hb, hb2]) (kp b o e)
  have e1 : (Value.type "list" == Value.type "dict") = false := by decide
  have e2 : (Value.type "tuple" == Value.type "dict") = false := by decide
  rcases hl with ⟨rfl, hl⟩ | ⟨rfl, hl⟩
  · have b1 := PySem.F.sub_list_set
    have b2 := PySem.F.sub_list_frozenset
    have hT2 : s.TypeIs (.ref l) "list" := hl.typeIs
    unfold Builtin.«set.__init__» noKeywords Builtin.Frozenset.updateFrom
    generalize hPI : pyIter = PI
    wp_walk
    subst hPI
    refine wpAny_pyIter_list hl ?_
    have nx : l ≠ s.heap.objs.size := by
      obtain ⟨o, e, _⟩ := hl
      exact Nat.ne_of_lt (Heap.lt_size e)
    refine wpAny_bind (wpAny_runValue (codeAny_mono (go _ _ _ (fun i z => z.heap.IsListIter s.heap.objs.size l i ∧ z.heap.IsList l xs) ?_ ?_ ?_ rfl ?_ rfl rfl rfl ?_) fun r s3 hr => ?_))
    · simp [hh]
    · exact Heap.get?_push_of_some _ ha
    · exact ⟨⟨_, Heap.get?_push_size _ rfl, rfl, rfl⟩, hl.push _⟩
    · exact fun b o e => Heap.get?_push_of_some _ e
    · exact (Walks.list (by simp [hh]) _ l nx xs).toS
    · obtain ⟨rfl, h1, tk, rfl, hp, hk⟩ := hr
      exact wpAny_pure (wpAny_pure (hQ h1 tk hp hk))
  · have b1 := PySem.F.sub_tuple_set
    have b2 := PySem.F.sub_tuple_frozenset
    have hT2 : s.TypeIs (.ref l) "tuple" := hl.typeIs
    unfold Builtin.«set.__init__» noKeywords Builtin.Frozenset.updateFrom
    generalize hPI : pyIter = PI
    wp_walk
    subst hPI
    refine wpAny_pyIter_tuple hl ?_
    have nx : l ≠ s.heap.objs.size := by
      obtain ⟨o, e, _⟩ := hl
      exact Nat.ne_of_lt (Heap.lt_size e)
    refine wpAny_bind (wpAny_runValue (codeAny_mono (go _ _ _ (fun i z => z.heap.IsTupleIter s.heap.objs.size l i ∧ z.heap.IsTuple l xs) ?_ ?_ ?_ rfl ?_ rfl rfl rfl ?_) fun r s3 hr => ?_))
    · simp [hh]
    · exact Heap.get?_push_of_some _ ha
    · exact ⟨⟨_, Heap.get?_push_size _ rfl, rfl, rfl⟩, hl.push _⟩
    · exact fun b o e => Heap.get?_push_of_some _ e
    · exact (Walks.tuple (by simp [hh]) _ l nx xs).toS
    · obtain ⟨rfl, h1, tk, rfl, hp, hk⟩ := hr
      exact wpAny_pure (wpAny_pure (hQ h1 tk hp hk))

set_option maxHeartbeats 3200000 in
theorem set_of {Q : Value → Shared → Prop} (hh : A.handled = none) (hl : IsSq s.heap T l xs) (k : Fills P w xs Post)
    (hQ : ∀ (h1 : Heap) (tk : Nat), Post h1 s.heap.objs.size → (∀ b o, s.heap.get? b = some o → h1.get? b = some o) → Q (.ref s.heap.objs.size) { s with heap := h1, toks := tk }) : wpAny (model P w) A (call (.type "set") [.ref l]) Q E s := by
  have hll : l < s.heap.objs.size := by
    rcases hl with ⟨_, o, e, _⟩ | ⟨_, o, e, _⟩ <;> exact Heap.lt_size e
  have hl2 : IsSq (s.heap.push (fset w)) T l xs := by
    rcases hl with ⟨e, h⟩ | ⟨e, h⟩
    · exact .inl ⟨e, h.push _⟩
    · exact .inr ⟨e, h.push _⟩
  obtain ⟨cc, tl, m0⟩ := PySem.F.called_set.mro
  have m1 := PySem.F.called_set.made
  have m2 := PySem.F.called_set.sub
  have m3 := PySem.F.called_set.notType
  have m4 := PySem.F.called_set.canCreate
  have m5 := PySem.F.typeCall_set_1 (.ref l)
  refine wpAny_call (codeAny_of_tree (show wpAny _ _ (callAny (.type "set") _) _ _ _ from wpAny_pure ⟨Code.quiet_builtin _ (by decide +kernel), codeAny_builtin PySem.F.entry_type_call ?_⟩))
  rw [Around.under_plain (weight_type_call_type "set" [.ref l] []) (by rfl)]
  (repeat (any_goals (first | assumption | wp_step))); skip
  refine codeAny_mono (L2.code_set_led1 (.ref l) (E := E) (Q₁ := fun obj z => obj = .ref s.heap.objs.size ∧ z = { s with heap := s.heap.push (fset w) }) ⟨rfl, rfl⟩) fun r z hr => ?_
  match r, hr with
  | .error e, hr => exact hr
  | .ok (.ret obj), hr =>
    obtain ⟨rfl, rfl⟩ := hr
    have n1 : (s.heap.push (fset w)).get? s.heap.objs.size = some (fset w) := Heap.get?_push_size _ rfl
    have n2 : Shared.TypeIs { s with heap := s.heap.push (fset w) } (.ref s.heap.objs.size) "set" := ⟨_, n1, rfl⟩
    have m6 := PySem.F.called_set.init.lookup
    have m7 := PySem.F.called_set.init.bind (.ref s.heap.objs.size)
    (repeat (any_goals (first | assumption | wp_step))); skip
    refine codeAny_mono (codeAny_call_builtin (R := wants (fun v z => v = .none ∧ ∃ h1 tk, z = { s with heap := h1, toks := tk } ∧ Post h1 s.heap.objs.size ∧ ∀ b o, s.heap.get? b = some o → h1.get? b = some o) E) PySem.F.called_set.init.plain PySem.F.entry_set_init (PySem.check_set_init_1 n2 ?_)) fun r z hz => ?_
    · refine fill_init (by simp [hh]) s.heap.objs.size n1 (Nat.ne_of_gt hll) hl2 k fun h1 tk hp hk => ⟨rfl, h1, tk, rfl, hp, fun b o e => ?_⟩
      exact hk b o (Nat.ne_of_lt (Heap.lt_size e)) (Heap.get?_push_of_some _ e)
    · match r, hz with
      | .error e, hz => exact hz
      | .ok (.ret v), hz =>
        obtain ⟨rfl, h1, tk, rfl, hp, hk⟩ := hz
        (repeat (any_goals (first | assumption | wp_step)))
        exact hQ h1 tk hp hk
end
end FM

set_option Elab.async false
set_option linter.all false
set_option maxRecDepth 100000
namespace FM
open PySem PySem.Spec PyProof.Rows L2

/-! ### the number of different items -/
section
variable {α : Type} [DecidableEq α]
def uniq : List α → List α
  | [] => []
  | x :: xs => if x ∈ xs then uniq xs else x :: uniq xs
def uq (l : List α) : Nat := (uniq l).length
theorem mem_uniq {a : α} : ∀ {l : List α}, a ∈ uniq l ↔ a ∈ l
  | [] => Iff.rfl
  | x :: xs => by
    unfold uniq
    split
    · rename_i h
      rw [mem_uniq, List.mem_cons]
      constructor
      · exact .inr
      · rintro (e | e)
        · exact e ▸ h
        · exact e
    · rw [List.mem_cons, List.mem_cons, mem_uniq]
theorem nodup_uniq : ∀ l : List α, (uniq l).Nodup
  | [] => List.nodup_nil
  | x :: xs => by
    unfold uniq
    split
    · exact nodup_uniq xs
    · rename_i h
      exact List.nodup_cons.mpr ⟨fun z => h (mem_uniq.mp z), nodup_uniq xs⟩
theorem nodup_le : ∀ (l D : List α), l.Nodup → (∀ x ∈ l, x ∈ D) → l.length ≤ D.length
  | [], D, _, _ => Nat.zero_le _
  | x :: xs, D, n, h => by
    obtain ⟨n1, n2⟩ := List.nodup_cons.mp n
    have hx := h x (List.mem_cons_self ..)
    have := nodup_le xs (D.erase x) n2 fun y hy => (List.mem_erase_of_ne (fun e : y = x => n1 (e ▸ hy))).mpr (h y (List.mem_cons_of_mem _ hy))
    rw [List.length_erase_of_mem hx] at this
    have hp : 0 < D.length := List.length_pos_of_mem hx
    simp only [List.length_cons]
    omega
theorem nodup_eq {l D : List α} (n : l.Nodup) (m : D.Nodup) (h : ∀ x, x ∈ l ↔ x ∈ D) : l.length = D.length :=
  Nat.le_antisymm (nodup_le l D n fun x => (h x).mp) (nodup_le D l m fun x => (h x).mpr)
theorem uq_of {l D : List α} (n : D.Nodup) (h : ∀ x, x ∈ l ↔ x ∈ D) : uq l = D.length := nodup_eq (nodup_uniq l) n fun x => mem_uniq.trans (h x)
theorem uq_snoc (l : List α) (x : α) : uq (l ++ [x]) = if x ∈ l then uq l else uq l + 1 := by
  split
  · rename_i h
    refine uq_of (nodup_uniq l) fun y => ?_
    rw [mem_uniq, List.mem_append, List.mem_singleton]
    constructor
    · rintro (e | e)
      · exact e
      · exact e ▸ h
    · exact .inl
  · rename_i h
    rw [uq_of (D := x :: uniq l) (List.nodup_cons.mpr ⟨fun z => h (mem_uniq.mp z), nodup_uniq l⟩) fun y => by
      rw [List.mem_append, List.mem_singleton, List.mem_cons, mem_uniq]
      exact or_comm]
    rfl
theorem uq_le (l : List α) : uq l ≤ l.length := nodup_le _ _ (nodup_uniq l) fun _ h => mem_uniq.mp h
theorem uq_nodup {l : List α} : uq l = l.length ↔ l.Nodup := by
  constructor
  · induction l with
    | nil => exact fun _ => List.nodup_nil
    | cons x xs ih =>
      intro h
      unfold uq uniq at h
      split at h
      · have := uq_le xs
        unfold uq at this
        simp only [List.length_cons] at h
        omega
      · rename_i hx
        simp only [List.length_cons, Nat.add_right_cancel_iff] at h
        exact List.nodup_cons.mpr ⟨hx, ih h⟩
  · intro h
    exact uq_of h fun _ => Iff.rfl
end

/-! ### fills -/
section
variable {P : Program} {w : World} {xs : Array Value}
theorem fills_ints {ns : List Int} (hi : IntsAre xs.toList ns) (hb : ns.length + 1 < scanBound) : Fills P w xs (fun h a => SetR w h a (fun j => decide (j ∈ ns)) (uq ns)) := by
  intro A I S fp wr G St s R W hS st ho hR
  have hz : xs.size = ns.length := by
    have q := IntsAre.length hi
    rw [Array.length_toList] at q; exact q
  refine L2.set_update_ints W S hS ns hz hb (fun i v hv => ?_) (xs.size - 0) 0 s rfl (Nat.zero_le _) st ⟨0, Nat.le_refl 0, L2.setR_new_at ho⟩ fun s1 c hm hc r => hR s1 hm ?_
  · have hi2 : i < ns.length := by rw [← hz]; exact (Array.getElem?_eq_some_iff.mp hv).1
    obtain ⟨t, e⟩ := PyProof.Rows.IntsAre.int_at hi i v (by rw [Array.getElem?_toList]; exact hv)
    refine ⟨ns[i], t, List.getElem?_eq_getElem hi2, ?_⟩
    rw [e, List.getD_eq_getElem?_getD, List.getElem?_eq_getElem hi2]; rfl
  · obtain ⟨o, es, ep, t, h1, h2, h3, h4, h5, h6, h7, h8, h9, h10⟩ := r
    have : uq ns = c := by
      rw [← h9, ← Array.length_toList, ← List.length_map (f := keyOf)]
      exact uq_of h5 fun x => by rw [← h6 x]; simp
    rw [this]
    exact ⟨o, es, ep, t, h1, h2, h3, h4, h5, h6, h7, h8, h9, h10⟩
theorem fills_keys {K : Type} [DecidableEq K] {knd : KeyKind P w K} {ks : List K} (hz : xs.size = ks.length) (hb : ks.length + 1 < scanBound) (hv : ∀ (i : Nat) (v : Value), xs[i]? = some v → ∃ k, ks[i]? = some k ∧ knd.is k v = true ∧ v.scannable = true) :
    Fills P w xs (fun h a => h.SetOf knd a (fun k => decide (k ∈ ks)) (uq ks)) := by
  intro A I S fp wr G St s R W hS st ho hR
  have hw : S ∉ wr := fun z => hS (W.sub _ z)
  have hsb : ∀ b ∈ wr, b ∈ S :: wr := fun b z => List.mem_cons_of_mem _ z
  have main : ∀ (m i : Nat) (s : Shared), xs.size - i = m → i ≤ xs.size → St i s → s.heap.SetOf knd S (fun k => decide (k ∈ ks.take i)) (uq (ks.take i)) →
      (∀ s1, Moved (S :: wr) G s s1 → s1.heap.SetOf knd S (fun k => decide (k ∈ ks)) (uq ks) → R (.ok (.ret .none)) s1) → codeAny (model P w) A (.builtin "set.update.loop" ⟨[.ref S, .ref I], []⟩) R s := by
    intro m
    induction m with
    | zero =>
      intro i s hm hi st r k
      have e : i = xs.size := by omega
      subst e
      refine codeAny_builtin PyProof.Rows.F.entry_set_update_loop ?_
      rw [Around.under_plainId PyProof.Rows.F.plain_set_update_loop _]
      refine show wpAny _ A.in1 (pyNext (.ref I) >>= _) _ _ s from wpAny_bind (W.done s _ _ st fun s1 mv => ?_)
      refine show wpAny _ A.in1 (PySem.ret Value.none) _ _ s1 from wpAny_pure (k s1 (mv.mono hsb) ?_)
      obtain ⟨o, es, ep, t, h1, r⟩ := r
      rw [hz, List.take_length] at r
      exact ⟨o, es, ep, t, mv.heap S _ hw h1, r⟩
    | succ m ih =>
      intro i s hm hi st r k
      have hlt : i < xs.size := by omega
      refine codeAny_builtin PyProof.Rows.F.entry_set_update_loop ?_
      rw [Around.under_plainId PyProof.Rows.F.plain_set_update_loop _]
      refine show wpAny _ A.in1 (pyNext (.ref I) >>= _) _ _ s from wpAny_bind (W.item i s _ _ hlt st fun v s1 pv st1 mv => ?_)
      obtain ⟨key, ek, hk, hsc⟩ := hv i v pv
      have r1 : s1.heap.SetOf knd S (fun k => decide (k ∈ ks.take i)) (uq (ks.take i)) := by
        obtain ⟨o, es, ep, t, h1, r⟩ := r
        exact ⟨o, es, ep, t, mv.heap S _ hw h1, r⟩
      refine show wpAny _ A.in1 (holding [v] (setAdd S v) >>= _) _ _ s1 from wpAny_bind (wpAny_holding ?_)
      unfold setAdd
      refine wpAny_holding (wpAny_bind (knd.pyHash hk ?_))
      have room : uq (ks.take i) + 1 < scanBound := by
        have := uq_le (ks.take i)
        rw [List.length_take] at this
        omega
      refine wpAny_setAddHashed_of (knd := knd) (s := { s1 with toks := s1.toks + 1 }) hk hsc r1 room fun h1 sb r2 => ?_
      have e2 : ks.take (i + 1) = ks.take i ++ [key] := by rw [List.take_add_one, ek]; rfl
      have r3 : h1.SetOf knd S (fun k => decide (k ∈ ks.take (i + 1))) (uq (ks.take (i + 1))) := by
        have ef : (fun k => decide (k ∈ ks.take (i + 1))) = fun k => decide (k ∈ ks.take i) || decide (k = key) := by
          funext k
          rw [e2]
          simp [List.mem_append]
        have en : uq (ks.take (i + 1)) = if decide (key ∈ ks.take i) = true then uq (ks.take i) else uq (ks.take i) + 1 := by
          rw [e2, uq_snoc]
          simp
        rw [ef, en]
        exact r2
      refine wpAny_pure ⟨plainId_quiet PyProof.Rows.F.plain_set_update_loop _, ih (i + 1) _ (by omega) hlt (W.frame _ s1 _ _ st1 (Nat.le_succ _) fun b hb o e => ?_) r3 fun s2 mv2 r4 => ?_⟩
      · rw [sb.2 b (fun z => hS (z ▸ hb))]; exact e
      · refine k s2 (Moved.trans W.gtrans ((mv.mono hsb).then_heap (Nat.le_succ _) fun b o hb e => ?_) mv2) r4
        rw [sb.2 b (fun z => hb (by rw [z]; exact List.mem_cons_self))]; exact e
  refine main (xs.size - 0) 0 s rfl (Nat.zero_le _) st ?_ hR
  have e0 : (fun k : K => decide (k ∈ ks.take 0)) = fun _ => false := by funext k; simp
  rw [e0]
  exact (PyProof.Rows.setObjOf_fresh (knd := knd) _).setOf ho (by decide)
theorem fills_strs {ks : List Str} (hi : StrsAre xs.toList ks) (hb : ks.length + 1 < scanBound) : Fills P w xs (fun h a => h.SetOf (PySem.strKind P w) a (fun k => decide (k ∈ ks)) (uq ks)) := by
  have hz : xs.size = ks.length := by rw [← StrsAre.len_eq hi, Array.length_toList]
  refine fills_keys hz hb fun i v hv => ?_
  have hi2 : i < ks.length := by rw [← hz]; exact (Array.getElem?_eq_some_iff.mp hv).1
  obtain ⟨t, e⟩ := SS.strs_at hi i v (by rw [Array.getElem?_toList]; exact hv)
  rw [List.getD_eq_getElem?_getD, List.getElem?_eq_getElem hi2] at e
  exact ⟨ks[i], List.getElem?_eq_getElem hi2, by rw [e]; exact strKind_is _ _ _ _, by rw [e]; rfl⟩
end
end FM

set_option Elab.async false
set_option linter.all false
set_option maxRecDepth 100000
namespace FM
open PySem PySem.Spec PyProof.Rows L2
section
variable {X : Cx} {g : Gd}
abbrev SqA (K : PySem.W.Frag) (H : Hp) (a : Addr) (vs : List V) : Prop := SqL K H a vs ∨ SqT K H a vs
theorem sq_inv {pins : List (Addr × Obj)} {σ : L2.St} {H : Hp} {s : Shared} {p : Addr} {vs : List V} (I : Inv X pins σ H s) (h : SqA X.K H p vs) : ∃ T its, Vals vs its ∧ IsSq s.heap T p its.toArray := by
  rcases h with h | h
  · obtain ⟨its, r, pl, _⟩ := I.list h
    exact ⟨_, its, r, .inl ⟨rfl, pl.isList⟩⟩
  · obtain ⟨its, r, pl, _⟩ := I.tuple h
    exact ⟨_, its, r, .inr ⟨rfl, pl⟩⟩
def rSetI (K : PySem.W.Frag) (w : World) : List V → Hp → VK → Prop := fun xs H Q => ∃ (p : Addr) (ns : List Int), xs = [.ref p] ∧ SqA K H p (ns.map V.int) ∧ ns.length + 1 < scanBound ∧
  ∀ q, H q = none → Q (.ref q) (upd H q (SetO w q (fun j => decide (j ∈ ns)) (uq ns)))
theorem cr_setI (hc : X.calm = true) : CallR X (.type "set") (rSetI X.K X.w) := by
  intro pins s σ H vs us Q I r h
  obtain ⟨p, ns, rfl, hq, hb, q⟩ := h
  rw [Vals.ref1 r]
  obtain ⟨T, its, rv, hs⟩ := sq_inv I hq
  refine set_of (I.ok.hd hc) hs (fills_ints (ns := ns) (by simpa using rv.ints) hb) fun h1 tk hp hk => ?_
  exact ⟨.ref _, upd H s.heap.objs.size (SetO X.w s.heap.objs.size (fun j => decide (j ∈ ns)) (uq ns)), I.laid (t' := tk) hk (Nat.le_refl _) (setO_new hp), rfl, q _ (I.hok.fresh (Nat.le_refl _))⟩
/-- len(set(e)), ints or texts -/
def tLenSq (K : PySem.W.Frag) (ta : TE) : TE := fun σ H Q => ta σ H fun x H1 => ∃ l, x = V.ref l ∧
  ((∃ ks : List Str, SqA K H1 l (ks.map V.str) ∧ ks.length + 1 < scanBound ∧ Q (.int (uq ks)) H1) ∨ ∃ ns : List Int, SqA K H1 l (ns.map V.int) ∧ ns.length + 1 < scanBound ∧ Q (.int (uq ns)) H1)
theorem pe_lenSq {a : Expr} {ta : TE} {p p2 q pos : Pos} (hc : X.calm = true) (hg : Gl X "len") (hm : X.mg "len" = none) (hg2 : Gl X "set") (hm2 : X.mg "set" = none) (ha : PE X a ta)
    (na : starEach [a] X.env = (false, eval a X.env) :: starEach [] X.env := by rfl) : PE X (.Call (.Name "len" p) [.Call (.Name "set" p2) [a] [] q] [] pos) (tLenSq X.K ta) := by
  refine ⟨fun pins s σ H Q I h => Call_ (ld_blt I hg hm boot_len (PyProof.Rows.callWith_builtin1 (PyProof.Rows.args_cons (Call_ (ld_blt I hg2 hm2 boot_set
    (PyProof.Rows.callWith_type1 (PyProof.Rows.args_cons (thn (ha.run pins s σ H _ I h) fun v s1 ⟨x, H1, I1, r1, q1⟩ => PyProof.Rows.args_nil ?_) na) na rfl))) rfl) rfl rfl))⟩
  obtain ⟨l, rfl, hq⟩ := q1
  cases r1
  rcases hq with ⟨ks, hq, hb, q1⟩ | ⟨ns, hq, hb, q1⟩
  · obtain ⟨T, its, rv, hs⟩ := sq_inv I1 hq
    refine set_of (I1.ok.hd hc) hs (fills_strs (ks := ks) (by simpa using strsAre_of rv) hb) fun h1 tk hp hk => PyProof.Rows.args_nil ?_
    obtain ⟨o, es, ep, t, h1', h2, h3, _, _, _, h7, h8⟩ := hp
    have I2 : Inv X pins σ H1 { s1 with heap := h1, toks := tk } := I1.kept hk
    have := uq_le ks
    refine call_len_set h1' h2 h3 h7 (by rw [h8]; unfold scanBound at hb; omega) ⟨.int (uq ks), H1, I2.tok _, ⟨_, by rw [h8]⟩, q1⟩
  · obtain ⟨T, its, rv, hs⟩ := sq_inv I1 hq
    refine set_of (I1.ok.hd hc) hs (fills_ints (ns := ns) (by simpa using rv.ints) hb) fun h1 tk hp hk => PyProof.Rows.args_nil ?_
    obtain ⟨o, es, ep, t, h1', h2, h3, _, _, _, h7, h8⟩ := hp.setOf (P := X.prog)
    have I2 : Inv X pins σ H1 { s1 with heap := h1, toks := tk } := I1.kept hk
    have := uq_le ns
    refine call_len_set h1' h2 h3 h7 (by rw [h8]; unfold scanBound at hb; omega) ⟨.int (uq ns), H1, I2.tok _, ⟨_, by rw [h8]⟩, q1⟩

/-- what a list or tuple that is seen holds -/
def itemsD : D → Option (List D)
  | .tup xs => some xs
  | .lst _ xs => some xs
  | _ => none
theorem view_items {K : PySem.W.Frag} {mg : Str → Option Value} {B H : Hp} {v : V} {d : D} {xs : List D} (b : Same B H) (w : View K mg B H v d) (h : itemsD d = some xs) : ∃ a vs F, v = .ref a ∧ SqA K H a vs ∧ Rels K mg B H vs xs F := by
  unfold itemsD at h
  split at h
  · cases h
    obtain ⟨a, vs, F, e, s, r⟩ := w.tup b
    exact ⟨a, vs, F, e, .inr s, r⟩
  · cases h
    obtain ⟨a, vs, F, e, s, r⟩ := w.lst b
    exact ⟨a, vs, F, e, .inl (.inl (.inl s)), r⟩
  · cases h
def gLenSet (d : D) : Option D := (itemsD d).bind fun xs => match strsOf xs with
  | some ks => if ks.length ≤ 4000 then some (.int (uq ks)) else none
  | none => match intsOf xs with
    | some ns => if ns.length ≤ 4000 then some (.int (uq ns)) else none
    | none => none
def dLenSet (t : DE) : DE := fun r Q X => t r (fun d r1 => got (gLenSet d) fun z => Q z r1) X
theorem se_lenSet {q : Bool} {a : Expr} {t : DE} {p p2 q2 pos : Pos} (hg : Gl X "len") (hm : X.mg "len" = none) (hg2 : Gl X "set") (hm2 : X.mg "set" = none) (ha : SB X g q a t) (hc : X.calm = true := by rfl)
    (na : starEach [a] X.env = (false, eval a X.env) :: starEach [] X.env := by rfl) : SE X g q (.Call (.Name "len" p) [.Call (.Name "set" p2) [a] [] q2] [] pos) (dLenSet t) := by
  obtain ⟨te, pe, ka⟩ := ha.run
  refine ⟨_, pe_lenSq hc hg hm hg2 hm2 pe na, fun fx st r ts B H col Qd Xd Q ok s ht hQ => ?_⟩
  refine ka fx st r ts B H col _ Xd _ ok s ht fun v d r1 B1 H1 c1 h1 sB sH s1 w1 => ?_
  obtain ⟨z, ez, hz⟩ := got_cases h1
  obtain ⟨xs, e1, e2⟩ := Option.bind_eq_some_iff.mp ez
  obtain ⟨a, vs, F, rfl, hs, rr⟩ := view_items s1.bh w1 e1
  refine ⟨a, rfl, ?_⟩
  split at e2
  · rename_i ks hk
    split at e2
    · rename_i hl
      cases e2
      obtain ⟨rfl, _⟩ := rels_strsOf rr hk
      exact .inl ⟨ks, hs, by unfold scanBound; omega, hQ _ _ r1 B1 H1 c1 hz sB sH (s1.push (.int _))⟩
    · cases e2
  · split at e2
    · rename_i ns hk
      split at e2
      · rename_i hl
        cases e2
        obtain ⟨rfl, _⟩ := rels_intsOf rr hk
        exact .inr ⟨ns, hs, by unfold scanBound; omega, hQ _ _ r1 B1 H1 c1 hz sB sH (s1.push (.int _))⟩
      · cases e2
    · cases e2

/-! ### sorted: ints -/
def insI (x : Int) : List Int → List Int
  | [] => [x]
  | y :: ys => if x ≤ y then x :: y :: ys else y :: insI x ys
def sortI : List Int → List Int
  | [] => []
  | x :: xs => insI x (sortI xs)
theorem insI_perm (x : Int) : ∀ l, (insI x l).Perm (x :: l)
  | [] => List.Perm.refl _
  | y :: ys => by
    unfold insI
    split
    · exact List.Perm.refl _
    · exact ((insI_perm x ys).cons y).trans (List.Perm.swap x y ys)
theorem sortI_perm : ∀ l, (sortI l).Perm l
  | [] => List.Perm.refl _
  | x :: xs => (insI_perm x _).trans ((sortI_perm xs).cons x)
theorem insI_sorted (x : Int) : ∀ l : List Int, l.Pairwise (· ≤ ·) → (insI x l).Pairwise (· ≤ ·)
  | [], _ => List.pairwise_singleton _ _
  | y :: ys, h => by
    obtain ⟨h1, h2⟩ := List.pairwise_cons.mp h
    unfold insI
    split
    · rename_i hx
      refine List.pairwise_cons.mpr ⟨fun z hz => ?_, h⟩
      rcases List.mem_cons.mp hz with e | hz
      · exact e ▸ hx
      · exact Int.le_trans hx (h1 z hz)
    · rename_i hx
      refine List.pairwise_cons.mpr ⟨fun z hz => ?_, insI_sorted x ys h2⟩
      rcases List.mem_cons.mp ((insI_perm x ys).mem_iff.mp hz) with e | hz
      · subst e; omega
      · exact h1 z hz
theorem sortI_sorted : ∀ l, (sortI l).Pairwise (· ≤ ·)
  | [] => List.Pairwise.nil
  | x :: xs => insI_sorted x _ (sortI_sorted xs)
theorem sorted_uniq : ∀ {l m : List Int}, l.Perm m → l.Pairwise (· ≤ ·) → m.Pairwise (· ≤ ·) → l = m
  | [], m, p, _, _ => by rw [List.nil_perm.mp p]
  | x :: xs, [], p, _, _ => absurd p.length_eq (by simp)
  | x :: xs, y :: ys, p, h, k => by
    obtain ⟨h1, h2⟩ := List.pairwise_cons.mp h
    obtain ⟨k1, k2⟩ := List.pairwise_cons.mp k
    have a : x ≤ y := by
      rcases List.mem_cons.mp (p.mem_iff.mpr (List.mem_cons_self (a := y) (l := ys))) with e | e
      · exact e ▸ Int.le_refl _
      · exact h1 y e
    have b : y ≤ x := by
      rcases List.mem_cons.mp (p.mem_iff.mp (List.mem_cons_self (a := x) (l := xs))) with e | e
      · exact e ▸ Int.le_refl _
      · exact k1 x e
    have e := Int.le_antisymm a b
    subst e
    rw [sorted_uniq ((List.perm_cons x).mp p) h2 k2]
def gSortI : List D → Option D
  | [.tup _] => none
  | [.lst _ xs] => (intsOf xs).map fun ns => .lst true ((sortI ns).map D.int)
  | _ => none
theorem on_sortI : OpCN X (.builtin "sorted") gSortI := by
  refine ⟨_, cr_sortedI, fun B H vs ds z Q b w hz A => ?_⟩
  unfold gSortI at hz
  split at hz
  · cases hz
  · obtain ⟨ns, e1, e2⟩ := Option.map_eq_some_iff.mp hz
    subst e2
    obtain ⟨v, ev, w1⟩ := vws1 w; subst ev
    obtain ⟨a, vs, F, rfl, h, r⟩ := w1.lst b
    obtain ⟨rfl, _⟩ := rels_intsOf r e1
    refine ⟨a, ns, rfl, .inl (.inl h), fun ms p pm so hp => A.lst _ _ p rfl ?_ hp⟩
    rw [sorted_uniq (pm.trans (sortI_perm ns).symm) so (sortI_sorted ns)]
    exact rels_ints _
  · cases hz
/-- sorted(set(e)), ints -/
def sortU (ns : List Int) : List Int := sortI (uniq ns)
theorem sortU_spec {ns ms : List Int} (h1 : ms.Pairwise (· < ·)) (h2 : ∀ k, k ∈ ms ↔ k ∈ ns) : ms = sortU ns := by
  refine sorted_uniq ?_ (h1.imp fun h => Int.le_of_lt h) (sortI_sorted _)
  refine List.Perm.trans ?_ (sortI_perm _).symm
  have nd : ms.Nodup := h1.imp fun h => Int.ne_of_lt h
  exact (List.perm_ext_iff_of_nodup nd (nodup_uniq ns)).mpr fun k => (h2 k).trans mem_uniq.symm
def gSortSet (d : D) : Option D := (itemsD d).bind fun xs => (intsOf xs).bind fun ns => if ns.length < 64 then some (.lst true ((sortU ns).map D.int)) else none
def dSortSet (t : DE) : DE := fun r Q X => t r (fun d r1 => got (gSortSet d) fun z => Q z r1) X
theorem se_sortSet {q : Bool} {a : Expr} {t : DE} {p p2 q2 pos : Pos} (hg : Gl X "sorted") (hm : X.mg "sorted" = none) (hg2 : Gl X "set") (hm2 : X.mg "set" = none) (ha : SB X g q a t) (hc : X.calm = true := by rfl)
    (he : starEach [a] X.env = (false, eval a X.env) :: starEach [] X.env := by rfl) (hpl : (backTo q2 (starEach [] X.env)).any (·.1) = false := by rfl) : SE X g q (.Call (.Name "sorted" p) [.Call (.Name "set" p2) [a] [] q2] [] pos) (dSortSet t) := by
  obtain ⟨te, pe, ka⟩ := ha.run
  have ps : PE X (.Call (.Name "set" p2) [a] [] q2) _ := pe_callTy (cr_setI hc) hg2 hm2 boot_set (pa_cons pe pa_nil he) (by decide) (by decide) he hpl
  refine ⟨_, pe_callB (cr_sortedSet hc) hg hm boot_sorted (pa_cons ps pa_nil rfl) (by decide) (by decide) rfl rfl, fun fx st r ts B H col Qd Xd Q ok s ht hQ => ?_⟩
  refine ka fx st r ts B H col _ Xd _ ok s ht fun v d r1 B1 H1 c1 h1 sB sH s1 w1 => ?_
  obtain ⟨z, ez, hz⟩ := got_cases h1
  obtain ⟨xs, e1, e2⟩ := Option.bind_eq_some_iff.mp ez
  obtain ⟨ns, e3, e4⟩ := Option.bind_eq_some_iff.mp e2
  split at e4
  · rename_i hl
    cases e4
    obtain ⟨a, vs, F, rfl, hs, rr⟩ := view_items s1.bh w1 e1
    obtain ⟨rfl, _⟩ := rels_intsOf rr e3
    refine ⟨a, ns, rfl, hs, by unfold scanBound; omega, fun q3 hq3 => ?_⟩
    have s2 := s1.laidB hq3 (SetO X.w q3 (fun j => decide (j ∈ ns)) (uq ns))
    refine ⟨q3, _, _, rfl, upd_same, Nat.lt_of_le_of_lt (uq_le ns) hl, fun ms p3 so mem len hp3 => ?_⟩
    have e : ms = sortU ns := sortU_spec so fun k => by rw [mem k]; simp
    subst e
    obtain ⟨c3, s3⟩ := s2.newL (rels_ints (sortU ns)) hp3
    exact hQ _ _ r1 _ _ _ hz (sB.trans (same_new (s1.fresh hq3).1)) (fun q => (sH q).trans ((same_new hq3).trans (same_new hp3))) s3
  · cases e4
end
end FM

set_option Elab.async false
set_option linter.all false
set_option maxRecDepth 100000
namespace FM
open PySem PySem.Spec PyProof.Rows L2

/-! ### t[::-1], at the library's level -/
theorem fm_congr {α β : Type} {f g : α → Option β} : ∀ l : List α, (∀ x ∈ l, f x = g x) → l.filterMap f = l.filterMap g
  | [], _ => rfl
  | x :: xs, h => by
    rw [List.filterMap_cons, List.filterMap_cons, h x (List.mem_cons_self ..), fm_congr xs fun y hy => h y (List.mem_cons_of_mem _ hy)]
theorem places_rev (n : Nat) : Builtin.Slice.slicePlaces ((n : Int) - 1) (-1) (-1) = n := by
  unfold Builtin.Slice.slicePlaces
  have h1 : ¬ ((-1 : Int) > 0) := by decide
  rw [if_neg h1]
  by_cases h : (n : Int) - 1 > -1
  · rw [if_pos h, show (-(-1) : Int) = 1 by decide, Int.ediv_one]; omega
  · rw [if_neg h]; omega
theorem picks_rev (xs : Array Value) : ((List.range xs.size).filterMap fun (m : Nat) => xs[((xs.size : Int) - 1 + (m : Int) * (-1)).toNat]?).toArray = xs.toList.reverse.toArray := by
  congr 1
  have e : ∀ m : Nat, xs[((xs.size : Int) - 1 + (m : Int) * (-1)).toNat]? = xs[((xs.size : Int) - 1 - (m : Int)).toNat]? := fun m => by
    congr 2; omega
  have e2 : (fun m : Nat => xs[((xs.size : Int) - 1 + (m : Int) * (-1)).toNat]?) = fun m : Nat => xs[((xs.size : Int) - 1 - (m : Int)).toNat]? := funext e
  rw [e2, ← PySem.W.krv_all xs, ← List.filterMap_reverse, ← PySem.W.krv_range, List.filterMap_map]
  refine fm_congr _ fun m hm => ?_
  have := List.mem_range.mp hm
  show xs[((xs.size : Int) - 1 - (m : Int)).toNat]? = xs[xs.size - 1 - m]?
  congr 1; omega
section
variable {P : Program} {w : World} {A : Around} {E : Value → Shared → Prop} {s : Shared}
theorem getItem_rev {t sl : Addr} {xs : Array Value} {u : Tok} {Q : Value → Shared → Prop} (ht : IsTup s.heap t xs) (hs : s.heap.IsSliceOf sl .none .none (.int (-1) u)) (hz : xs.size ≤ sizeLine)
    (h : Q (.ref s.heap.objs.size) { s with heap := s.heap.push { cls := .type "tuple", data := .seq xs.toList.reverse.toArray } }) : wpAny (model P w) A (getItem (.ref t) (.ref sl)) Q E s := by
  have hk : sizeOk (.seq xs.toList.reverse.toArray) := by
    show xs.toList.reverse.toArray.size ≤ sizeLine
    rw [List.size_toArray, List.length_reverse, Array.length_toList]; exact hz
  obtain ⟨os, hos, hcs, hds⟩ := id hs
  have hTs : s.TypeIs (.ref sl) "slice" := ⟨os, hos, hcs⟩
  unfold getItem
  try with_reducible refine wpAny_holding ?_
  first | refine wpAny_bind (wpAny_pure ?_) | skip
  refine wpAny_bind (wpAny_sequenceKey ht.typeIs (by decide) (wpAny_bind (wpAny_callSpecial?_slot (name := Str.ofString "__getitem__") ht.typeIs PyProof.Rows.slot_tuple_getitem
    (wpAny_call_entry PyProof.Rows.slot_tuple_getitem ht.typeIs entry_tuple_getitem ?_ (args_tuple_getitem _ _)))))
  refine show wpAny _ _ (Builtin.Tuple.tupleItemsOf (.ref t) >>= _) _ _ s from wpAny_bind (tupleItemsOf_ ht (wpAny_bind (wpAny_typeOf hTs ?_)))
  rw [if_pos (by decide)]
  refine wpAny_bind ?_
  unfold Builtin.Slice.sliceApplied Builtin.Slice.sliceFields
  refine wpAny_bind (wpAny_bind (wpAny_field hos hds (x := .none) rfl (wpAny_bind (wpAny_field hos hds (x := .none) rfl (wpAny_bind (wpAny_field hos hds (x := .int (-1) u) rfl (wpAny_pure ?_)))))))
  refine wpAny_bind (slicePart_int ?_)
  refine show wpAny _ _ (if ((-1 : Int) == 0) = true then _ else _) _ _ s from ?_
  rw [if_neg (by decide)]
  refine wpAny_bind (slicePart_none (wpAny_bind (slicePart_none (wpAny_bind (wpAny_pure ?_)))))
  refine show wpAny _ _ (pure ((xs.size : Int) - 1, (-1 : Int), Builtin.Slice.slicePlaces ((xs.size : Int) - 1) (-1) (-1))) _ _ s from wpAny_pure ?_
  rw [places_rev]
  refine show wpAny _ _ (if ((xs.size : Int) - 1 == 0 && (-1 : Int) == 1 && xs.size == xs.size) = true then _ else _) _ _ s from ?_
  rw [if_neg (by simp), picks_rev]
  first
    | exact wpAny_bind (m := Builtin.Tuple.tupleExact _) (wpAny_newObj_type (wpAny_pure ⟨_, rfl, wpAny_pure h⟩) hk)
    | exact wpAny_bind (m := Builtin.Tuple.tupleExact _) (wpAny_newObj_type (wpAny_bind (wpAny_pure (wpAny_pure ⟨_, rfl, wpAny_pure h⟩))) hk)
    | exact wpAny_bind (wpAny_bind (m := Builtin.Tuple.tupleExact _) (wpAny_newObj_type (wpAny_pure (wpAny_pure ⟨_, rfl, wpAny_pure h⟩)) hk))
    | exact wpAny_bind (wpAny_bind (m := Builtin.Tuple.tupleExact _) (wpAny_newObj_type (wpAny_pure ⟨_, rfl, wpAny_pure h⟩) hk))
end
section
variable {X : Cx} {g : Gd}
def tRevT (K : PySem.W.Frag) (te : TE) : TE := fun σ H Q => te σ H fun x H1 => ∃ a xs, x = .ref a ∧ SqT K H1 a xs ∧ ∀ p, H1 p = none → Q (.ref p) (upd H1 p (.tup xs.reverse))
theorem pe_revT {e : Expr} {te : TE} {k : Nat} {p1 p2 p3 pos : Pos} (he : PE X e te) : PE X (.Subscript e (.Slice none none (some (.UnaryOp .USub (.Constant (.int 1) k p1) p2)) p3) pos) (tRevT X.K te) := by
  refine ⟨fun pins s σ H Q I h => Subscript_ (thn (he.run pins s σ H _ I h) fun v s1 ⟨x, H1, I1, r1, a, xs, ex, hx, q⟩ => ?_)⟩
  subst ex
  cases r1
  have hst : PO X (some (.UnaryOp .USub (.Constant (.int 1) k p1) p2)) (tPart (tUn (rU fun i => .int (-i)) (tC (.int 1)))) := po_some (pe_un un_neg pe_int)
  refine wpAny_Slice ?_
  rw [evalPart_none]
  refine wpAny_pure (wpAny_pure (thn (hst.run pins s1 σ H1 (fun o H4 => o = some (-1) ∧ H4 = H1) I1 ⟨1, rfl, -1, rfl, rfl, rfl⟩) fun vs s4 ⟨o, H4, I4, ps, eo, e4⟩ => ?_))
  subst eo e4
  have I5 : Inv X pins σ H4 { s4 with heap := s4.heap.push { cls := .type "slice", data := .fields #[.none, .none, vs] } } := I4.kept (t' := s4.toks) fun b ob q => Heap.get?_push_of_some _ q
  obtain ⟨its, r, ht, hz⟩ := I5.tuple hx
  have hl := r.length
  refine show wpAny (model X.prog X.w) X.A (subscriptTail e (.Slice none none (some (.UnaryOp .USub (.Constant (.int 1) k p1) p2)) p3) (.ref a) (.ref s4.heap.objs.size)) (EP X pins σ Q) X.xe { s4 with heap := s4.heap.push { cls := .type "slice", data := .fields #[.none, .none, vs] } } from
    tail_any (ops := [.ref a, .ref s4.heap.objs.size]) ht.typeIs PyProof.Rows.slot_tuple_getitem.lookup ?_ (by with_unfolding_all rfl)
  cases ps with
  | int i u =>
    refine getItem_rev ht (Heap.IsSliceOf.new ..) (by rw [List.size_toArray]; omega) ?_
    refine ⟨.ref _, _, I5.laid (t' := s4.toks) (o := .tup xs.reverse) (fun b ob q => Heap.get?_push_of_some _ q) (Nat.le_refl _) ?_, rfl, q _ (I5.hok.fresh (Nat.le_refl _))⟩
    exact ⟨by rw [List.length_reverse]; exact hz, _, r.reverse, IsTup.new _ _⟩
theorem rels_rev {K : PySem.W.Frag} {mg : Str → Option Value} {B H : Hp} : ∀ {vs : List V} {ds : List D}, Rels K mg B H vs ds [] → Rels K mg B H vs.reverse ds.reverse []
  | _, [], h => by cases h; exact .nil
  | _, d :: ds, h => by
    generalize hF : ([] : List Addr) = F at h
    cases h with
    | cons h1 h2 =>
      obtain ⟨rfl, rfl⟩ := List.append_eq_nil_iff.mp hF.symm
      rw [List.reverse_cons, List.reverse_cons]
      exact (rels_rev h2).append (.cons (F := []) (G := []) h1 .nil)
def dRevT (t : DE) : DE := fun r Q X => t r (fun d r1 => match d with
  | .tup xs => stbL xs = true ∧ Q (.tup xs.reverse) r1
  | _ => False) X
def dRevL (t : DE) : DE := fun r Q X => t r (fun d r1 => match d with
  | .lst _ xs => stbL xs = true ∧ Q (.lst true xs.reverse) r1
  | _ => False) X
theorem se_revT {q : Bool} {a : Expr} {t : DE} {k : Nat} {p1 p2 p3 pos : Pos} (ha : SB X g q a t) : SE X g q (.Subscript a (.Slice none none (some (.UnaryOp .USub (.Constant (.int 1) k p1) p2)) p3) pos) (dRevT t) := by
  obtain ⟨te, pe, ka⟩ := ha.run
  refine ⟨_, pe_revT pe, fun fx st r ts B H col Qd Xd Q ok s ht hQ => ?_⟩
  refine ka fx st r ts B H col _ Xd _ ok s ht fun v d r1 B1 H1 c1 h1 sB sH s1 w1 => ?_
  cases d with
  | tup xs =>
    obtain ⟨a, vs, F, rfl, hs, rr⟩ := w1.tup s1.bh
    refine ⟨a, vs, rfl, hs, fun p hp => ?_⟩
    obtain ⟨B', c, sb, s2⟩ := s1.newT (rels_rev (rr.stable h1.1)) hp
    exact hQ _ _ r1 _ _ c h1.2 (sB.trans sb) (fun q => (sH q).trans (same_new hp)) s2
  | _ => exact h1.elim
theorem se_revL {q : Bool} {a : Expr} {t : DE} {k : Nat} {p1 p2 p3 pos : Pos} (ha : SB X g q a t) : SE X g q (.Subscript a (.Slice none none (some (.UnaryOp .USub (.Constant (.int 1) k p1) p2)) p3) pos) (dRevL t) := by
  obtain ⟨te, pe, ka⟩ := ha.run
  refine ⟨_, pe_revL pe, fun fx st r ts B H col Qd Xd Q ok s ht hQ => ?_⟩
  refine ka fx st r ts B H col _ Xd _ ok s ht fun v d r1 B1 H1 c1 h1 sB sH s1 w1 => ?_
  cases d with
  | lst o xs =>
    obtain ⟨a, vs, F, rfl, hs, rr⟩ := w1.lst s1.bh
    refine ⟨a, vs, rfl, .inl (.inl hs), fun p hp => ?_⟩
    obtain ⟨c, s2⟩ := s1.newL (rels_rev (rr.stable h1.1)) hp
    exact hQ _ _ r1 _ _ c h1.2 sB (fun q => (sH q).trans (same_new hp)) s2
  | _ => exact h1.elim

/-! ### -x -/
def dNeg (t : DE) : DE := fun r Q X => t r (fun d r1 => got (asI d) fun i => Q (.int (-i)) r1) X
theorem se_neg {q : Bool} {a : Expr} {t : DE} {pos : Pos} (ha : SB X g q a t) : SE X g q (.UnaryOp .USub a pos) (dNeg t) := by
  obtain ⟨te, pe, ka⟩ := ha.run
  refine ⟨_, pe_un un_neg pe, fun fx st r ts B H col Qd Xd Q ok s ht hQ => ?_⟩
  refine ka fx st r ts B H col _ Xd _ ok s ht fun v d r1 B1 H1 c1 h1 sB sH s1 w1 => ?_
  obtain ⟨i, e1, h2⟩ := got_cases h1
  have := asI_some e1; subst this
  exact ⟨i, view_int w1, hQ _ _ r1 B1 H1 c1 h2 sB sH (s1.push (.int _))⟩
/-! ### constants of a module -/
theorem se_glob {x : Str} {v : V} {u : Value} {d : D} {pos : Pos} (hg : Gl X x) (hm : X.mg x = some u) (r : RelV v u) (hr : ∀ B H, Rel X.K X.mg B H v d []) (hd : (x == ("__debug__" : Str)) = false := by decide) : SE X g true (.Name x pos) (dC d) :=
  se_c (pe_glob hg hm r hd) hr
theorem se_gInt {x : Str} {i : Int} {t : Tok} {pos : Pos} (hg : Gl X x) (hm : X.mg x = some (.int i t)) (hd : (x == ("__debug__" : Str)) = false := by decide) : SE X g true (.Name x pos) (dC (.int i)) :=
  se_glob hg hm (show RelV (V.int i) _ from ⟨t, rfl⟩) (fun _ _ => .int i) hd

/-! ### all, any of lists -/
def blsOf : List D → Option (List Bool)
  | [] => some []
  | .bl i :: xs => (blsOf xs).map (i :: ·)
  | _ :: _ => none
theorem rels_blsOf {K : PySem.W.Frag} {mg : Str → Option Value} {B H : Hp} : ∀ {vs : List V} {ds : List D} {F : List Addr} {ns : List Bool}, Rels K mg B H vs ds F → blsOf ds = some ns → vs = ns.map V.bl
  | _, [], _, _, h, e => by cases h; cases e; rfl
  | _, d :: ds, _, ns, h, e => by
    cases h with
    | cons h1 h2 =>
      cases d <;> simp only [blsOf] at e <;> try (cases e; done)
      obtain ⟨ms, e1, e2⟩ := Option.map_eq_some_iff.mp e
      subst e2
      cases h1
      rw [rels_blsOf h2 e1]; rfl
def gAll : List D → Option D
  | [.lst _ xs] => (blsOf xs).map fun bs => .bl (bs.all id)
  | _ => none
def gAny : List D → Option D
  | [.lst _ xs] => (blsOf xs).map fun bs => .bl (bs.any id)
  | _ => none
theorem oc_all (hc : X.calm = true := by rfl) : OpC X (.builtin "all") gAll := by
  refine ⟨_, cr_all hc, fun B H vs ds z Q b w hz hQ => ?_⟩
  unfold gAll at hz
  split at hz
  · obtain ⟨ns, e1, e2⟩ := Option.map_eq_some_iff.mp hz
    subst e2
    obtain ⟨v, ev, w1⟩ := vws1 w; subst ev
    obtain ⟨a, vs, F, rfl, h, r⟩ := w1.lst b
    have := rels_blsOf r e1; subst this
    exact ⟨a, ns, rfl, .inl (.inl h), hQ _ (.bl _)⟩
  · cases hz
theorem oc_any (hc : X.calm = true := by rfl) : OpC X (.builtin "any") gAny := by
  refine ⟨_, cr_any hc, fun B H vs ds z Q b w hz hQ => ?_⟩
  unfold gAny at hz
  split at hz
  · obtain ⟨ns, e1, e2⟩ := Option.map_eq_some_iff.mp hz
    subst e2
    obtain ⟨v, ev, w1⟩ := vws1 w; subst ev
    obtain ⟨a, vs, F, rfl, h, r⟩ := w1.lst b
    have := rels_blsOf r e1; subst this
    exact ⟨a, ns, rfl, .inl (.inl h), hQ _ (.bl _)⟩
  · cases hz

/-! ### walks: a text, reversed -/
def signsD (z : Str) : List D := z.cps.toList.map fun c => .str ⟨#[c]⟩
theorem walkD_str {K : PySem.W.Frag} {mg : Str → Option Value} {B : Hp} {z : Str} : WalkD K mg B (Its z) (signsD z) := by
  have hl : (signsD z).length = z.cps.size := by unfold signsD; rw [List.length_map, Array.length_toList]
  refine ⟨fun _ => True, fun i H v H' => H' = H ∧ ∃ c, z.cps[i]? = some c ∧ v = .str ⟨#[c]⟩, by rw [hl]; exact walk_str, fun _ _ => trivial, fun i x B1 H1 H2 b1 b2 ⟨e, c, ec, ex⟩ => ?_⟩
  subst e ex
  exact ⟨.str ⟨#[c]⟩, by unfold signsD; rw [List.getElem?_map, Array.getElem?_toList, ec]; rfl, rfl, B1, Same.refl _, .str _, .inl ⟨rfl, rfl⟩⟩
def diStr (t : DE) : DA := fun r Q X => t r (fun d r1 => match d with
  | .str z => Q (signsD z) r1
  | _ => False) X
theorem si_str {q : Bool} {tg e : Expr} {t : DE} (h : SB X g q e t) : SI X g q tg e (diStr t) := by
  obtain ⟨te, pe, k⟩ := h.run
  refine ⟨_, pi_str pe, fun fx st r ts B H col Qd Xd R ok s ht hR => ?_⟩
  refine k fx st r ts B H col _ Xd _ ok s ht fun v d r1 B1 H1 c1 h1 sB sH s1 w1 => ?_
  cases d with
  | str z =>
    have := view_str w1; subst this
    exact ⟨z, rfl, hR _ r1 B1 H1 c1 _ h1 sB sH s1 walkD_str⟩
  | _ => exact h1.elim
end
end FM

set_option Elab.async false
set_option linter.all false
set_option maxRecDepth 100000
/-! rules for any kind of operand -/
namespace FM
open PySem PySem.Spec PyProof.Rows L2
def orG (g1 g2 : D → D → Option D) (x y : D) : Option D := match g1 x y with
  | some z => some z
  | none => g2 x y
def orC (g1 g2 : List D → Option D) (xs : List D) : Option D := match g1 xs with
  | some z => some z
  | none => g2 xs
def orE (t u : DE) : DE := fun r Q X => t r Q X ∨ u r Q X
def orI (t u : DA) : DA := fun r Q X => t r Q X ∨ u r Q X
section
variable {X : Cx} {g : Gd}
theorem orG_some {g1 g2 : D → D → Option D} {x y z : D} (h : orG g1 g2 x y = some z) : g1 x y = some z ∨ g2 x y = some z := by
  unfold orG at h
  split at h
  · rename_i w e; cases h; exact .inl e
  · exact .inr h
theorem orC_some {g1 g2 : List D → Option D} {xs : List D} {z : D} (h : orC g1 g2 xs = some z) : g1 xs = some z ∨ g2 xs = some z := by
  unfold orC at h
  split at h
  · rename_i w e; cases h; exact .inl e
  · exact .inr h
theorem OpA.or {f : Value → Value → Sem Value} {g1 g2 : D → D → Option D} (h1 : OpA X f g1) (h2 : OpA X f g2) : OpA X f (orG g1 g2) := by
  obtain ⟨r1, o1, k1⟩ := h1
  obtain ⟨r2, o2, k2⟩ := h2
  refine ⟨_, OpR.or o1 o2, fun B H v u d e z Q b w1 w2 hz hQ => ?_⟩
  rcases orG_some hz with hz | hz
  · exact .inl (k1 B H v u d e z Q b w1 w2 hz hQ)
  · exact .inr (k2 B H v u d e z Q b w1 w2 hz hQ)
theorem OpAN.or {f : Value → Value → Sem Value} {g1 g2 : D → D → Option D} (h1 : OpAN X f g1) (h2 : OpAN X f g2) : OpAN X f (orG g1 g2) := by
  obtain ⟨r1, o1, k1⟩ := h1
  obtain ⟨r2, o2, k2⟩ := h2
  refine ⟨_, OpR.or o1 o2, fun B H v u d e z Q b w1 w2 hz hQ => ?_⟩
  rcases orG_some hz with hz | hz
  · exact .inl (k1 B H v u d e z Q b w1 w2 hz hQ)
  · exact .inr (k2 B H v u d e z Q b w1 w2 hz hQ)
theorem OpC.or {f : Value} {g1 g2 : List D → Option D} (h1 : OpC X f g1) (h2 : OpC X f g2) : OpC X f (orC g1 g2) := by
  obtain ⟨r1, o1, k1⟩ := h1
  obtain ⟨r2, o2, k2⟩ := h2
  refine ⟨_, CallR.or o1 o2, fun B H vs ds z Q b w hz hQ => ?_⟩
  rcases orC_some hz with hz | hz
  · exact .inl (k1 B H vs ds z Q b w hz hQ)
  · exact .inr (k2 B H vs ds z Q b w hz hQ)
theorem OpCN.or {f : Value} {g1 g2 : List D → Option D} (h1 : OpCN X f g1) (h2 : OpCN X f g2) : OpCN X f (orC g1 g2) := by
  obtain ⟨r1, o1, k1⟩ := h1
  obtain ⟨r2, o2, k2⟩ := h2
  refine ⟨_, CallR.or o1 o2, fun B H vs ds z Q b w hz hQ => ?_⟩
  rcases orC_some hz with hz | hz
  · exact .inl (k1 B H vs ds z Q b w hz hQ)
  · exact .inr (k2 B H vs ds z Q b w hz hQ)
theorem pe_or {e : Expr} {t u : TE} (h1 : PE X e t) (h2 : PE X e u) : PE X e (fun st H Q => t st H Q ∨ u st H Q) := ⟨fun pins s st H Q I h => by
  rcases h with h | h
  · exact h1.run pins s st H Q I h
  · exact h2.run pins s st H Q I h⟩
theorem pi_or {tg e : Expr} {t u : TI} (h1 : PI X tg e t) (h2 : PI X tg e u) : PI X tg e (fun st H Q => t st H Q ∨ u st H Q) := ⟨fun pins s st H Q I h => by
  rcases h with h | h
  · exact h1.run pins s st H Q I h
  · exact h2.run pins s st H Q I h⟩
theorem SE.or {q : Bool} {e : Expr} {t u : DE} (h1 : SE X g q e t) (h2 : SE X g q e u) : SE X g q e (orE t u) := by
  obtain ⟨te, pe, k1⟩ := h1.run
  obtain ⟨te2, pe2, k2⟩ := h2.run
  refine ⟨_, pe_or pe pe2, fun fx st r ts B H col Qd Xd Q ok s ht hQ => ?_⟩
  rcases ht with ht | ht
  · exact .inl (k1 fx st r ts B H col Qd Xd Q ok s ht hQ)
  · exact .inr (k2 fx st r ts B H col Qd Xd Q ok s ht hQ)
theorem SI.or {q : Bool} {tg e : Expr} {t u : DA} (h1 : SI X g q tg e t) (h2 : SI X g q tg e u) : SI X g q tg e (orI t u) := by
  obtain ⟨te, pe, k1⟩ := h1.run
  obtain ⟨te2, pe2, k2⟩ := h2.run
  refine ⟨_, pi_or pe pe2, fun fx st r ts B H col Qd Xd Q ok s ht hQ => ?_⟩
  rcases ht with ht | ht
  · exact .inl (k1 fx st r ts B H col Qd Xd Q ok s ht hQ)
  · exact .inr (k2 fx st r ts B H col Qd Xd Q ok s ht hQ)
/-- quiet is no harm -/
theorem SE.any {q : Bool} {e : Expr} {t : DE} (h : SE X g true e t) : SE X g q e t := by
  obtain ⟨te, pe, k⟩ := h.run
  exact ⟨te, pe, fun fx st r ts B H col Qd Xd Q ok s ht hQ => k fx st r ts B H col Qd Xd Q ok s ht fun v d r' B' H' c' a b c e => hQ v d r' B' H' c' a b (fun _ => c rfl) e⟩

/-! ### the operators -/
def uAdd : D → D → Option D := orG gAdd (orG gAddS (orG gCatT gCatL))
def uMul : D → D → Option D := orG gMul (orG gRepL gRepT)
def uLt : D → D → Option D := orG gLt (gS fun i j => decide (i.cps.toList < j.cps.toList))
def uLe : D → D → Option D := orG gLe (gS fun i j => !decide (j.cps.toList < i.cps.toList))
def uGt : D → D → Option D := orG gGt (gS fun i j => decide (j.cps.toList < i.cps.toList))
def uGe : D → D → Option D := orG gGe (gS fun i j => !decide (i.cps.toList < j.cps.toList))
def uEq : D → D → Option D := orG (gEqA id) (gEqD id)
def uNe : D → D → Option D := orG (gEqA not) (gEqD not)
def uIn : D → D → Option D := orG (gIn id) (gSign id)
def uNi : D → D → Option D := orG (gIn not) (gSign not)
theorem ou_add : OpAN X (binaryOp .Add) uAdd := .or (OpA.an oa_addI) (.or (OpA.an oa_addS) (.or on_catT on_catL))
theorem ou_mul : OpAN X (binaryOp .Mult) uMul := .or (OpA.an oa_mul) (.or on_repL on_repT)
theorem ou_lt : OpA X (compareOp .Lt) uLt := .or oa_lt oa_ltS
theorem ou_le : OpA X (compareOp .LtE) uLe := .or oa_le oa_leS
theorem ou_gt : OpA X (compareOp .Gt) uGt := .or oa_gt oa_gtS
theorem ou_ge : OpA X (compareOp .GtE) uGe := .or oa_ge oa_geS
theorem ou_eq (hu : X.A.units + 64 < cLine) : OpA X (compareOp .Eq) uEq := .or oa_eq (oa_eqD hu)
theorem ou_ne (hu : X.A.units + 64 < cLine) : OpA X (compareOp .NotEq) uNe := .or oa_ne (oa_neD hu)
theorem ou_in : OpA X (compareOp .In) uIn := .or oa_in oa_inSign
theorem ou_ni : OpA X (compareOp .NotIn) uNi := .or oa_notIn oa_niSign
/-! ### a name, taken -/
def dVarU (i : Nat) : DE := fun r Q _ => got (slotAt r i) fun d => (stb d = true ∧ Q d r) ∨ Q (frz d) (r.set i (some (frz d)))
theorem se_varU {i : Nat} {e : Expr} (p : PE X e (tVar i)) (hi : i ∉ g.I) : SE X g true e (dVarU i) := by
  refine ⟨_, p, fun fx st r ts B H col Qd Xd Q ok s ht hQ => ?_⟩
  obtain ⟨d, e1, h⟩ := get_cases ht
  rcases h with ⟨hs, h⟩ | h
  · obtain ⟨v, e2, w⟩ := s.viewSlot e1
    exact ⟨v, e2, hQ v d r B H col h (Same.refl B) (fun _ => Same.refl H) (s.push (w.stable hs))⟩
  · obtain ⟨v, e2, s'⟩ := s.freezeSlot (ok.ne hi) e1
    exact ⟨v, e2, hQ v _ _ _ H _ h (s.sameF _) (fun _ => Same.refl H) s'⟩
/-! ### what is walked -/
theorem si_any {q : Bool} {tg e : Expr} {t : DE} (h : SE X g q e t) : SI X g q tg e (orI (diTup t) (orI (diLst t) (diStr t))) := .or (si_tup h) (.or (si_lst h) (si_str h.sb))
def dRevU (t : DE) : DE := orE (dRevT t) (dRevL t)
theorem se_revU {q : Bool} {a : Expr} {t : DE} {k : Nat} {p1 p2 p3 pos : Pos} (ha : SB X g q a t) : SE X g q (.Subscript a (.Slice none none (some (.UnaryOp .USub (.Constant (.int 1) k p1) p2)) p3) pos) (dRevU t) := .or (se_revT ha) (se_revL ha)
theorem oc_maxU (hc : X.calm = true := by rfl) : OpC X (.builtin "max") (orC gMaxL gMax2) := .or (oc_maxL hc) (oc_max2 hc)
theorem oc_minU (hc : X.calm = true := by rfl) : OpC X (.builtin "min") (orC gMinL gMin2) := .or (oc_minL hc) (oc_min2 hc)
theorem passF {P : Program} {w : World} (h : X.prog = P) (h2 : X.w = w) : Passes (L2N.CX X.prog X.w) X (fun _ _ _ => False) := fun _ _ _ _ _ _ _ h => by
  obtain ⟨_, _, _, _, _, _, _, _, _, _, _, _, z⟩ := h
  exact z.elim
end
section
variable {P : Program} {w : World} {K : PySem.W.Frag} {mg : Str → Option Value} {base : Heap} {N : List Str} {qual : Str} {scope : Scope} {f : Addr} {cd : Value} {A : Around} {outer : List Env} {s : Shared} {H : Hp} {E : XK}
theorem tkD : L2N.Takes (cxOf (L2N.CX P w) P w K mg base N qual scope f cd A outer s H E) (fun c d _ H => E c d H) := L2N.takes_of rfl rfl rfl rfl
theorem psD : Passes (L2N.CX P w) (cxOf (L2N.CX P w) P w K mg base N qual scope f cd A outer s H E) E := L2N.passes_call tkD fun _ _ _ _ h => h
theorem poD : PassesOwn (model P w) (cxOf (L2N.CX P w) P w K mg base N qual scope f cd A outer s H E).A (cxOf (L2N.CX P w) P w K mg base N qual scope f cd A outer s H E).env (cxOf (L2N.CX P w) P w K mg base N qual scope f cd A outer s H E).xe := passes_of (X := cxOf (L2N.CX P w) P w K mg base N qual scope f cd A outer s H E) rfl
end
end FM

set_option Elab.async false
set_option linter.all false
set_option maxRecDepth 100000
namespace FM
open PySem PySem.Spec PyProof.Rows L2
/-- a class of errors of the program: it is made with a text, and raised -/
structure ErrK (K : PySem.W.Frag) (mg : Str → Option Value) (x : Str) : Prop where
  ex : ∃ (C : Addr) (bmB : List Value) (Bc newId initId : String), ExcBaseFacts Bc newId initId bmB ∧ PySem.W.excIn K C bmB newId = true ∧ mg x = some (.ref C) ∧ PySem.W.keepIn K (.ref C) = true ∧
    PySem.W.subIn K (.ref C) (.type "BaseException") = some true ∧ PySem.W.typeIn K (.ref C) = some (.type "type")
section
variable {X : Cx} {g : Gd}
theorem s_raiseK {x m : Str} {j : Nat} {p p2 pos pos' : Pos} (e : ErrK X.K X.mg x) (hc : X.calm = true) (tk : L2N.Takes X fun c d _ H => g.E c d H) (hg : Gl X x) (hdb : (x == ("__debug__" : Str)) = false := by decide) :
    SS X g (.Raise (some (.Call (.Name x p) [.Constant (.str m) j p2] [] pos)) none pos') (dRaise x) := by
  obtain ⟨C, bmB, Bc, n1, n2, F, q, gC, kC, s1, s2⟩ := e.ex
  exact s_raise hc tk F q gC kC (raises_own s1 s2) hg hdb
theorem se_gIntE {x : Str} {i : Int} {pos : Pos} (hg : Gl X x) (hm : ∃ t, X.mg x = some (.int i t)) (hd : (x == ("__debug__" : Str)) = false := by decide) : SE X g true (.Name x pos) (dC (.int i)) := by
  obtain ⟨t, e⟩ := hm
  exact se_gInt hg e hd
/-- a constant of a module whose value is data -/
def GlobD (K : PySem.W.Frag) (mg : Str → Option Value) (x : Str) (d : D) : Prop := ∃ (v : V) (u : Value), mg x = some u ∧ RelV v u ∧ ∀ B H, Rel K mg B H v d []
theorem se_gDat {x : Str} {d : D} {pos : Pos} (hg : Gl X x) (hm : GlobD X.K X.mg x d) (hd : (x == ("__debug__" : Str)) = false := by decide) : SE X g true (.Name x pos) (dC d) := by
  obtain ⟨v, u, e, r, k⟩ := hm
  exact se_glob hg e r k hd
theorem u100 {k : Nat} {A : Around} (r : Room k A) : A.units + 100 < cLine := by have := r.un; omega
def uiAdd : D → D → Option D := orG gAdd gAddS
theorem ou_iadd : OpA X (inplaceOp .Add) uiAdd := .or oi_add oi_addS
end
section
variable {X : Cx} {g : Gd}
theorem SE.toQ {q q' : Bool} {e : Expr} {t : DE} (h : SE X g q e t) (hq : q' = q) : SE X g q' e t := by subst hq; exact h
theorem se_compK {q qt qe : Bool} {elt tg iter : Expr} {ifs : List Expr} {scope : Scope} {own : List (Str × Nat)} {ow : List Nat} {gs : List Nat} {pos : Pos} {ti : DA} {u : DG} {tt : DT} {te : DE} (hc : X.calm = true) (hN : X.N.Nodup) (hi : SI X g q tg iter ti) (ok : BlkOk X.N X.env.scope scope own) (ho : own.map (·.2) = ow)
    (hg : ∀ (s : Shared) (H : Hp) (C : Addr) (cl : List (Str × Addr)) (fp : List Addr), SG (X.blk s H scope (compEnvC scope cl C X.env) fp) g.q gs tg u) (ht : ∀ (s : Shared) (H : Hp) (C : Addr) (cl : List (Str × Addr)) (fp : List Addr), STs (X.blk s H scope (compEnvC scope cl C X.env) fp) g.q qt ifs tt)
    (he : ∀ (s : Shared) (H : Hp) (C : Addr) (cl : List (Str × Addr)) (fp : List Addr), SE (X.blk s H scope (compEnvC scope cl C X.env) fp) g.q qe elt te) (hgs : ∀ i ∈ gs, i ∈ ow) (hI : ∀ i ∈ ow, i ∉ g.I) (hs : ∀ x, foldedSetIterable iter X.env x = pure x := by intro _; rfl) :
    SE X g (q && (qt && qe)) (.ListComp elt [⟨tg, iter, ifs, 0⟩] scope pos) (dComp ti ow u tt te) := by
  subst ho
  exact se_comp hc hN hi ok hg ht he hgs hI hs
theorem s_setCompK {q qt qe : Bool} {i : Nat} {y : Str} {py : Pos} {elt tg iter : Expr} {ifs : List Expr} {scope : Scope} {own : List (Str × Nat)} {ow : List Nat} {gs : List Nat} {pos spos : Pos} {ti : DA} {u : DG} {tt : DT} {te : DE} (hc : X.calm = true) (hN : X.N.Nodup) (hy : X.N[i]? = some y) (hyl : X.env.scope.names.lookup y = some .local) (hyI : i ∉ g.I)
    (hsw : swapsWith (.ListComp elt [⟨tg, iter, ifs, 0⟩] scope pos) (some (.Name y py)) spos.line X.env = pure true) (hi : SI X g q tg iter ti) (ok : BlkOk X.N X.env.scope scope own) (ho : own.map (·.2) = ow)
    (hg : ∀ (s : Shared) (H : Hp) (C : Addr) (cl : List (Str × Addr)) (fp : List Addr), SG (X.blk s H scope (compEnvC scope cl C X.env) fp) g.q gs tg u) (ht : ∀ (s : Shared) (H : Hp) (C : Addr) (cl : List (Str × Addr)) (fp : List Addr), STs (X.blk s H scope (compEnvC scope cl C X.env) fp) g.q qt ifs tt)
    (he : ∀ (s : Shared) (H : Hp) (C : Addr) (cl : List (Str × Addr)) (fp : List Addr), SE (X.blk s H scope (compEnvC scope cl C X.env) fp) g.q qe elt te) (hgs : ∀ i ∈ gs, i ∈ ow) (hI : ∀ i ∈ ow, i ∉ g.I) (hs : ∀ x, foldedSetIterable iter X.env x = pure x := by intro _; rfl) :
    SS X g (.Assign [.Name y py] (.ListComp elt [⟨tg, iter, ifs, 0⟩] scope pos) spos) (dAsg (dComp ti ow u tt te) (dgName i)) := by
  subst ho
  exact s_setComp hc hN hy hyl hyI hsw hi ok hg ht he hgs hI hs
end
/-- a def of the program: where it stands, how its arguments bind -/
structure DefK (K : PySem.W.Frag) (mg : Str → Option Value) (x : Str) (st : Stmt) (ps : List Str) (f : Addr) (fd : FuncData) : Prop where
  fn : Fun K x x st f fd
  gl : mg x = some (.ref f)
  bi : Binds K fd ps []
def rtE (io : List Nat) (Q : D → List D → Prop) : DEnds := ⟨fun r => got (slotsAt r io) (Q .non), fun d r => got (slotsAt r io) (Q d), fun _ => False, fun _ => False⟩
def fsOf (n : Nat) (io : List Nat) (m : Nat) (tb : DS) : FSpec := ⟨n, io, fun ds Q X => tb (rtE io Q) X (ds.map some ++ List.replicate (m - n) none)⟩
section
variable {P : Program} {w : World} {K : PySem.W.Frag} {mg : Str → Option Value} {base : Heap}
theorem fnG_of {x : Str} {st : Stmt} {f : Addr} {fd : FuncData} {N ps : List Str} {k n : Nat} {io : List Nat} {tb : DS} (D : DefK K mg x st ps f fd) (S : FnScope N ps (defScope st)) (hn : ps.length = n)
    (hb : ∀ (cdv : Value) (A : Around) (outer : List Env) (s : Shared) (H : Hp) (E : XK), Room k (A.deeper (envOfC x (defScope st) s.heap.objs.size f cdv)) → A.guards = some [] →
      SSs (cxOf (L2N.CX P w) P w K mg base N x (defScope st) f cdv A outer s H E) ⟨E, io⟩ (defBody st) tb) : FnG P w K mg base (k + 1) f fd ps (spOf K mg (fsOf n io N.length tb)) :=
  fn_ok D.fn S (fsOf n io N.length tb) hn hb fun ds Qd Xd hd h => h
end
end FM

set_option Elab.async false
set_option linter.all false
set_option maxRecDepth 100000
/-! a def that tries: classes of errors as things, isinstance of a caught one, except .. as e -/
namespace FM
open PySem PySem.Spec PyProof.Rows L2
section
variable {X : Cx} {g : Gd}
/-- a class by its name -/
theorem se_cls {x : Str} {pos : Pos} (hg : Gl X x) (hm : ∃ C, X.mg x = some (.ref C)) (hd : (x == ("__debug__" : Str)) = false := by decide) : SE X g true (.Name x pos) (dC (.cls x)) := by
  obtain ⟨C, e⟩ := hm
  exact se_glob (v := .ref C) hg e rfl (fun _ _ => .cls e) hd
/-- which classes are parts of which -/
def IsaK (K : PySem.W.Frag) (mg : Str → Option Value) (T : Str → Str → Option Bool) : Prop := ∀ x y b, T x y = some b → ∃ C D, mg x = some (.ref C) ∧ mg y = some (.ref D) ∧ ExcC K C ∧ PySem.W.kitOne K (.ref C) (.ref D) = some b
def clsOf : List D → Option (List Str)
  | [] => some []
  | .cls i :: xs => (clsOf xs).map (i :: ·)
  | _ :: _ => none
def anyB (T : Str → Str → Option Bool) (x : Str) : List Str → Option Bool
  | [] => some false
  | y :: ys => match T x y, anyB T x ys with
    | some true, _ => some true
    | some false, r => r
    | none, _ => none
def gIsa (T : Str → Str → Option Bool) (a : Addr) (x0 : Str) : List D → Option D
  | [.exc b x, .cls y] => if b = a ∧ x = x0 then (T x0 y).map D.bl else none
  | [.exc b x, .tup ys] => if b = a ∧ x = x0 then (clsOf ys).bind fun ns => (anyB T x0 ns).map D.bl else none
  | _ => none
theorem rels_cls {K : PySem.W.Frag} {mg : Str → Option Value} {B H : Hp} : ∀ {vs : List V} {ds : List D} {F : List Addr} {ns : List Str}, Rels K mg B H vs ds F → clsOf ds = some ns → ∃ cs : List Addr, vs = cs.map V.ref ∧ Paired (fun C y => mg y = some (.ref C)) cs ns
  | _, [], _, _, h, e => by cases h; cases e; exact ⟨[], rfl, .nil⟩
  | _, d :: ds, _, ns, h, e => by
    cases h with
    | cons h1 h2 =>
      cases d <;> simp only [clsOf] at e <;> try (cases e; done)
      obtain ⟨ms, e1, e2⟩ := Option.map_eq_some_iff.mp e
      subst e2
      obtain ⟨cs, e3, p⟩ := rels_cls h2 e1
      cases h1 with
      | @cls C _ hm => exact ⟨C :: cs, by rw [e3]; rfl, .cons hm p⟩
theorem any_kit {K : PySem.W.Frag} {mg : Str → Option Value} {T : Str → Str → Option Bool} (hT : IsaK K mg T) {x : Str} {C : Addr} (hx : mg x = some (.ref C)) : ∀ {cs : List Addr} {ns : List Str} {b : Bool}, Paired (fun C y => mg y = some (.ref C)) cs ns → anyB T x ns = some b → PySem.W.kitAny K (.ref C) (cs.map Value.ref) = some b
  | _, _, b, .nil, e => by cases e; rfl
  | _, _, b, .cons h p, e => by
    rename_i c y cs ns
    unfold anyB at e
    cases hy : T x y with
    | none => rw [hy] at e; cases e
    | some k =>
      obtain ⟨C', D', e1, e2, _, e3⟩ := hT x y k hy
      rw [hx] at e1; cases e1
      rw [h] at e2; cases e2
      rw [hy] at e
      refine kitAny_cons e3 (fun hk => ?_) (fun hk => ?_)
      · subst hk
        exact any_kit hT hx p e
      · subst hk
        simp only [Option.some.injEq] at e
        exact e.symm
theorem vals_refs2 : ∀ (cs : List Addr) {its : List Value}, Vals (cs.map V.ref) its → its = cs.map Value.ref
  | [], _, h => by cases h; rfl
  | c :: cs, _, h => by
    cases h with
    | cons a b =>
      cases a
      rw [vals_refs2 cs b]; rfl
def rIsa2 (T : Str → Str → Option Bool) (mg : Str → Option Value) (K : PySem.W.Frag) (a : Addr) (x0 : Str) : List V → Hp → VK → Prop := fun xs H Q => ∃ v, xs = [.ref a, v] ∧
  ((∃ y D b, v = .ref D ∧ mg y = some (.ref D) ∧ T x0 y = some b ∧ Q (.bl b) H) ∨ ∃ p cs ns b, v = .ref p ∧ SqT K H p (cs.map V.ref) ∧ Paired (fun C y => mg y = some (.ref C)) cs ns ∧ anyB T x0 ns = some b ∧ Q (.bl b) H)
theorem cr_isa {a C : Addr} {oe : Obj} {pn : List (Addr × Obj)} {T : Str → Str → Option Bool} {x0 : Str} (hT : IsaK X.K X.mg T) (hx : X.mg x0 = some (.ref C)) (hC : ExcC X.K C) (hz : L2N.Zn (.ref C) none oe) (hf : ∃ vs, oe.data = .fields vs) : CallR (X.suite a ((a, oe) :: pn)) (.builtin "isinstance") (rIsa2 T X.mg X.K a x0) := by
  intro pins s σ H xs us Q I r h
  obtain ⟨v, rfl, h⟩ := h
  obtain ⟨u1, u2, rfl, r1, r2⟩ := vals2 r
  have e1 : u1 = Value.ref a := r1
  subst e1
  obtain ⟨hget, _⟩ := I.pin (a, oe) (List.mem_append.mpr (.inl List.mem_cons_self))
  obtain ⟨vs, hv⟩ := hf
  have J : PySem.W.InstAt s.heap a oe C none := by
    obtain ⟨oc, od, oda, osl⟩ := oe
    obtain ⟨h1, h2, _⟩ := hz
    dsimp only at h1 h2 hv
    subst h1 h2 hv
    exact ⟨hget, rfl, rfl, trivial⟩
  have Z := PySem.W.handS_kitx_exc (x := a) (ox := oe) hC.hg hC.hk hC.hs hC.hd hC.ha hC.hn hC.ht hC.hm
  rcases h with ⟨y, D, b, rfl, e2, e3, q⟩ | ⟨p, cs, ns, b, rfl, hs, hp, e3, q⟩
  · obtain ⟨C', D', f1, f2, _, f3⟩ := hT x0 y b e3
    rw [hx] at f1; cases f1
    rw [e2] at f2; cases f2
    have e4 : u2 = Value.ref D := r2
    subst e4
    exact PySem.W.kia_one Z I.kIn J f3 (fun z => nomatch z) fun tk => ⟨.bl b, H, I.kept (t' := tk) fun _ _ z => z, rfl, q⟩
  · have e4 : u2 = Value.ref p := r2
    subst e4
    obtain ⟨its, rv, pl, _⟩ := I.tuple hs
    have := vals_refs2 cs rv; subst this
    obtain ⟨⟨oc, od, dt, sl⟩, h1, h2, n, h3⟩ := pl
    simp only at h2 h3
    subst h2 h3
    exact PySem.W.kia_tup Z I.kIn J h1 (any_kit hT hx hp e3) (fun z => nomatch z) fun tk => ⟨.bl b, H, I.kept (t' := tk) fun _ _ z => z, rfl, q⟩
theorem oc_isa {a C : Addr} {oe : Obj} {pn : List (Addr × Obj)} {T : Str → Str → Option Bool} {x0 : Str} (hT : IsaK X.K X.mg T) (hx : X.mg x0 = some (.ref C)) (hC : ExcC X.K C) (hz : L2N.Zn (.ref C) none oe) (hf : ∃ vs, oe.data = .fields vs) : OpC (X.suite a ((a, oe) :: pn)) (.builtin "isinstance") (gIsa T a x0) := by
  refine ⟨_, cr_isa hT hx hC hz hf, fun B H vs ds z Q b w hz' hQ => ?_⟩
  unfold gIsa at hz'
  split at hz'
  · split at hz'
    · rename_i hh
      obtain ⟨rfl, rfl⟩ := hh
      obtain ⟨k, e1, e2⟩ := Option.map_eq_some_iff.mp hz'
      subst e2
      obtain ⟨v, u, ev, w1, w2⟩ := vws2 w; subst ev
      obtain ⟨F, w1⟩ := w1
      obtain ⟨G, w2⟩ := w2
      cases w1
      cases w2 with
      | @cls D _ hm => exact ⟨_, rfl, .inl ⟨_, D, k, rfl, hm, e1, hQ _ (.bl _)⟩⟩
    · cases hz'
  · split at hz'
    · rename_i hh
      obtain ⟨rfl, rfl⟩ := hh
      obtain ⟨ns, e1, e2⟩ := Option.bind_eq_some_iff.mp hz'
      obtain ⟨k, e3, e4⟩ := Option.map_eq_some_iff.mp e2
      subst e4
      obtain ⟨v, u, ev, w1, w2⟩ := vws2 w; subst ev
      obtain ⟨F, w1⟩ := w1
      cases w1
      obtain ⟨p, vs, F, rfl, hs, rr⟩ := w2.tup b
      obtain ⟨cs, e5, pp⟩ := rels_cls rr e1
      subst e5
      exact ⟨_, rfl, .inr ⟨p, cs, ns, k, rfl, hs, pp, e3, hQ _ (.bl _)⟩⟩
    · cases hz'
  · cases hz'
/-- statements, as a term -/
def cSs (X : Cx) (g : Gd) (t : DS) : TS := fun Dh st H => ∃ (fx : Fx) (r : DEnv) (B : Hp) (col : Col) (Dd : DEnds) (Xd : XP), g.Ok X fx Xd ∧ SR X.K X.mg fx st r [] B H col ∧ t Dd Xd r ∧ Fin X fx B Dd Dh
theorem SSs.canon {ss : List Stmt} {t : DS} (h : SSs X g ss t) : PSs X ss (cSs X g t) := by
  obtain ⟨ts, ps, k⟩ := h.run
  exact ⟨fun pins s st H Dh I ⟨fx, r, B, col, Dd, Xd, ok, sr, ht, f⟩ => ps.run pins s st H Dh I (k fx st r B H col Dd Xd Dh ok sr ht f)⟩
theorem pss_ex {α : Sort _} {ss : List Stmt} {p : α → Prop} {t : α → TS} (h : ∀ x, p x → PSs X ss (t x)) : PSs X ss (fun D st H => ∃ x, p x ∧ t x D st H) :=
  ⟨fun pins s st H D I ⟨x, q, k⟩ => (h x q).run pins s st H D I k⟩
end

theorem SR.rebase {K : PySem.W.Frag} {mg : Str → Option Value} {fx : Fx} {st : L2.St} {r : DEnv} {ts : List (V × D)} {B H H2 : Hp} {col : Col} (s : SR K mg ⟨H2, fx.B0, fun _ => none, []⟩ st r ts B H col) (io : fx.io.map (·.1) = [])
    (hf : ∀ a o, fx.H0 a = some o → fx.IO a = none → H2 a = some o) (hs : ∀ a o, fx.H0 a = some o → ∃ o', H2 a = some o') : SR K mg fx st r ts B H col := by
  have up : ∀ a, H2 a = none → fx.H0 a = none := fun a e => by
    cases q : fx.H0 a with
    | none => rfl
    | some o =>
      obtain ⟨o', z⟩ := hs a o q
      rw [e] at z; cases z
  refine ⟨s.slot, s.temp, s.bh, s.b0, fun a o e n => s.frame a o (hf a o e n) rfl, fun a o e => ?_, fun a c e => ?_, fun a o e => ?_, s.nb, s.th, fun p hp => ?_, s.len⟩
  · obtain ⟨o', z⟩ := hs a o e
    exact s.stay a o' z
  · rcases s.new a c e with z | ⟨p, hp, _⟩
    · exact .inl (up a z)
    · exact (nomatch hp)
  · rcases s.grow a o e with z | z
    · exact .inl z
    · exact .inr (up a z)
  · rw [List.map_eq_nil_iff] at io
    rw [io] at hp
    exact (nomatch hp)
/-- what is caught: a class's name to whether the clause takes it -/
structure CatchK (K : PySem.W.Frag) (mg : Str → Option Value) (c : Value) (T : Str → Option Bool) : Prop where
  ex : ∀ x b, T x = some b → ∃ C, mg x = some (.ref C) ∧ ExcC K C ∧ PySem.W.exmOne K (.ref C) c = some b
def excAt (n i : Nat) (a : Addr) (x : Str) : DEnv := (List.replicate n none).set i (some (.exc a x))
/-- a def whose body is one try with one clause -/
def tryW (T : Str → Option Bool) (tb : DS) (th : Addr → Str → DS) (n m i : Nat) : List D → (D → List D → Prop) → XP → Prop := fun ds Q X =>
  tb (rtE [] Q) (fun x => match T x.cls with
    | some true => x.fs = [] ∧ ∀ a, th a x.cls (rtE [] Q) X0 (excAt m i a x.cls)
    | some false => X x
    | none => False) (ds.map some ++ List.replicate (m - n) none)
def fsTry (n m i : Nat) (T : Str → Option Bool) (tb : DS) (th : Addr → Str → DS) : FSpec := ⟨n, [], tryW T tb th n m i⟩
section
variable {P : Program} {w : World} {K : PySem.W.Frag} {mg : Str → Option Value} {base : Heap}
theorem fnG_try {x cx y : Str} {st : Stmt} {f : Addr} {fd : FuncData} {N ps : List Str} {k n i : Nat} {tb : DS} {th : Addr → Str → DS} {T : Str → Option Bool} {c : Value} {np pos pos' : Pos} {body suite : List Stmt} {b0 : Stmt}
    (D : DefK K mg x st ps f fd) (S : FnScope N ps (defScope st)) (hn : ps.length = n) (hbody : defBody st = [.Try body [.ExceptHandler (some (.Name cx np)) (some y) (b0 :: suite) pos'] [] [] pos]) (hi : N[i]? = some y) (hy : (defScope st).names.lookup y = some .local)
    (hc : mg cx = some c) (hcx : (defScope st).names.lookup cx = some .globalImplicit ∨ (defScope st).names.lookup cx = none) (hcd : (cx == ("__debug__" : Str)) = false) (hT : CatchK K mg c T)
    (hgl : ∀ (cdv : Value) (A : Around) (outer : List Env) (s : Shared) (H : Hp) (E : XK), Gl (cxOf (L2N.CX P w) P w K mg base N x (defScope st) f cdv A outer s H E) cx)
    (hb : ∀ (cdv : Value) (A : Around) (outer : List Env) (s : Shared) (H : Hp) (E E' : XK) (pn : List (Addr × Obj)) (xe : Value → Shared → Prop), Room k (A.deeper (envOfC x (defScope st) s.heap.objs.size f cdv)) → A.guards = some [] →
      L2N.Takes ((cxOf (L2N.CX P w) P w K mg base N x (defScope st) f cdv A outer s H E).tr pn xe) (fun c d _ H => E' c d H) → PassesOwn (model P w) (A.deeper (envOfC x (defScope st) s.heap.objs.size f cdv)) (envOfC x (defScope st) s.heap.objs.size f cdv) xe →
      SSs ((cxOf (L2N.CX P w) P w K mg base N x (defScope st) f cdv A outer s H E).tr pn xe) ⟨E', []⟩ body tb)
    (hh : ∀ (cdv : Value) (A : Around) (outer : List Env) (s : Shared) (H : Hp) (E : XK) (a C : Addr) (oe : Obj) (pn : List (Addr × Obj)) (x0 : Str), Room k (A.deeper (envOfC x (defScope st) s.heap.objs.size f cdv)) → mg x0 = some (.ref C) → ExcC K C → L2N.Zn (.ref C) none oe → (∃ vs, oe.data = .fields vs) → A.guards = some [] →
      SSs ((cxOf (L2N.CX P w) P w K mg base N x (defScope st) f cdv A outer s H E).suite a ((a, oe) :: pn)) ⟨fun _ _ _ => False, []⟩ (b0 :: suite) (th a x0)) :
    FnG P w K mg base (k + 1) f fd ps (spOf K mg (fsTry n N.length i T tb th)) := by
  refine Fun.okG D.fn S (fun vs H Q E h => h.1.trans hn.symm) fun cdv A outer s H vs Q E hr hgd hsp => ?_
  obtain ⟨hl, fx, ds, B, col, Qd, Xd, rfl, rfl, io, hd, sr, hio, wp, hQ, lk⟩ := hsp
  have hl' : vs.length = n := hl
  rw [hbody]
  -- the wish inside
  let Xi : XP := fun x => match T x.cls with
    | some true => x.fs = [] ∧ ∀ a, th a x.cls (rtE [] Qd) X0 (excAt N.length i a x.cls)
    | some false => Xd x
    | none => False
  let E1 : XK := fun c d H' => ∃ x : Exc, Xi x ∧ ExcRel mg H' x c d ∧ (∀ a o, fx.H0 a = some o → fx.IO a = none → H' a = some o) ∧ (∀ a o, fx.H0 a = some o → ∃ o', H' a = some o')
  have hhC : ∀ (a : Addr) (oe : Obj) (cls : Value) (d : Option Addr) (pn : List (Addr × Obj)), L2N.Zn cls d oe → (∃ vs, oe.data = .fields vs) →
      PSs ((cxOf (L2N.CX P w) P w K mg base N x (defScope st) f cdv A outer s fx.H0 E).suite a ((a, oe) :: pn)) (b0 :: suite)
        (fun Dh st2 H2 => ∃ q : Str × Addr, (mg q.1 = some (.ref q.2) ∧ ExcC K q.2 ∧ cls = .ref q.2 ∧ d = none) ∧ ∃ (fx2 : Fx) (r : DEnv) (B2 : Hp) (col2 : Col) (Dd : DEnds) (Xd2 : XP), (fx2.io.map (·.1) = [] ∧ Link mg fx2 Xd2 (fun _ _ _ => False)) ∧ SR K mg fx2 st2 r [] B2 H2 col2 ∧ th a q.1 Dd Xd2 r ∧
          (∀ st r B' H' col, Dd.nx r → Same B2 B' → SR K mg fx2 st r [] B' H' col → Dh.nx st H') ∧ (∀ v d st r B' H' col, Dd.rt d r → Same B2 B' → SR K mg fx2 st r [(v, d)] B' H' col → Dh.rt v H') ∧ (∀ r, ¬ Dd.bk r) ∧ (∀ r, ¬ Dd.ct r)) := by
    intro a oe cls d pn hz hf
    refine pss_ex fun q ⟨q1, q2, q3, q4⟩ => ?_
    subst q3 q4
    have := (hh cdv A outer s fx.H0 E a q.2 oe pn q.1 hr q1 q2 hz hf hgd).canon
    exact ⟨fun pins s2 st2 H2 Dh I ⟨fx2, r, B2, col2, Dd, Xd2, ok, sr2, ht, f1, f2, f3, f4⟩ => this.run pins s2 st2 H2 Dh I ⟨fx2, r, B2, col2, Dd, Xd2, ⟨ok.1, ok.2⟩, sr2, ht, ⟨f1, f2, fun st r B' H' c h => absurd h (f3 r), fun st r B' H' c h => absurd h (f4 r)⟩⟩⟩
  refine ⟨_, pss_one (L2N.ps_try_as (i := i) (c := c) (n := y) (x := cx) rfl rfl S.nd hi hy ⟨hgl cdv A outer s fx.H0 E, hcd, .inl hc⟩ tkD (tb := fun W Dh st2 H2 => ∃ E' : XK, (∀ c d H' σ, σ.length = N.length → E' c d H' → W c d σ H') ∧ ∃ (r : DEnv) (B2 : Hp) (col2 : Col) (Dd : DEnds) (Xd2 : XP), (fx.io.map (·.1) = [] ∧ Link mg fx Xd2 E') ∧ SR K mg fx st2 r [] B2 H2 col2 ∧ tb Dd Xd2 r ∧
          (∀ st r B' H' col, Dd.nx r → Same B2 B' → SR K mg fx st r [] B' H' col → Dh.nx st H') ∧ (∀ v d st r B' H' col, Dd.rt d r → Same B2 B' → SR K mg fx st r [(v, d)] B' H' col → Dh.rt v H') ∧ (∀ r, ¬ Dd.bk r) ∧ (∀ r, ¬ Dd.ct r)) (fun W pn xe tk po => ?_) hhC), ?_⟩
  · refine ⟨fun pins s2 st2 H2 Dh I ⟨E', hW, r, B2, col2, Dd, Xd2, ok, sr2, ht, f1, f2, f3, f4⟩ => ?_⟩
    have tk2 : L2N.Takes ((cxOf (L2N.CX P w) P w K mg base N x (defScope st) f cdv A outer s fx.H0 E).tr pn xe) (fun c d _ H => E' c d H) := fun u s' ⟨a, B, sI, pins, σ, H, cls, d, e, I, nb, up, sky, na, os, ag, hw⟩ =>
      tk u s' ⟨a, B, sI, pins, σ, H, cls, d, e, I, nb, up, sky, na, os, ag, hW _ _ _ _ I.len hw⟩
    have := (hb cdv A outer s fx.H0 E E' pn xe hr hgd tk2 po).canon
    exact this.run pins s2 st2 H2 Dh I ⟨fx, r, B2, col2, Dd, Xd2, ⟨ok.1, ok.2⟩, sr2, ht, ⟨f1, f2, fun st r B' H' c h => absurd h (f3 r), fun st r B' H' c h => absurd h (f4 r)⟩⟩
  · have sr' := sr.start (N.length - n)
    have es : start N vs = vs.map some ++ List.replicate (N.length - n) none := by unfold L2.start; rw [hl']
    show ∃ E' : XK, _
    rw [es]
    refine ⟨E1, fun c2 d2 H2 σ hσ ⟨ex, hx, er, hf, hs⟩ => ?_, _, _, col, rtE [] Qd, Xi, ⟨io, fun x0 c0 d0 H' a b c e => ⟨x0, a, b, c, e⟩⟩, sr', wp, fun st2 r B' H' c2 h sb s1 => ?_, fun v d st2 r B' H' c2 h sb s1 => ?_, fun _ h => h, fun _ h => h⟩
    · obtain ⟨C, e1, e2, e3⟩ := er
      have hx' : (match T ex.cls with
        | some true => ex.fs = [] ∧ ∀ a, th a ex.cls (rtE [] Qd) X0 (excAt N.length i a ex.cls)
        | some false => Xd ex
        | none => False) := hx
      cases hT2 : T ex.cls with
      | none => rw [hT2] at hx'; exact hx'.elim
      | some b =>
        obtain ⟨C', g1, g2, g3⟩ := hT.ex ex.cls b hT2
        rw [e1] at g1; cases g1
        subst e2
        refine ⟨b, g3, fun hbt a na => ?_, fun hbf => ?_⟩
        · subst hbt
          rw [hT2] at hx'
          obtain ⟨hfs, hth⟩ := hx'
          have hd0 : d2 = none := by
            rcases e3 with ⟨_, z⟩ | ⟨z, _⟩
            · exact z
            · exact absurd hfs z
          subst hd0
          have hb0 : ∀ b o, fx.B0 b = some o → H2 b = some o := fun b o e => by
            refine hf b o (sr.bh b o e) ?_
            cases q : fx.IO b with
            | none => rfl
            | some p =>
              have := sr.nb b _ (hio b p q)
              rw [e] at this; cases this
          refine ⟨(ex.cls, C), ⟨e1, g2, rfl, rfl⟩, ⟨H2, fx.B0, fun _ => none, []⟩, excAt N.length i a ex.cls, fx.B0, fun _ => none, rtE [] Qd, X0, ⟨rfl, fun _ _ _ _ z => z.elim⟩, ?_, hth a, fun st3 r B' H' c3 h sb s1 => ?_, fun v d st3 r B' H' c3 h sb s1 => ?_, fun _ h => h, fun _ h => h⟩
          · refine ⟨fun j d e => ?_, fun k v d e => by simp at e, hb0, Same.refl _, fun _ _ e _ => e, fun _ o e => ⟨o, e⟩, fun _ _ e => (nomatch e), fun _ _ e => .inl e, fun _ _ e => (nomatch e), fun _ _ e => (nomatch e), fun _ hp => (nomatch hp), ?_⟩
            · unfold excAt at e
              by_cases hj : j = i
              · subst hj
                have hlt : j < (List.replicate N.length (none : Option FM.D)).length := by
                  rw [List.length_replicate]; exact (List.getElem?_eq_some_iff.mp hi).1
                rw [List.getElem?_set_self hlt] at e
                cases e
                refine ⟨.ref a, [], ?_, .exc, List.nodup_nil, fun _ z => nomatch z⟩
                rw [List.length_replicate] at hlt
                exact List.getElem?_set_self (by rw [hσ]; exact hlt)
              · rw [List.getElem?_set_ne (Ne.symm hj), List.getElem?_replicate] at e
                split at e <;> cases e
            · unfold excAt
              rw [List.length_set, List.length_replicate, List.length_set, hσ]
          · obtain ⟨outs, e5, h⟩ := got_cases (show got (slotsAt r []) (Qd .non) from h)
            exact hQ .non .non outs st3 r B' H' c3 e5 h (SR.push (ts := []) (s1.rebase io hf hs) .non)
          · obtain ⟨outs, e5, h⟩ := got_cases (show got (slotsAt r []) (Qd d) from h)
            exact hQ v d outs st3 r B' H' c3 e5 h (s1.rebase io hf hs)
        · subst hbf
          rw [hT2] at hx'
          exact lk ex _ d2 H2 hx' ⟨C, e1, rfl, e3⟩ hf hs
    · obtain ⟨outs, e1, h⟩ := got_cases (show got (slotsAt r []) (Qd .non) from h)
      exact hQ .non .non outs st2 r B' H' c2 e1 h (SR.push (ts := []) s1 .non)
    · obtain ⟨outs, e1, h⟩ := got_cases (show got (slotsAt r []) (Qd d) from h)
      exact hQ v d outs st2 r B' H' c2 e1 h s1
end
end FM

set_option Elab.async false
set_option linter.all false
set_option maxRecDepth 100000
/-! what the trees' terms come to -/
namespace FM
open PySem PySem.Spec PyProof.Rows L2
theorem nr {α : Sort _} {a b : α} (h : a = b) : a = b := h
section
variable {α : Type} {P : α → Prop} {z : α} {r : DEnv} {Q : D → DEnv → Prop} {Qb : Bool → DEnv → Prop} {Ql : List D → DEnv → Prop} {Qk : List AK → DEnv → Prop} {X : XP} {E : DEnds} {t u v : DE} {tb ub : DS} {c k : DT} {a b : DA} {gg : D → D → Option D} {d e : D} {i j : Nat}
@[simp] theorem got_s : got (some z) P = P z := nr rfl
@[simp] theorem got_n : got (none : Option α) P = False := nr rfl
@[simp] theorem e_seq : dSeq tb ub E X r = tb ⟨fun r1 => ub E X r1, E.rt, E.bk, E.ct⟩ X r := nr rfl
@[simp] theorem e_next : dNext E X r = E.nx r := nr rfl
@[simp] theorem e_brk : dBrk E X r = E.bk r := nr rfl
@[simp] theorem e_cnt : dCnt E X r = E.ct r := nr rfl
@[simp] theorem e_drop : dDrop t E X r = t r (fun _ r1 => E.nx r1) X := nr rfl
@[simp] theorem e_ret : dRet t E X r = t r (fun d r1 => E.rt d r1) X := nr rfl
@[simp] theorem e_retN : dRetN E X r = E.rt .non r := nr rfl
@[simp] theorem e_ifS : dIfS c tb ub E X r = c r (fun b r1 => if b = true then tb E X r1 else ub E X r1) X := nr rfl
@[simp] theorem e_raise {x : Str} : dRaise x E X r = X ⟨x, []⟩ := nr rfl
@[simp] theorem e_name {Qn : DEnv → Prop} : dgName i d r Qn = (i < r.length ∧ Qn (r.set i (some d))) := nr rfl
@[simp] theorem e_gtup {n : Nat} {us : DGs} {Qn : DEnv → Prop} : dgTup n us d r Qn = got (asTup n d) fun ds => stbL ds = true ∧ us ds r Qn := nr rfl
@[simp] theorem e_gnil {ds : List D} {Qn : DEnv → Prop} : dgNil ds r Qn = (ds = [] ∧ Qn r) := nr rfl
@[simp] theorem e_gcons {tg : DG} {us : DGs} {ds : List D} {Qn : DEnv → Prop} : dgCons tg us (d :: ds) r Qn = tg d r fun r1 => us ds r1 Qn := nr rfl
@[simp] theorem e_asg {tg : DG} : dAsg t tg E X r = t r (fun d r1 => tg d r1 E.nx) X := nr rfl
@[simp] theorem e_aug : dAug i gg t E X r = got (slotAt r i) fun x => stb x = true ∧ t r (fun y r1 => got (gg x y) fun z => i < r1.length ∧ E.nx (r1.set i (some z))) X := nr rfl
@[simp] theorem e_setIx : dSetIx i t u E X r = u r (fun d r1 => got (slotAt r1 i) fun _ => t r1 (fun k r2 => got (slotAt r2 i) fun c => got (ownL c) fun xs => got (asI k) fun n => got (ixN xs.length n) fun j => E.nx (r2.set i (some (.lst true (xs.set j d))))) X) X := nr rfl
@[simp] theorem e_for {tg : DG} : dFor a tg tb E X r = a r (fun items r1 => forW tg tb E X items r1) X := nr rfl
@[simp] theorem e_var : dVar i r Q X = got (slotAt r i) fun d => stb d = true ∧ Q d r := nr rfl
@[simp] theorem e_varB : dVarB i r Q X = got (slotAt r i) fun d => Q d r := nr rfl
@[simp] theorem e_varU : dVarU i r Q X = got (slotAt r i) fun d => (stb d = true ∧ Q d r) ∨ Q (frz d) (r.set i (some (frz d))) := nr rfl
@[simp] theorem e_mov : dMov i r Q X = got (slotAt r i) fun d => Q d (r.set i none) := nr rfl
@[simp] theorem e_c : dC d r Q X = Q d r := nr rfl
@[simp] theorem e_op : dOp gg t u r Q X = t r (fun x r1 => u r1 (fun y r2 => got (gg x y) fun z => Q z r2) X) X := nr rfl
@[simp] theorem e_opS : dOpS gg t u r Q X = t r (fun x r1 => stb x = true ∧ u r1 (fun y r2 => got (gg x y) fun z => Q z r2) X) X := nr rfl
@[simp] theorem e_ix : dIx t u r Q X = t r (fun x r1 => u r1 (fun y r2 => got (ixD x y) fun z => stb z = true ∧ Q z r2) X) X := nr rfl
@[simp] theorem e_ixB : dIxB t u r Q X = t r (fun x r1 => u r1 (fun y r2 => got (ixD x y) fun z => Q z r2) X) X := nr rfl
@[simp] theorem e_ixS : dIxS t u r Q X = t r (fun x r1 => stb x = true ∧ u r1 (fun y r2 => got (ixD x y) fun z => Q z r2) X) X := nr rfl
@[simp] theorem e_pick : dPick a t r Q X = a r (fun ds r1 => Small ds.length ∧ stbL ds = true ∧ t r1 (fun y r2 => got (ixD (.tup ds) y) fun z => Q z r2) X) X := nr rfl
@[simp] theorem e_nil : daNil r Ql X = Ql [] r := nr rfl
@[simp] theorem e_cons : daCons t a r Ql X = t r (fun d r1 => a r1 (fun ds r2 => Ql (d :: ds) r2) X) X := nr rfl
@[simp] theorem e_tup : dTup a r Q X = a r (fun ds r1 => Small ds.length ∧ Q (.tup ds) r1) X := nr rfl
@[simp] theorem e_lst : dLst a r Q X = a r (fun ds r1 => Small ds.length ∧ Q (.lst true ds) r1) X := nr rfl
@[simp] theorem e_cl {g1 : List D → Option D} : dCl g1 a r Q X = a r (fun ds r1 => got (g1 ds) fun z => Q z r1) X := nr rfl
@[simp] theorem e_app : dApp i t r Q X = got (slotAt r i) fun c => got (ownL c) fun _ => t r (fun d r1 => got (slotAt r1 i) fun c => got (ownL c) fun xs => Small (xs.length + 1) ∧ Q .non (r1.set i (some (.lst true (xs ++ [d]))))) X := nr rfl
@[simp] theorem e_knil : dkNil r Qk X = Qk [] r := nr rfl
@[simp] theorem e_kc {w : DAk} : dkC t w r Qk X = t r (fun d r1 => w r1 (fun as r2 => Qk (.c d :: as) r2) X) X := nr rfl
@[simp] theorem e_kb {w : DAk} : dkB i w r Qk X = got (slotAt r i) fun _ => w r (fun as r2 => Qk (.b i :: as) r2) X := nr rfl
@[simp] theorem e_km {w : DAk} : dkM i w r Qk X = got (slotAt r i) fun _ => w r (fun as r2 => Qk (.m i :: as) r2) X := nr rfl
@[simp] theorem e_call {fs : FSpec} {w : DAk} : dCall fs w r Q X = w r (fun as r1 => got (argDs r1 as) fun ds => callOk fs r1 as = true ∧ fs.wp ds (fun d outs => (buOf r1 as = [] ∨ (nofl d = true ∧ noflL outs = true)) ∧ Q d (putAll r1 (msOf as) outs)) X) X := nr rfl
@[simp] theorem e_tE : dtE t r Qb X = t r (fun d r1 => got (asB d) fun b => Qb b r1) X := nr rfl
@[simp] theorem e_tTru : dtTru t r Qb X = t r (fun d r1 => got (truD d) fun b => Qb b r1) X := nr rfl
@[simp] theorem e_tAnd : dtAnd c k r Qb X = c r (fun b r1 => if b = true then k r1 Qb X else Qb false r1) X := nr rfl
@[simp] theorem e_tOr : dtOr c k r Qb X = c r (fun b r1 => if b = true then Qb true r1 else k r1 Qb X) X := nr rfl
@[simp] theorem e_tNot : dtNot c r Qb X = c r (fun b r1 => Qb (!b) r1) X := nr rfl
@[simp] theorem e_and : deAnd t u r Q X = t r (fun d r1 => got (asB d) fun b => if b = true then u r1 Q X else Q (.bl false) r1) X := nr rfl
@[simp] theorem e_or : deOr t u r Q X = t r (fun d r1 => got (asB d) fun b => if b = true then Q (.bl true) r1 else u r1 Q X) X := nr rfl
@[simp] theorem e_not : deNot t r Q X = t r (fun d r1 => got (asB d) fun b => Q (.bl (!b)) r1) X := nr rfl
@[simp] theorem e_chain {g1 g2 : D → D → Option D} : dChain g1 g2 t u v r Q X = t r (fun x r1 => u r1 (fun y r2 => got (g1 x y) fun z => got (asB z) fun k => if k = true then v r2 (fun w r3 => got (g2 y w) fun z => Q z r3) X else Q (.bl false) r2) X) X := nr rfl
@[simp] theorem e_if : dIf c t u r Q X = c r (fun b r1 => if b = true then t r1 Q X else u r1 Q X) X := nr rfl
@[simp] theorem e_neg : dNeg t r Q X = t r (fun d r1 => got (asI d) fun i => Q (.int (-i)) r1) X := nr rfl
@[simp] theorem e_sl {l h : DO} : dSl t l h r Q X = t r (fun x r1 => l r1 (fun a r2 => h r2 (fun b r3 => got (gSl x a b) fun z => Q z r3) X) X) X := nr rfl
@[simp] theorem e_so {Qo : Option Int → DEnv → Prop} : doSome t r Qo X = t r (fun d r1 => got (asI d) fun i => Qo (some i) r1) X := nr rfl
@[simp] theorem e_son {Qo : Option Int → DEnv → Prop} : doNone r Qo X = Qo none r := nr rfl
@[simp] theorem e_rng1 : diRng1 a r Ql X = a r (fun ds r1 => match ds with
  | [.int j] => R62 j ∧ Ql (rngD 0 j) r1
  | _ => False) X := nr rfl
@[simp] theorem e_rng2 : diRng2 a r Ql X = a r (fun ds r1 => match ds with
  | [.int i, .int j] => R62 i ∧ R62 j ∧ Ql (rngD i j) r1
  | _ => False) X := nr rfl
@[simp] theorem e_comp {ow : List Nat} {tg : DG} : dComp a ow tg c t r Q X = a r (fun items r1 => Small items.length ∧ hidOk r1 ow = true ∧ compW tg c t ow items (wipeD r1 ow) [] (fun acc r2 => Q (.lst true acc) (back r1 r2 ow))) X := nr rfl
/-! ### the operators on what is known -/
@[simp] theorem o_addI {x y : Int} : uAdd (.int x) (.int y) = some (.int (x + y)) := nr rfl
@[simp] theorem o_mulI {x y : Int} : gMul (.int x) (.int y) = if (-(2 ^ 64) < x ∧ x < 2 ^ 64) ∨ (-(2 ^ 64) < y ∧ y < 2 ^ 64) then some (.int (x * y)) else none := by
  simp only [gMul, gIc, decide_eq_true_eq]
@[simp] theorem o_subI {x y : Int} : gSub (.int x) (.int y) = some (.int (x - y)) := nr rfl
@[simp] theorem o_ltI {x y : Int} : uLt (.int x) (.int y) = some (.bl (decide (x < y))) := nr rfl
@[simp] theorem o_leI {x y : Int} : uLe (.int x) (.int y) = some (.bl (decide (x ≤ y))) := nr rfl
@[simp] theorem o_gtI {x y : Int} : uGt (.int x) (.int y) = some (.bl (decide (y < x))) := nr rfl
@[simp] theorem o_geI {x y : Int} : uGe (.int x) (.int y) = some (.bl (decide (y ≤ x))) := nr rfl
@[simp] theorem o_eqI {x y : Int} : uEq (.int x) (.int y) = some (.bl (decide (x = y))) := nr rfl
@[simp] theorem o_neI {x y : Int} : uNe (.int x) (.int y) = some (.bl (!decide (x = y))) := nr rfl
@[simp] theorem o_eqS {x y : Str} : uEq (.str x) (.str y) = some (.bl (decide (x = y))) := nr rfl
@[simp] theorem o_neS {x y : Str} : uNe (.str x) (.str y) = some (.bl (!decide (x = y))) := nr rfl
theorem o_mul {x y : Int} (h : (-(2 ^ 64) < x ∧ x < 2 ^ 64) ∨ (-(2 ^ 64) < y ∧ y < 2 ^ 64)) : uMul (.int x) (.int y) = some (.int (x * y)) := by
  unfold uMul orG
  rw [o_mulI, if_pos h]
@[simp] theorem o_div {x y : Int} (h : 0 < y) (h2 : y < 1073741824) : gDiv (.int x) (.int y) = some (.int (x / y)) := by
  simp [gDiv, gIc, h, h2]
@[simp] theorem o_mod {x y : Int} (h : 0 < y) : gMod (.int x) (.int y) = some (.int (x % y)) := by
  simp [gMod, gIc, h]
@[simp] theorem o_int {x : Int} : gInt [.int x] = some (.int x) := nr rfl
@[simp] theorem o_intB {x : Bool} : gInt [.bl x] = some (.int (if x then 1 else 0)) := nr rfl
@[simp] theorem o_lenT {xs : List D} : gLen [.tup xs] = some (.int xs.length) := nr rfl
@[simp] theorem o_lenL {o : Bool} {xs : List D} : gLen [.lst o xs] = some (.int xs.length) := nr rfl
@[simp] theorem o_asI {x : Int} : asI (.int x) = some x := nr rfl
@[simp] theorem o_asB {x : Bool} : asB (.bl x) = some x := nr rfl
@[simp] theorem o_own {xs : List D} : ownL (.lst true xs) = some xs := nr rfl
@[simp] theorem o_ixT {xs : List D} {x : Int} : ixD (.tup xs) (.int x) = atI xs x := nr rfl
@[simp] theorem o_ixL {o : Bool} {xs : List D} {x : Int} : ixD (.lst o xs) (.int x) = atI xs x := nr rfl
@[simp] theorem atI_0 {β : Type} {x : β} {xs : List β} : atI (x :: xs) 0 = some x := by simp [atI, ixN]
@[simp] theorem atI_1 {β : Type} {x y : β} {xs : List β} : atI (x :: y :: xs) 1 = some y := by
  have h : (1 : Int) < ((x :: y :: xs).length : Nat) := by simp only [List.length_cons]; omega
  simp only [atI, ixN]
  rw [if_pos (by decide), if_pos h]; rfl
@[simp] theorem atI_2 {β : Type} {x y z : β} {xs : List β} : atI (x :: y :: z :: xs) 2 = some z := by
  have h : (2 : Int) < ((x :: y :: z :: xs).length : Nat) := by simp only [List.length_cons]; omega
  simp only [atI, ixN]
  rw [if_pos (by decide), if_pos h]; rfl
@[simp] theorem atI_3 {β : Type} {x y z w : β} {xs : List β} : atI (x :: y :: z :: w :: xs) 3 = some w := by
  have h : (3 : Int) < ((x :: y :: z :: w :: xs).length : Nat) := by simp only [List.length_cons]; omega
  simp only [atI, ixN]
  rw [if_pos (by decide), if_pos h]; rfl
theorem atI_in {β : Type} {xs : List β} {i : Int} (h0 : 0 ≤ i) (h : i < xs.length) : ∃ x, atI xs i = some x ∧ xs[i.toNat]? = some x := by
  have hn : i.toNat < xs.length := by omega
  exact ⟨xs[i.toNat], by unfold atI ixN; rw [if_pos h0, if_pos h]; simp [hn], List.getElem?_eq_getElem hn⟩
end
@[simp] theorem slot_0 {x : Option D} {r : DEnv} : FM.slotAt (x :: r) 0 = x := nr (by cases r <;> rfl)
@[simp] theorem slot_s {x : Option D} {r : DEnv} {i : Nat} : FM.slotAt (x :: r) (i + 1) = FM.slotAt r i := nr rfl

@[simp] theorem e_argc {r : DEnv} {d : D} : argD r (.c d) = some (frz d) := nr rfl
@[simp] theorem e_argb {r : DEnv} {i : Nat} : argD r (.b i) = (FM.slotAt r i).map frz := nr rfl
@[simp] theorem e_argm {r : DEnv} {i : Nat} : argD r (.m i) = FM.slotAt r i := nr rfl
@[simp] theorem e_args0 {r : DEnv} : argDs r [] = some [] := nr rfl
theorem e_args1 {r : DEnv} {a : AK} {as : List AK} {d : D} {ds : List D} (h : argD r a = some d) (h2 : argDs r as = some ds) : argDs r (a :: as) = some (d :: ds) := by
  simp only [argDs, h, h2]
@[simp] theorem e_ms0 : msOf [] = [] := nr rfl
@[simp] theorem e_msc {d : D} {as : List AK} : msOf (.c d :: as) = msOf as := nr rfl
@[simp] theorem e_msb {i : Nat} {as : List AK} : msOf (.b i :: as) = msOf as := nr rfl
@[simp] theorem e_msm {i : Nat} {as : List AK} : msOf (.m i :: as) = i :: msOf as := nr rfl
@[simp] theorem e_bu0 {r : DEnv} : buOf r [] = [] := nr rfl
@[simp] theorem e_buc {r : DEnv} {d : D} {as : List AK} : buOf r (.c d :: as) = buOf r as := nr rfl
@[simp] theorem e_bum {r : DEnv} {i : Nat} {as : List AK} : buOf r (.m i :: as) = buOf r as := nr rfl
@[simp] theorem e_put0 {r : DEnv} {ds : List D} : putAll r [] ds = r := nr (by cases ds <;> rfl)
@[simp] theorem e_put1 {r : DEnv} {i : Nat} {is : List Nat} {d : D} {ds : List D} : putAll r (i :: is) (d :: ds) = putAll (r.set i (some d)) is ds := nr rfl
@[simp] theorem e_frzI {i : Int} : frz (.int i) = .int i := nr (by simp only [frz])
@[simp] theorem e_frzS {i : Str} : frz (.str i) = .str i := nr (by simp only [frz])
@[simp] theorem e_frzB {i : Bool} : frz (.bl i) = .bl i := nr (by simp only [frz])
@[simp] theorem e_stbI {i : Int} : stb (.int i) = true := nr rfl
@[simp] theorem e_stbS {i : Str} : stb (.str i) = true := nr rfl
@[simp] theorem e_stbB {i : Bool} : stb (.bl i) = true := nr rfl
end FM

set_option Elab.async false
set_option linter.all false
set_option maxRecDepth 100000
/-! loops and comprehensions by invariants -/
namespace FM
open PySem PySem.Spec PyProof.Rows L2
theorem forW_inv {u : DG} {tb : DS} {E : DEnds} {X : XP} (I : Nat → DEnv → Prop) : ∀ (items : List D) (n : Nat) (r : DEnv), I n r →
    (∀ (j : Nat) (d : D) (r : DEnv) (k : DEnv → Prop), items[j]? = some d → I (n + j) r → (∀ r2, I (n + j + 1) r2 → k r2) → u d r fun r1 => tb ⟨k, E.rt, E.nx, k⟩ X r1) →
    (∀ r, I (n + items.length) r → E.nx r) → forW u tb E X items r
  | [], n, r, h, _, e => e r h
  | d :: ds, n, r, h, st, e => by
    show u d r fun r1 => tb ⟨fun r2 => forW u tb E X ds r2, E.rt, E.nx, fun r2 => forW u tb E X ds r2⟩ X r1
    refine st 0 d r _ rfl h fun r2 h2 => forW_inv I ds (n + 1) r2 h2 (fun j d r k hj hi hk => ?_) fun r hr => e r ?_
    · refine st (j + 1) d r k (by simpa using hj) ?_ fun r2 h3 => hk r2 ?_
      · rw [show n + (j + 1) = n + 1 + j by omega]; exact hi
      · rw [show n + 1 + j + 1 = n + (j + 1) + 1 by omega]; exact h3
    · rw [List.length_cons, show n + (ds.length + 1) = n + 1 + ds.length by omega]; exact hr
/-- .. from the beginning -/
theorem for_inv {u : DG} {tb : DS} {E : DEnds} {X : XP} {items : List D} {r : DEnv} (I : Nat → DEnv → Prop) (h0 : I 0 r)
    (hs : ∀ (j : Nat) (d : D) (r : DEnv) (k : DEnv → Prop), items[j]? = some d → I j r → (∀ r2, I (j + 1) r2 → k r2) → u d r fun r1 => tb ⟨k, E.rt, E.nx, k⟩ X r1)
    (he : ∀ r, I items.length r → E.nx r) : forW u tb E X items r :=
  forW_inv I items 0 r h0 (fun j d r k a b c => hs j d r k a (by rw [Nat.zero_add] at b; exact b) fun r2 h => c r2 (by rw [Nat.zero_add]; exact h)) fun r h => he r (by rw [Nat.zero_add] at h; exact h)
/-- a comprehension: what is gathered, item by item -/
theorem comp_inv {u : DG} {tt : DT} {te : DE} {ow : List Nat} (I : Nat → DEnv → List D → Prop) : ∀ (items : List D) (n : Nat) (r : DEnv) (acc : List D) (Q : List D → DEnv → Prop), I n r acc →
    (∀ (j : Nat) (d : D) (r : DEnv) (acc : List D) (k : List D → DEnv → Prop), items[j]? = some d → I (n + j) r acc → (∀ r2 acc2, I (n + j + 1) r2 acc2 → k acc2 r2) → u d r fun r1 => tt r1 (fun b r2 => if b = true then te r2 (fun z r3 => k (acc ++ [z]) (wipeD r3 ow)) X0 else k acc (wipeD r2 ow)) X0) →
    (∀ r acc, I (n + items.length) r acc → Q acc r) → compW u tt te ow items r acc Q
  | [], n, r, acc, Q, h, _, e => e r acc h
  | d :: ds, n, r, acc, Q, h, st, e => by
    refine st 0 d r acc (fun a r => compW u tt te ow ds r a Q) rfl h fun r2 acc2 h2 => comp_inv I ds (n + 1) r2 acc2 Q h2 (fun j d r acc k hj hi hk => ?_) fun r acc hr => e r acc ?_
    · refine st (j + 1) d r acc k (by simpa using hj) ?_ fun r2 a2 h3 => hk r2 a2 ?_
      · rw [show n + (j + 1) = n + 1 + j by omega]; exact hi
      · rw [show n + 1 + j + 1 = n + (j + 1) + 1 by omega]; exact h3
    · rw [List.length_cons, show n + (ds.length + 1) = n + 1 + ds.length by omega]; exact hr
/-- a comprehension without a test, whose items change nothing -/
theorem comp_map {α : Type} {enc f : α → D} {u : DG} {te : DE} {ow : List Nat} {r0 : DEnv} : ∀ (xs : List α) (acc : List D) (Q : List D → DEnv → Prop),
    (∀ x ∈ xs, ∀ k : D → DEnv → Prop, k (f x) r0 → u (enc x) r0 fun r1 => te r1 (fun z r3 => k z (wipeD r3 ow)) X0) → Q (acc ++ xs.map f) r0 → compW u dtYes te ow (xs.map enc) r0 acc Q
  | [], acc, Q, _, hQ => by
    rw [List.map_nil, List.append_nil] at hQ
    exact hQ
  | x :: xs, acc, Q, h, hQ => by
    have h1 := h x (List.mem_cons_self ..) (fun z r => compW u dtYes te ow (xs.map enc) r (acc ++ [z]) Q) (comp_map xs (acc ++ [f x]) Q (fun y hy => h y (List.mem_cons_of_mem _ hy)) (by rw [List.append_assoc]; exact hQ))
    show u (enc x) r0 fun r1 => (if true = true then te r1 (fun y r3 => compW u dtYes te ow (xs.map enc) (wipeD r3 ow) (acc ++ [y]) Q) X0 else compW u dtYes te ow (xs.map enc) (wipeD r1 ow) acc Q)
    rw [show (fun r1 => (if true = true then te r1 (fun y r3 => compW u dtYes te ow (xs.map enc) (wipeD r3 ow) (acc ++ [y]) Q) X0 else compW u dtYes te ow (xs.map enc) (wipeD r1 ow) acc Q)) = fun r1 => te r1 (fun y r3 => compW u dtYes te ow (xs.map enc) (wipeD r3 ow) (acc ++ [y]) Q) X0 from funext fun r1 => if_pos rfl]
    exact h1
/-- a comprehension with a test, whose items change nothing -/
theorem comp_filt {α : Type} {enc f : α → D} {p : α → Bool} {u : DG} {tt : DT} {te : DE} {ow : List Nat} {r0 : DEnv} : ∀ (xs : List α) (acc : List D) (Q : List D → DEnv → Prop),
    (∀ x ∈ xs, ∀ (k : D → DEnv → Prop) (k2 : DEnv → Prop), (p x = true → k (f x) r0) → (p x = false → k2 r0) → u (enc x) r0 fun r1 => tt r1 (fun b r2 => if b = true then te r2 (fun z r3 => k z (wipeD r3 ow)) X0 else k2 (wipeD r2 ow)) X0) →
    Q (acc ++ (xs.filter p).map f) r0 → compW u tt te ow (xs.map enc) r0 acc Q
  | [], acc, Q, _, hQ => by
    rw [List.filter_nil, List.map_nil, List.append_nil] at hQ
    exact hQ
  | x :: xs, acc, Q, h, hQ => by
    have again2 := fun (acc2 : List D) (q : Q (acc2 ++ (xs.filter p).map f) r0) => comp_filt xs acc2 Q (fun y hy => h y (List.mem_cons_of_mem _ hy)) q
    refine h x (List.mem_cons_self ..) (fun z r => compW u tt te ow (xs.map enc) r (acc ++ [z]) Q) (fun r => compW u tt te ow (xs.map enc) r acc Q) (fun hp => ?_) (fun hp => ?_)
    · refine again2 _ ?_
      rw [List.filter_cons, if_pos hp, List.map_cons] at hQ
      rw [List.append_assoc]; exact hQ
    · refine again2 _ ?_
      rw [List.filter_cons, if_neg (by rw [hp]; exact Bool.false_ne_true)] at hQ
      exact hQ
end FM

set_option Elab.async false
set_option linter.all false
set_option maxRecDepth 100000
/-! the facts of a program's top, as the derivations want them -/
namespace FM
open PySem PySem.Spec PyProof.Rows L2
section
variable {K : PySem.W.Frag} {mg : Str → Option Value} {h : Heap}
/-- what the written part says of a class of errors -/
structure ErrF (K : PySem.W.Frag) (C : Addr) : Prop where
  b : PySem.W.subIn K (.ref C) (.type "BaseException") = some true
  t : PySem.W.typeIn K (.ref C) = some (.type "type")
  i : PySem.W.isClsIn K C = true
  s : PySem.W.subIn K (.ref C) (.ref C) = some true
theorem kit_of_sub {C D : Addr} {b : Bool} (hC : ErrF K C) (hD : ErrF K D) (h : PySem.W.subIn K (.ref C) (.ref D) = some b) : PySem.W.kitOne K (.ref C) (.ref D) = some b := by
  unfold PySem.W.kitOne
  split
  · rename_i e
    have e2 : Value.ref C = Value.ref D := eq_of_beq e
    cases e2
    rw [hC.s] at h
    exact h
  · show (if ((PySem.W.clsIn K D).isSome && PySem.W.typeIn K (.ref D) == some (.type "type")) = true then PySem.W.subIn K (.ref C) (.ref D) else none) = some b
    have e2 : ((PySem.W.clsIn K D).isSome && PySem.W.typeIn K (.ref D) == some (.type "type")) = true := by
      have h2 : (PySem.W.clsIn K D).isSome = true := hD.i
      rw [h2, hD.t]; rfl
    rw [if_pos e2]
    exact h
theorem exm_of_kit {C D : Addr} {b : Bool} (hD : ErrF K D) (h : PySem.W.kitOne K (.ref C) (.ref D) = some b) : PySem.W.exmOne K (.ref C) (.ref D) = some b := by
  have e1 : (PySem.W.subIn K (.ref D) (.type "BaseException") == some true) = true := by rw [hD.b]; rfl
  unfold PySem.W.exmOne
  rw [if_pos e1]
  have e2 : ((PySem.W.clsIn K D).isSome && PySem.W.typeIn K (.ref D) == some (.type "type")) = true := by
    have h2 : (PySem.W.clsIn K D).isSome = true := hD.i
    rw [h2, hD.t]; rfl
  unfold PySem.W.kitOne at h
  split at h
  · rename_i e
    have e3 : Value.ref C = Value.ref D := eq_of_beq e
    cases e3
    cases h
    show (if ((PySem.W.clsIn K C).isSome && PySem.W.typeIn K (.ref C) == some (.type "type")) = true then PySem.W.subIn K (.ref C) (.ref C) else none) = some true
    rw [if_pos e2, hD.s]
  · exact h
def IsaP (K : PySem.W.Frag) (mg : Str → Option Value) (x y : Str) (b : Bool) : Prop := ∃ C D, mg x = some (.ref C) ∧ mg y = some (.ref D) ∧ ExcC K C ∧ PySem.W.kitOne K (.ref C) (.ref D) = some b
def allR (P : Str → Str → Bool → Prop) (x : Str) : List (Str × Bool) → Prop
  | [] => True
  | q :: qs => P x q.1 q.2 ∧ allR P x qs
def allT (P : Str → Str → Bool → Prop) : List (Str × List (Str × Bool)) → Prop
  | [] => True
  | p :: ps => allR P p.1 p.2 ∧ allT P ps
theorem allR_at {P : Str → Str → Bool → Prop} {x y : Str} {b : Bool} : ∀ {l : List (Str × Bool)}, allR P x l → l.lookup y = some b → P x y b
  | [], _, e => by cases e
  | q :: qs, h, e => by
    rw [List.lookup_cons] at e
    cases hq : y == q.1 with
    | true =>
      rw [hq] at e
      have : y = q.1 := eq_of_beq hq
      subst this
      cases e
      exact h.1
    | false =>
      rw [hq] at e
      exact allR_at h.2 e
theorem allT_at {P : Str → Str → Bool → Prop} {x y : Str} {b : Bool} : ∀ {l : List (Str × List (Str × Bool))}, allT P l → ((l.lookup x).bind fun r => r.lookup y) = some b → P x y b
  | [], _, e => by cases e
  | q :: qs, h, e => by
    rw [List.lookup_cons] at e
    cases hq : x == q.1 with
    | true =>
      rw [hq] at e
      have : x = q.1 := eq_of_beq hq
      subst this
      exact allR_at h.1 e
    | false =>
      rw [hq] at e
      exact allT_at h.2 e
theorem isa_of {tab : List (Str × List (Str × Bool))} (h : allT (IsaP K mg) tab) : IsaK K mg (fun x y => (tab.lookup x).bind fun l => l.lookup y) := fun x y b e => allT_at h e
theorem catch_of {T : Str → Str → Option Bool} (hT : IsaK K mg T) {y : Str} {D : Addr} (hy : mg y = some (.ref D)) (hD : ErrF K D) : CatchK K mg (.ref D) (fun x => T x y) := ⟨fun x b e => by
  obtain ⟨C, D', g1, g2, hC, k⟩ := hT x y b e
  rw [hy] at g2; cases g2
  exact ⟨C, g1, hC, exm_of_kit hD k⟩⟩
theorem excC_of {C : Addr} (F : ErrF K C) (hn : PySem.W.specialIn K (.builtin "object.__class__") "__get__" = some (some (.builtin "getset_descriptor.__get__"))) (ht : PySem.W.takesIn K (.builtin "object.__class__") = some true)
    (hg : PySem.W.findIn K (.ref C) "__getattribute__" = some (some (.builtin "BaseException.__getattribute__"))) (hk : PySem.W.findIn K (.ref C) "__getattr__" = some none) (hd : PySem.W.hasDictIn K C = true) (ha : PySem.W.findIn K (.ref C) "__class__" = some (some (.builtin "object.__class__"))) (hm : PySem.W.mroIn K C (.type "object") = some true) : ExcC K C :=
  ⟨hg, hk, F.b, hd, ha, hn, ht, hm⟩
theorem errK_of {x : Str} {C : Addr} (g : mg x = some (.ref C)) (F : ErrF K C) (e : PySem.W.excIn K C [.type "ValueError", .type "Exception", .type "BaseException", .type "object"] "ValueError.__new__" = true) (k : PySem.W.keepIn K (.ref C) = true) : ErrK K mg x :=
  ⟨C, _, _, _, _, PySem.F.excBase_ValueError, e, g, k, F.b, F.t⟩
/-- a tuple of texts among a module's constants -/
theorem globTS {x : Str} {p : Addr} {dd : Option Addr} {us : Array Value} {n : Nat} {sl : Array (Option Value)} {ks : List Str} (g : mg x = some (.ref p)) (l : K.lookup p = some ⟨.type "tuple", dd, .seq us n, sl⟩) (v : Vals (ks.map V.str) us.toList) (hz : ks.length ≤ 1000) : GlobD K mg x (.tup (ks.map D.str)) :=
  ⟨.ref p, .ref p, g, rfl, fun B H => .tup (.inr ⟨_, us, n, l, rfl, rfl, by
    have q := v.length
    have q2 : us.toList.length = us.size := Array.length_toList
    rw [List.length_map] at q
    rw [sizeLine_eq]; omega, v⟩) (rels_strs ks)⟩
end
end FM

set_option Elab.async false
set_option linter.all false
set_option maxRecDepth 100000
/-! what repr shows of a tree -/
namespace FM
open PySem PySem.Spec PyProof.Rows L2
mutual
def okD : D → Bool
  | .int i => decide (i.natAbs < 10 ^ 12)
  | .str s => s.cps.toList.all fun c => decide (c < 16 ^ 8)
  | .tup xs => okL xs
  | .lst _ xs => okL xs
  | .non => true
  | .bl _ => true
  | .cls _ => false
  | .scr _ => false
  | .exc _ _ => false
  | .txs ks => ks.all fun s => s.cps.toList.all fun c => decide (c < 16 ^ 8)
  | .rng _ _ => false
def okL : List D → Bool
  | [] => true
  | x :: xs => okD x && okL xs
end
mutual
def szD : D → Nat
  | .int _ => 40
  | .str s => s.length
  | .tup xs => szL xs
  | .lst _ xs => szL xs
  | .non => 0
  | .bl _ => 0
  | .cls _ => 0
  | .scr _ => 0
  | .exc _ _ => 0
  | .txs ks => (ks.map fun s => s.length + 1).sum
  | .rng _ _ => 0
def szL : List D → Nat
  | [] => 0
  | x :: xs => szD x + 1 + szL xs
end
mutual
def dpD : D → Nat
  | .tup xs => dpL xs + 1
  | .lst _ xs => dpL xs + 1
  | .int _ => 0
  | .str _ => 0
  | .non => 0
  | .bl _ => 0
  | .cls _ => 0
  | .scr _ => 0
  | .exc _ _ => 0
  | .txs _ => 1
  | .rng _ _ => 0
def dpL : List D → Nat
  | [] => 0
  | x :: xs => max (dpD x) (dpL xs)
end
structure PyOk (p : PyData) (n m : Nat) : Prop where
  s : p.showable = true
  h : p.hasDict = false
  d : p.depth ≤ n
  w : p.weight ≤ m
  l : p.leavesShort 13 = true
structure PysOk (p : List PyData) (n m : Nat) : Prop where
  s : PyData.showableAll p = true
  h : PyData.hasDictAll p = false
  d : PyData.depthAll p ≤ n
  w : PyData.weightAll p ≤ m
  l : PyData.leavesShortAll 13 p = true
theorem log2_lt {n k : Nat} (hk : 0 < k) (h : n < 2 ^ k) : n.log2 < k := by
  by_cases e : n = 0
  · subst e; show (0 : Nat) < k; exact hk
  · exact (Nat.log2_lt e).mpr h
theorem strs_ok : ∀ ks : List Str, (ks.all fun s => s.cps.toList.all fun c => decide (c < 16 ^ 8)) = true → PysOk (ks.map .str) 0 (ks.map fun s => s.length + 1).sum
  | [], _ => ⟨rfl, rfl, Nat.le_refl _, Nat.le_refl _, rfl⟩
  | k :: ks, h => by
    rw [List.all_cons, Bool.and_eq_true] at h
    have o := strs_ok ks h.2
    have hw := o.w
    refine ⟨by simp only [List.map_cons, PyData.showableAll, PyData.showable, o.s, Bool.and_self], by simp only [List.map_cons, PyData.hasDictAll, PyData.hasDict, o.h, Bool.or_self], ?_, ?_, ?_⟩
    · simp only [List.map_cons, PyData.depthAll, PyData.depth]; have := o.d; omega
    · simp only [List.map_cons, PyData.weightAll, PyData.weight, List.sum_cons]; show k.length + 1 + _ ≤ _; omega
    · simp only [List.map_cons, PyData.leavesShortAll, PyData.leavesShort, o.l, Bool.and_true]; exact h.1
mutual
theorem py_ok : ∀ d : D, okD d = true → ∃ p, toPy d = some p ∧ PyOk p (dpD d) (szD d)
  | .non, _ => ⟨_, rfl, rfl, rfl, Nat.le_refl _, Nat.le_refl _, rfl⟩
  | .bl _, _ => ⟨_, rfl, rfl, rfl, Nat.le_refl _, Nat.le_refl _, rfl⟩
  | .int i, h => by
    simp only [okD, decide_eq_true_eq] at h
    have h2 : i.natAbs.log2 < 40 := log2_lt (by decide) (Nat.lt_trans h (by decide))
    refine ⟨_, rfl, ?_, rfl, Nat.le_refl _, ?_, ?_⟩
    · simp only [PyData.showable, decide_eq_true_eq]; omega
    · simp only [PyData.weight, szD]
      split <;> omega
    · simp only [PyData.leavesShort, decide_eq_true_eq]
      exact PyData.shown_int_le h
  | .str s, h => by
    simp only [okD] at h
    exact ⟨_, rfl, rfl, rfl, Nat.le_refl _, Nat.le_refl _, by simp only [PyData.leavesShort]; exact h⟩
  | .tup xs, h => by
    obtain ⟨p, e, o⟩ := pys_ok xs (by simpa only [okD] using h)
    exact ⟨.tuple p, by simp only [toPy, e, Option.map_some], by simpa only [PyData.showable] using o.s, by simpa only [PyData.hasDict] using o.h,
      by simp only [PyData.depth, dpD]; have := o.d; omega, by simp only [PyData.weight, szD]; exact o.w, by simpa only [PyData.leavesShort] using o.l⟩
  | .lst _ xs, h => by
    obtain ⟨p, e, o⟩ := pys_ok xs (by simpa only [okD] using h)
    exact ⟨.list p, by simp only [toPy, e, Option.map_some], by simpa only [PyData.showable] using o.s, by simpa only [PyData.hasDict] using o.h,
      by simp only [PyData.depth, dpD]; have := o.d; omega, by simp only [PyData.weight, szD]; exact o.w, by simpa only [PyData.leavesShort] using o.l⟩
  | .cls _, h => by simp [okD] at h
  | .scr _, h => by simp [okD] at h
  | .exc _ _, h => by simp [okD] at h
  | .txs ks, h => by
    have o := strs_ok ks (by simpa only [okD] using h)
    have := o.d; have := o.w
    exact ⟨_, rfl, by simpa only [PyData.showable] using o.s, by simpa only [PyData.hasDict] using o.h, by simp only [PyData.depth, dpD]; omega, by simp only [PyData.weight, szD]; omega, by simpa only [PyData.leavesShort] using o.l⟩
  | .rng _ _, h => by simp [okD] at h
theorem pys_ok : ∀ xs : List D, okL xs = true → ∃ p, toPys xs = some p ∧ PysOk p (dpL xs) (szL xs)
  | [], _ => ⟨[], rfl, rfl, rfl, Nat.le_refl _, Nat.le_refl _, rfl⟩
  | x :: xs, h => by
    simp only [okL, Bool.and_eq_true] at h
    obtain ⟨p, e, o⟩ := py_ok x h.1
    obtain ⟨ps, e2, o2⟩ := pys_ok xs h.2
    have := o.d; have := o2.d; have := o.w; have := o2.w
    exact ⟨p :: ps, by simp only [toPys, e, e2], by simp only [PyData.showableAll, o.s, o2.s, Bool.and_self], by simp only [PyData.hasDictAll, o.h, o2.h, Bool.or_self],
      by simp only [PyData.depthAll, dpL]; omega, by simp only [PyData.weightAll, szL]; omega, by simp only [PyData.leavesShortAll, o.l, o2.l, Bool.and_self]⟩
end
mutual
theorem toPy_frz : ∀ d : D, toPy (frz d) = toPy d
  | .tup xs => by simp only [frz, toPy, toPys_frz xs]
  | .lst _ xs => by simp only [frz, toPy, toPys_frz xs]
  | .non => rfl
  | .bl _ => rfl
  | .int _ => rfl
  | .str _ => rfl
  | .cls _ => rfl
  | .scr _ => rfl
  | .exc _ _ => rfl
  | .txs _ => rfl
  | .rng _ _ => rfl
theorem toPys_frz : ∀ xs : List D, toPys (frzL xs) = toPys xs
  | [] => rfl
  | x :: xs => by simp only [frzL, toPys, toPy_frz x, toPys_frz xs]
end
def rep (d : D) : Str := match toPy d with
  | some p => p.shown
  | none => ("" : Str)
theorem rep_frz (d : D) : rep (frz d) = rep d := by unfold rep; rw [toPy_frz]
theorem o_repr {d : D} (h1 : isRf d = true) (h2 : okD d = true) (h3 : szD d ≤ 1048576) (h4 : dpD d ≤ 90) : gRepr [d] = some (.str (rep d)) := by
  obtain ⟨p, e, o⟩ := py_ok d h2
  unfold gRepr rep
  have hw := o.w
  have hd := o.d
  simp only [e]
  rw [if_pos]
  exact ⟨h1, o.s, o.h, by omega, PyData.shown_fits (by decide) (by decide) o.l (by rw [show (2 : Nat) ^ 20 = 1048576 by decide]; omega)⟩
theorem okL_iff {xs : List D} : okL xs = true ↔ ∀ x ∈ xs, okD x = true := by
  induction xs with
  | nil => simp [okL]
  | cons x xs ih => simp [okL, ih]
theorem okL_map {α : Type} {f : α → D} {xs : List α} (h : ∀ x ∈ xs, okD (f x) = true) : okL (xs.map f) = true := by
  rw [okL_iff]; intro x hx
  obtain ⟨y, hy, e⟩ := List.mem_map.mp hx
  rw [← e]; exact h y hy
theorem szL_map {α : Type} {f : α → D} {B : Nat} : ∀ {xs : List α}, (∀ x ∈ xs, szD (f x) ≤ B) → szL (xs.map f) ≤ xs.length * (B + 1)
  | [], _ => Nat.zero_le _
  | x :: xs, h => by
    have h1 := h x (List.mem_cons_self ..)
    have h2 := szL_map (xs := xs) fun y hy => h y (List.mem_cons_of_mem _ hy)
    have e : (xs.length + 1) * (B + 1) = xs.length * (B + 1) + (B + 1) := Nat.succ_mul ..
    simp only [List.map_cons, szL, List.length_cons]
    omega
theorem dpL_map {α : Type} {f : α → D} {B : Nat} : ∀ {xs : List α}, (∀ x ∈ xs, dpD (f x) ≤ B) → dpL (xs.map f) ≤ B
  | [], _ => Nat.zero_le _
  | x :: xs, h => by
    have h1 := h x (List.mem_cons_self ..)
    have h2 := dpL_map (xs := xs) fun y hy => h y (List.mem_cons_of_mem _ hy)
    simp only [List.map_cons, dpL]
    omega
end FM

set_option Elab.async false
set_option linter.all false
set_option maxRecDepth 100000
universe u
/-! the rules of the trees' simp set that stand under conditions -/
namespace FM
open PySem PySem.Spec PyProof.Rows L2
section
variable {α : Type} {P : α → Prop} {r : DEnv} {Q : D → DEnv → Prop} {X : XP} {E : DEnds} {t u v : DE} {d e : D} {i j : Nat}
theorem nx_mk {a : DEnv → Prop} {b : FM.D → DEnv → Prop} {c d : DEnv → Prop} : (DEnds.mk a b c d).nx = a := nr rfl
theorem rt_mk {a : DEnv → Prop} {b : FM.D → DEnv → Prop} {c d : DEnv → Prop} : (DEnds.mk a b c d).rt = b := nr rfl
theorem bk_mk {a : DEnv → Prop} {b : FM.D → DEnv → Prop} {c d : DEnv → Prop} : (DEnds.mk a b c d).bk = c := nr rfl
theorem ct_mk {a : DEnv → Prop} {b : FM.D → DEnv → Prop} {c d : DEnv → Prop} : (DEnds.mk a b c d).ct = d := nr rfl
theorem rt_E {io : List Nat} {Q : D → List D → Prop} {d : D} {r : DEnv} : (rtE io Q).rt d r = got (slotsAt r io) (Q d) := nr rfl
theorem nx_E {io : List Nat} {Q : D → List D → Prop} {r : DEnv} : (rtE io Q).nx r = got (slotsAt r io) (Q .non) := nr rfl
theorem slots_0 {r : DEnv} : slotsAt r [] = some [] := nr rfl
/-- what a borrowed slot adds to what is kept from -/
def buM (x : Option D) (i : Nat) (l : List Nat) : List Nat := match x with
  | some d => if stb d = true then l else i :: l
  | none => i :: l
theorem e_bub {r : DEnv} {i : Nat} {as : List AK} : buOf r (.b i :: as) = buM (slotAt r i) i (buOf r as) := nr rfl
theorem e_buM {i : Nat} {l : List Nat} {d : D} : buM (some d) i l = if stb d = true then l else i :: l := nr rfl
theorem s_tup {xs : List D} : stb (.tup xs) = stbL xs := nr (by simp only [stb])
theorem s_lf {xs : List D} : stb (.lst false xs) = stbL xs := nr (by simp only [stb, Bool.not_false, Bool.true_and])
theorem s_lt {xs : List D} : stb (.lst true xs) = false := nr (by simp only [stb, Bool.not_true, Bool.false_and])
theorem s_nil : stbL [] = true := nr rfl
theorem s_cons {x : D} {xs : List D} : stbL (x :: xs) = (stb x && stbL xs) := nr rfl
theorem s_app {xs ys : List D} : stbL (xs ++ ys) = (stbL xs && stbL ys) := nr (by simp only [stbL_all, List.all_append])
theorem s_map {f : α → D} {xs : List α} (h : ∀ x, stb (f x) = true) : stbL (xs.map f) = true := by
  rw [stbL_all]
  exact List.all_eq_true.mpr fun x hx => by
    obtain ⟨y, _, e⟩ := List.mem_map.mp hx
    rw [← e]; exact h y
theorem s_non : stb .non = true := nr rfl
theorem s_scr {ns : List Int} : stb (.scr ns) = true := nr rfl
theorem fz_scr {ns : List Int} : frz (.scr ns) = .scr ns := nr rfl
theorem fz_cls {x : Str} : frz (.cls x) = .cls x := nr rfl
theorem s_cls {x : Str} : stb (.cls x) = true := nr rfl
theorem fz_tup {xs : List D} : frz (.tup xs) = .tup (frzL xs) := nr (by simp only [frz])
theorem fz_lst {o : Bool} {xs : List D} : frz (.lst o xs) = .lst false (frzL xs) := nr (by simp only [frz])
theorem fz_nil : frzL [] = [] := nr rfl
theorem fz_cons {x : D} {xs : List D} : frzL (x :: xs) = frz x :: frzL xs := nr rfl
theorem fz_map {f : α → D} {xs : List α} (h : ∀ x, stb (f x) = true) : frzL (xs.map f) = xs.map f := frzL_stb _ (s_map h)
theorem fz_mapL {f : α → D} {xs : List α} : frzL (xs.map f) = xs.map fun x => frz (f x) := by rw [frzL_map, List.map_map]; rfl
theorem fz_non : frz .non = .non := nr rfl
theorem nf_map {f : α → D} {xs : List α} (h : ∀ x, nofl (f x) = true) : noflL (xs.map f) = true := by
  rw [noflL_all]
  exact List.all_eq_true.mpr fun x hx => by
    obtain ⟨y, _, e⟩ := List.mem_map.mp hx
    rw [← e]; exact h y
theorem nf_tup {xs : List D} : nofl (.tup xs) = noflL xs := nr (by simp only [nofl])
theorem nf_lt {xs : List D} : nofl (.lst true xs) = noflL xs := nr (by simp only [nofl, Bool.true_and])
theorem nf_int {x : Int} : nofl (.int x) = true := nr rfl
theorem nf_str {x : Str} : nofl (.str x) = true := nr rfl
theorem nf_bl {x : Bool} : nofl (.bl x) = true := nr rfl
theorem nf_non : nofl .non = true := nr rfl
theorem nf_nil : noflL [] = true := nr rfl
theorem nf_cons {x : D} {xs : List D} : noflL (x :: xs) = (nofl x && noflL xs) := nr rfl
theorem small_iff {n : Nat} : Small n = (n ≤ 16777216) := nr rfl
def consO {β : Type} (x : Option β) (y : Option (List β)) : Option (List β) := match x, y with
  | some d, some ds => some (d :: ds)
  | _, _ => none
theorem consO_s {β : Type} {d : β} {ds : List β} : consO (some d) (some ds) = some (d :: ds) := nr rfl
theorem e_argsC {r : DEnv} {a : AK} {as : List AK} : argDs r (a :: as) = consO (argD r a) (argDs r as) := by
  rw [argDs]
  unfold consO
  cases argD r a <;> cases argDs r as <;> rfl
theorem slots_c {r : DEnv} {i : Nat} {is : List Nat} : slotsAt r (i :: is) = consO (slotAt r i) (slotsAt r is) := by
  rw [slotsAt]
  unfold consO
  cases slotAt r i <;> cases slotsAt r is <;> rfl
theorem as_tup {n : Nat} {ds : List D} : asTup n (.tup ds) = if ds.length = n then some ds else none := nr rfl
def hidM (x : Option D) : Bool := match x with
  | some d => stb d
  | none => true
theorem hid_0 {r : DEnv} : hidOk r [] = true := nr rfl
theorem hid_c {r : DEnv} {i : Nat} {is : List Nat} : hidOk r (i :: is) = (hidM (slotAt r i) && hidOk r is) := nr rfl
theorem hid_n : hidM none = true := nr rfl
theorem hid_s {d : D} : hidM (some d) = stb d := nr rfl
theorem wipe_0 {r : DEnv} : wipeD r [] = r := nr rfl
theorem wipe_c {r : DEnv} {i : Nat} {is : List Nat} : wipeD r (i :: is) = (wipeD r is).set i none := nr rfl
theorem back_0 {r r2 : DEnv} : back r r2 [] = r2 := nr rfl
theorem back_c {r r2 : DEnv} {i : Nat} {is : List Nat} : back r r2 (i :: is) = (back r r2 is).set i (slotAt r i) := nr rfl
/-- the shape of a call's arguments -/
def shapeOk (fs : FSpec) (as : List AK) : Bool := decide (as.length = fs.n) && (decide (mpOf 0 as = fs.io) && decide (msOf as).Nodup)
theorem e_callN {fs : FSpec} {w : DAk} {r : DEnv} {Q : D → DEnv → Prop} {X : XP} : dCall fs w r Q X = w r (fun as r1 => got (argDs r1 as) fun ds => shapeOk fs as = true ∧ ((buOf r1 as).all fun i => decide (i ∉ msOf as)) = true ∧ fs.wp ds (fun d outs => (buOf r1 as = [] ∨ (nofl d = true ∧ noflL outs = true)) ∧ Q d (putAll r1 (msOf as) outs)) X) X := by
  rw [e_call]
  have e : ∀ (r1 : DEnv) (as : List AK), callOk fs r1 as = (shapeOk fs as && (buOf r1 as).all fun i => decide (i ∉ msOf as)) := fun r1 as => by
    unfold callOk shapeOk
    rw [Bool.and_assoc, Bool.and_assoc]
  simp only [e, Bool.and_eq_true, and_assoc]
theorem it_tup {t : DE} {r : DEnv} {Q : List D → DEnv → Prop} {X : XP} : diTup t r Q X = t r (fun d r1 => match d with
  | .tup xs => stbL xs = true ∧ Q xs r1
  | _ => False) X := nr rfl
theorem it_lst {t : DE} {r : DEnv} {Q : List D → DEnv → Prop} {X : XP} : diLst t r Q X = t r (fun d r1 => match d with
  | .lst _ xs => Q (frzL xs) r1
  | _ => False) X := nr rfl
theorem it_str {t : DE} {r : DEnv} {Q : List D → DEnv → Prop} {X : XP} : diStr t r Q X = t r (fun d r1 => match d with
  | .str z => Q (signsD z) r1
  | _ => False) X := nr rfl
theorem it_or {t u : DA} {r : DEnv} {Q : List D → DEnv → Prop} {X : XP} : FM.orI t u r Q X = (t r Q X ∨ u r Q X) := nr rfl
theorem t_yes {r : DEnv} {Q : Bool → DEnv → Prop} {X : XP} : dtYes r Q X = Q true r := nr rfl
/-! items of a walk -/
/-! the tops of tests -/
theorem o_truB {b : Bool} : truD (.bl b) = some b := nr rfl
theorem o_truI {i : Int} : truD (.int i) = some (i != 0) := nr rfl
theorem o_lenS {s : Str} (h : s.length ≤ 16777216) : gLen [.str s] = some (.int s.length) := if_pos (by rw [sizeLine_eq]; exact h)
theorem dc_le {a b : Nat} : decide ((a : Int) ≤ (b : Nat)) = decide (a ≤ b) := by simp only [Int.ofNat_le]
theorem dc_lt {a b : Nat} : decide ((a : Int) < (b : Nat)) = decide (a < b) := by simp only [Int.ofNat_lt]
theorem dc_eq {a b : Nat} : decide ((a : Int) = (b : Nat)) = decide (a = b) := by simp only [Int.ofNat_inj]
/-- a place where what is handed on is made ready first -/
inductive Tg {β : Sort u} (x : β) : Type
  | mk
def apT {β : Type} (x : β) (P : β → Prop) (_ : Tg P) : Prop := P x
theorem ap_d {β : Type} {x : β} {P : β → Prop} {t : Tg P} : apT x P t = P x := nr rfl
theorem set_0 {β : Type} {x y : β} {xs : List β} : (x :: xs).set 0 y = y :: xs := nr rfl
theorem set_s {β : Type} {x y : β} {xs : List β} {i : Nat} : (x :: xs).set (i + 1) y = x :: xs.set i y := nr rfl
theorem len_0 {β : Type} {x : β} {xs : List β} : (0 < (x :: xs).length) = True := eq_true (Nat.succ_pos _)
theorem len_s {β : Type} {x : β} {xs : List β} {i : Nat} : (i + 1 < (x :: xs).length) = (i < xs.length) := by simp only [List.length_cons, Nat.add_lt_add_iff_right]
theorem e_nameN {Qn : DEnv → Prop} : dgName i d r Qn = (i < r.length ∧ apT (r.set i (some d)) Qn .mk) := nr rfl
theorem e_augN {gg : D → D → Option D} : dAug i gg t E X r = got (slotAt r i) fun x => stb x = true ∧ t r (fun y r1 => got (gg x y) fun z => i < r1.length ∧ apT (r1.set i (some z)) E.nx .mk) X := nr rfl
theorem e_setIxN : dSetIx i t u E X r = u r (fun d r1 => got (slotAt r1 i) fun _ => t r1 (fun k r2 => got (slotAt r2 i) fun c => got (ownL c) fun xs => got (asI k) fun n => got (ixN xs.length n) fun j => apT (r2.set i (some (.lst true (xs.set j d)))) E.nx .mk) X) X := nr rfl
theorem e_varUN : dVarU i r Q X = got (slotAt r i) fun d => (stb d = true ∧ Q d r) ∨ apT (frz d) (fun d2 => apT (r.set i (some d2)) (Q d2) .mk) .mk := nr rfl
theorem e_movN : dMov i r Q X = got (slotAt r i) fun d => apT (r.set i none) (Q d) .mk := nr rfl
theorem e_appN : dApp i t r Q X = got (slotAt r i) fun c => got (ownL c) fun _ => t r (fun d r1 => got (slotAt r1 i) fun c => got (ownL c) fun xs => Small (xs.length + 1) ∧ apT (r1.set i (some (.lst true (xs ++ [d])))) (Q .non) .mk) X := nr rfl
theorem e_callM {fs : FSpec} {w : DAk} {r : DEnv} {Q : D → DEnv → Prop} {X : XP} : dCall fs w r Q X = w r (fun as r1 => got (argDs r1 as) fun ds => shapeOk fs as = true ∧ ((buOf r1 as).all fun i => decide (i ∉ msOf as)) = true ∧ fs.wp ds (fun d outs => (buOf r1 as = [] ∨ (nofl d = true ∧ noflL outs = true)) ∧ apT (putAll r1 (msOf as) outs) (Q d) .mk) X) X := e_callN
theorem e_compN {a : DA} {ow : List Nat} {tg : DG} {c : DT} {t : DE} {r : DEnv} {Q : D → DEnv → Prop} {X : XP} : dComp a ow tg c t r Q X = a r (fun items r1 => Small items.length ∧ hidOk r1 ow = true ∧ apT (wipeD r1 ow) (fun r2 => compW tg c t ow items r2 [] (fun acc r3 => apT (back r1 r3 ow) (Q (.lst true acc)) .mk)) .mk) X := nr rfl
/-! what stays as it is until its turn comes -/
def gotT {β : Type} (x : Option β) (P : β → Prop) (_ : Tg P) : Prop := got x P
def wpT (fs : FSpec) (ds : List D) (Q : D → List D → Prop) (X : XP) (_ : Tg Q) (_ : Tg X) : Prop := fs.wp ds Q X
def forT (u : DG) (tb : DS) (E : DEnds) (X : XP) (xs : List D) (r : DEnv) (_ : Tg u) (_ : Tg tb) (_ : Tg E) (_ : Tg X) : Prop := forW u tb E X xs r
def compT (u : DG) (tt : DT) (te : DE) (ow : List Nat) (xs : List D) (r : DEnv) (acc : List D) (Q : List D → DEnv → Prop) (_ : Tg u) (_ : Tg tt) (_ : Tg te) (_ : Tg Q) : Prop := compW u tt te ow xs r acc Q
theorem T_got {β : Type} {x : Option β} {P : β → Prop} : got x P = gotT x P .mk := nr rfl
theorem T_wp {fs : FSpec} {ds : List D} {Q : D → List D → Prop} {X : XP} : FSpec.wp fs ds Q X = wpT fs ds Q X .mk .mk := nr rfl
theorem T_for {u : DG} {tb : DS} {E : DEnds} {X : XP} {xs : List D} {r : DEnv} : forW u tb E X xs r = forT u tb E X xs r .mk .mk .mk .mk := nr rfl
theorem T_comp {u : DG} {tt : DT} {te : DE} {ow : List Nat} {xs : List D} {r : DEnv} {acc : List D} {Q : List D → DEnv → Prop} : compW u tt te ow xs r acc Q = compT u tt te ow xs r acc Q .mk .mk .mk .mk := nr rfl
theorem wpI {fs : FSpec} {ds : List D} {Q : D → List D → Prop} {X : XP} {a : Tg Q} {b : Tg X} (h : FSpec.wp fs ds Q X) : wpT fs ds Q X a b := h
theorem forI {u : DG} {tb : DS} {E : DEnds} {X : XP} {xs : List D} {r : DEnv} {a : Tg u} {b : Tg tb} {c : Tg E} {d : Tg X} (h : forW u tb E X xs r) : forT u tb E X xs r a b c d := h
theorem compI {u : DG} {tt : DT} {te : DE} {ow : List Nat} {xs : List D} {r : DEnv} {acc : List D} {Q : List D → DEnv → Prop} {a : Tg u} {b : Tg tt} {c : Tg te} {d : Tg Q} (h : compW u tt te ow xs r acc Q) : compT u tt te ow xs r acc Q a b c d := h
theorem got_sT {β : Type} {z : β} {P : β → Prop} {t : Tg P} : gotT (some z) P t = P z := nr rfl
theorem got_nT {β : Type} {P : β → Prop} {t : Tg P} : gotT (none : Option β) P t = False := nr rfl
end
end FM

set_option Elab.async false
set_option linter.all false
set_option maxRecDepth 100000
/-! the operators, with what they ask for as a condition -/
namespace FM
open PySem PySem.Spec PyProof.Rows L2
theorem got_ifT {β : Type} {c : Prop} [Decidable c] {z : β} {P : β → Prop} {t : Tg P} : gotT (if c then some z else none) P t = (c ∧ P z) := by
  by_cases h : c
  · rw [if_pos h]; exact propext ⟨fun q => ⟨h, q⟩, fun q => q.2⟩
  · rw [if_neg h]; exact propext ⟨fun q => q.elim, fun q => (h q.1).elim⟩
theorem gm_s {α β : Type} {f : α → β} {z : α} : Option.map f (some z) = some (f z) := nr rfl
theorem o_addT {xs ys : List D} : uAdd (.tup xs) (.tup ys) = if stbL xs = true ∧ stbL ys = true ∧ xs.length + ys.length ≤ 16777216 then some (.tup (xs ++ ys)) else none := by
  unfold uAdd orG
  rw [show gAdd (.tup xs) (.tup ys) = none from rfl, show gAddS (.tup xs) (.tup ys) = none from rfl]
  show (match (if stbL xs = true ∧ stbL ys = true ∧ xs.length + ys.length ≤ sizeLine then some (D.tup (xs ++ ys)) else none) with
    | some z => some z
    | none => none) = _
  rw [sizeLine_eq]
  split <;> rename_i h <;> exact h.symm
theorem o_addLs {o p : Bool} {xs ys : List D} : uAdd (.lst o xs) (.lst p ys) = if stbL xs = true ∧ stbL ys = true ∧ xs.length + ys.length ≤ 16777216 then some (.lst true (xs ++ ys)) else none := by
  unfold uAdd orG
  rw [show gAdd (.lst o xs) (.lst p ys) = none from rfl, show gAddS (.lst o xs) (.lst p ys) = none from rfl, show gCatT (.lst o xs) (.lst p ys) = none from rfl, ← sizeLine_eq]
  rfl
theorem o_addSt {x y : Str} : uAdd (.str x) (.str y) = if x.length + y.length ≤ 16777216 then some (.str (x ++ y)) else none := by
  unfold uAdd orG
  rw [show gAdd (.str x) (.str y) = none from rfl]
  show (match (if x.length + y.length ≤ sizeLine then some (D.str (x ++ y)) else none) with
    | some z => some z
    | none => none) = _
  rw [sizeLine_eq]
  split <;> rename_i h <;> exact h.symm
theorem o_mulI2 {x y : Int} : uMul (.int x) (.int y) = if (-18446744073709551616 < x ∧ x < 18446744073709551616) ∨ (-18446744073709551616 < y ∧ y < 18446744073709551616) then some (.int (x * y)) else none := by
  unfold uMul orG
  rw [o_mulI]
  rw [show (2 : Int) ^ 64 = 18446744073709551616 by decide]
  split <;> rename_i h <;> first | exact h.symm | (rw [h]; rfl)
theorem o_repT {xs : List D} {k : Int} : uMul (.tup xs) (.int k) = if stbL xs = true ∧ xs ≠ [] ∧ 2 ≤ k ∧ k ≤ 1000 ∧ xs.length ≤ 1000 then some (.tup (repD k.toNat xs)) else none := by
  unfold uMul orG
  rw [show gMul (.tup xs) (.int k) = none from rfl, show gRepL (.tup xs) (.int k) = none from rfl]
  rfl
theorem o_repL {o : Bool} {xs : List D} {k : Int} : uMul (.lst o xs) (.int k) = if stbL xs = true ∧ -9223372036854775808 ≤ k ∧ k < 9223372036854775808 ∧ xs.length * k.toNat ≤ 16777216 then some (.lst true (repD k.toNat xs)) else none := by
  unfold uMul orG
  rw [show gMul (.lst o xs) (.int k) = none from rfl]
  show (match (if stbL xs = true ∧ -(2 ^ 63) ≤ k ∧ k < 2 ^ 63 ∧ xs.length * k.toNat ≤ sizeLine then some (D.lst true (repD k.toNat xs)) else none) with
    | some z => some z
    | none => none) = _
  rw [sizeLine_eq, show (2 : Int) ^ 63 = 9223372036854775808 by decide]
  split <;> rename_i h <;> exact h.symm
theorem o_slT2 {xs : List D} {a b : Option Int} : gSl (.tup xs) a b = if stbL xs = true then some (.tup (cutD xs a b)) else none := nr rfl
theorem o_slL2 {o : Bool} {xs : List D} {a b : Option Int} : gSl (.lst o xs) a b = if stbL xs = true then some (.lst true (cutD xs a b)) else none := nr rfl
theorem o_slS2 {z : Str} {a b : Option Int} : gSl (.str z) a b = if z.length ≤ 16777216 then some (.str (cutS z a b)) else none := by rw [← sizeLine_eq]; rfl
theorem o_slC2 {ns : List Int} {a b : Option Int} : gSl (.scr ns) a b = some (.lst true (cutD (ns.map D.int) a b)) := nr rfl
theorem o_tupL {o : Bool} {xs : List D} : gTupOf [.lst o xs] = if stbL xs = true then some (.tup xs) else none := nr rfl
theorem o_tupT {xs : List D} : gTupOf [.tup xs] = if stbL xs = true then some (.tup xs) else none := nr rfl
theorem o_lstL {o : Bool} {xs : List D} : gListOf [.lst o xs] = if stbL xs = true then some (.lst true xs) else none := nr rfl
theorem o_lstT {xs : List D} : gListOf [.tup xs] = if stbL xs = true then some (.lst true xs) else none := nr rfl
theorem o_abs2 {x : Int} : gAbs [.int x] = some (.int (if x < 0 then -x else x)) := nr rfl
theorem o_min2 {x y : Int} : gMin2 [.int x, .int y] = some (.int (if y < x then y else x)) := nr rfl
theorem o_ixS2 {z : Str} {i : Int} : ixD (.str z) (.int i) = if z.length ≤ 16777216 then (atI z.cps.toList i).map fun c => .str ⟨#[c]⟩ else none := by rw [← sizeLine_eq]; rfl
/-! cuts -/
theorem cut_to {xs : List FM.D} {n : Nat} : FM.cutD xs none (some (n : Int)) = xs.take n := by
  unfold FM.cutD
  rw [HT.sIx_nat, HT.sIx_none, List.drop_zero, Nat.sub_zero]
  by_cases h : n ≤ xs.length
  · rw [Nat.min_eq_left h]
  · rw [Nat.min_eq_right (by omega), List.take_length, List.take_of_length_le (by omega)]
theorem cut_from {xs : List FM.D} {n : Nat} : FM.cutD xs (some (n : Int)) none = xs.drop n := by
  unfold FM.cutD
  rw [HT.sIx_nat, HT.sIx_none]
  by_cases h : n ≤ xs.length
  · rw [Nat.min_eq_left h, List.take_of_length_le (by rw [List.length_drop]; omega)]
  · rw [Nat.min_eq_right (by omega), Nat.sub_self, List.take_zero, List.drop_eq_nil_of_le (by omega)]
theorem cut_neg {xs : List FM.D} : FM.cutD xs none (some (-1)) = xs.dropLast := by
  unfold FM.cutD
  have : HT.sIx xs.length xs.length (some (-1)) = xs.length - 1 := by
    show (if (-1 : Int) < 0 then ((-1 : Int) + (xs.length : Nat)).toNat else min (-1 : Int).toNat xs.length) = _
    rw [if_pos (by decide)]; omega
  rw [this, HT.sIx_none, List.drop_zero, Nat.sub_zero, List.dropLast_eq_take]
theorem cut_last {xs : List FM.D} : FM.cutD xs (some (-1)) none = xs.drop (xs.length - 1) := by
  unfold FM.cutD
  have : HT.sIx xs.length 0 (some (-1)) = xs.length - 1 := by
    show (if (-1 : Int) < 0 then ((-1 : Int) + (xs.length : Nat)).toNat else min (-1 : Int).toNat xs.length) = _
    rw [if_pos (by decide)]; omega
  rw [this, HT.sIx_none, List.take_of_length_le (by rw [List.length_drop]; omega)]
theorem stbL_take {xs : List FM.D} {n : Nat} (h : stbL xs = true) : stbL (xs.take n) = true := by
  rw [stbL_all] at *
  exact List.all_eq_true.mpr fun x hx => List.all_eq_true.mp h x (List.mem_of_mem_take hx)
theorem stbL_drop {xs : List FM.D} {n : Nat} (h : stbL xs = true) : stbL (xs.drop n) = true := by
  rw [stbL_all] at *
  exact List.all_eq_true.mpr fun x hx => List.all_eq_true.mp h x (List.mem_of_mem_drop hx)
theorem stbL_dl {xs : List FM.D} (h : stbL xs = true) : stbL xs.dropLast = true := by rw [List.dropLast_eq_take]; exact stbL_take h
theorem stbL_rev {xs : List FM.D} (h : stbL xs = true) : stbL xs.reverse = true := by
  rw [stbL_all] at *
  rw [List.all_reverse]; exact h
theorem stbL_set {xs : List FM.D} {i : Nat} {d : FM.D} (h : stbL xs = true) (h2 : stb d = true) : stbL (xs.set i d) = true := by
  rw [stbL_all] at *
  refine List.all_eq_true.mpr fun x hx => ?_
  rcases List.mem_or_eq_of_mem_set hx with q | q
  · exact List.all_eq_true.mp h x q
  · rw [q]; exact h2
theorem set_cut {α : Type} {xs : List α} {n : Nat} {d : α} (hn : n < xs.length) : xs.take n ++ [d] ++ xs.drop (n + 1) = xs.set n d := by
  rw [List.set_eq_take_append_cons_drop, if_pos hn, List.append_assoc, List.singleton_append]
theorem n_cast {n : Nat} : ((n : Int) + 1) = ((n + 1 : Nat) : Int) := rfl
theorem dRevT_e {t : DE} {r : DEnv} {Q : D → DEnv → Prop} {X : XP} : dRevT t r Q X = t r (fun d r1 => match d with
  | .tup xs => stbL xs = true ∧ Q (.tup xs.reverse) r1
  | _ => False) X := nr rfl
theorem dRevL_e {t : DE} {r : DEnv} {Q : D → DEnv → Prop} {X : XP} : dRevL t r Q X = t r (fun d r1 => match d with
  | .lst _ xs => stbL xs = true ∧ Q (.lst true xs.reverse) r1
  | _ => False) X := nr rfl
theorem dRevU_e {t : DE} {r : DEnv} {Q : D → DEnv → Prop} {X : XP} : dRevU t r Q X = (dRevT t r Q X ∨ dRevL t r Q X) := nr rfl
theorem e_orE {t u : DE} {r : DEnv} {Q : D → DEnv → Prop} {X : XP} : FM.orE t u r Q X = (t r Q X ∨ u r Q X) := nr rfl
theorem pick_in {α : Type} {P : α → Prop} {xs : List α} {i : Int} (h : ∀ x ∈ xs, P x) (h0 : 0 ≤ i) (h1 : i < xs.length) : ∃ x, atI xs i = some x ∧ P x := by
  obtain ⟨x, e, e2⟩ := atI_in h0 h1
  exact ⟨x, e, h x (List.mem_of_getElem? e2)⟩
theorem atI_map {α β : Type} {f : α → β} {xs : List α} {n : Nat} {x : α} (h : xs[n]? = some x) : atI (xs.map f) (n : Int) = some (f x) := by
  have hn := (List.getElem?_eq_some_iff.mp h).1
  have e : (xs.map f)[n]? = some (f x) := by rw [List.getElem?_map, h]; rfl
  unfold atI ixN
  rw [if_pos (Int.natCast_nonneg n), if_pos (by rw [List.length_map]; omega)]
  exact e
end FM

set_option Elab.async false
set_option linter.all false
set_option maxRecDepth 100000
/-! operators whose left side is kept while the right side works -/
namespace FM
open PySem PySem.Spec PyProof.Rows L2
section
variable {X : Cx} {g : Gd}
theorem se_binNO {a b : Expr} {qa qb : Bool} {ta tb : DE} {op : Operator} {gg : D → D → Option D} {pos : Pos} (ho : OpAN X (binaryOp op) gg) (ha : SE X g qa a ta) (hb : SB X g qb b tb) : SE X g (qa && qb) (.BinOp a op b pos) (dOp gg ta tb) := by
  obtain ⟨rr, pr, kr⟩ := ho
  obtain ⟨te, pe, ka⟩ := ha.run
  obtain ⟨te2, pe2, kb⟩ := hb.run
  refine ⟨_, pe_op pr pe pe2, fun fx st r ts B H col Qd Xd Q ok s ht hQ => ?_⟩
  refine ka fx st r ts B H col _ Xd _ ok s ht fun v d r1 B1 H1 c1 h1 sB sH s1 => ?_
  refine kb fx st r1 (ts ++ [(v, d)]) B1 H1 c1 _ Xd _ ok s1 h1 fun u e r2 B2 H2 c2 h2 sB2 sH2 s2 w2 => ?_
  obtain ⟨z, ez, hz⟩ := got_cases h2
  exact kr B2 H2 v u d e z Q s2.bh s2.viewTop w2 ez (s2.drop.ans (sB.trans sB2) (fun q => by
    simp only [Bool.and_eq_true] at q
    exact (sH q.1).trans (sH2 q.2)) fun v B' H' c' a b s' => hQ v z r2 B' H' c' hz a b s')
theorem se_cmpO {a b : Expr} {qa qb : Bool} {ta tb : DE} {op : CmpOp} {gg : D → D → Option D} {pos : Pos} (ho : OpA X (compareOp op) gg) (ha : SE X g qa a ta) (hb : SB X g qb b tb) (hm : behindInMarks op b = false) : SE X g (qa && qb) (.Compare a [op] [b] pos) (dOp gg ta tb) := by
  obtain ⟨rr, pr, kr⟩ := ho
  obtain ⟨te, pe, ka⟩ := ha.run
  obtain ⟨te2, pe2, kb⟩ := hb.run
  refine ⟨_, pe_cmpR pr pe pe2 hm, fun fx st r ts B H col Qd Xd Q ok s ht hQ => ?_⟩
  refine ka fx st r ts B H col _ Xd _ ok s ht fun v d r1 B1 H1 c1 h1 sB sH s1 => ?_
  refine kb fx st r1 (ts ++ [(v, d)]) B1 H1 c1 _ Xd _ ok s1 h1 fun u e r2 B2 H2 c2 h2 sB2 sH2 s2 w2 => ?_
  obtain ⟨z, ez, hz⟩ := got_cases h2
  exact kr B2 H2 v u d e z Q s2.bh s2.viewTop w2 ez fun w hw => hQ w z r2 B2 H2 c2 hz (sB.trans sB2) (fun q => by
    simp only [Bool.and_eq_true] at q
    exact (sH q.1).trans (sH2 q.2)) (s2.drop.push (hw B2 H2))
theorem st_cmpO {a b : Expr} {qa qb : Bool} {ta tb : DE} {op : CmpOp} {gg : D → D → Option D} {pos : Pos} (ho : OpA X (compareOp op) gg) (ha : SE X g qa a ta) (hb : SB X g qb b tb) (hm : behindInMarks op b = false) : ST X g (qa && qb) (.Compare a [op] [b] pos) (dtE (dOp gg ta tb)) := by
  obtain ⟨rr, pr, kr⟩ := ho
  obtain ⟨te, pe, ka⟩ := ha.run
  obtain ⟨te2, pe2, kb⟩ := hb.run
  refine ⟨_, pt_cmpR pr pe pe2 hm, fun fx st r ts B H col Qd Xd Q ok s ht hQ => ?_⟩
  refine ka fx st r ts B H col _ Xd _ ok s ht fun v d r1 B1 H1 c1 h1 sB sH s1 => ?_
  refine kb fx st r1 (ts ++ [(v, d)]) B1 H1 c1 _ Xd _ ok s1 h1 fun u e r2 B2 H2 c2 h2 sB2 sH2 s2 w2 => ?_
  obtain ⟨z, ez, hz⟩ := got_cases h2
  obtain ⟨k, e1, hz⟩ := got_cases hz
  have := asB_some e1; subst this
  exact kr B2 H2 v u d e _ _ s2.bh s2.viewTop w2 ez fun w hw => ⟨k, by have := hw B2 H2; cases this; rfl, hQ k r2 B2 H2 c2 hz (sB.trans sB2) (fun q => by
    simp only [Bool.and_eq_true] at q
    exact (sH q.1).trans (sH2 q.2)) s2.drop⟩
end
end FM

set_option Elab.async false
set_option linter.all false
set_option maxRecDepth 100000
/-! tuples of texts that are known as such, ranges as values, methods, extend -/
namespace FM
open PySem PySem.Spec PyProof.Rows L2
/-! ### a tuple of texts seen as any tuple -/
def wk : D → D
  | .txs ks => .tup (ks.map .str)
  | d => d
def dWk (t : DE) : DE := fun r Q X => t r (fun d r1 => Q (wk d) r1) X
theorem View.wk {K : PySem.W.Frag} {mg : Str → Option Value} {B H : Hp} {v : V} {d : D} (w : View K mg B H v d) : View K mg B H v (FM.wk d) := by
  obtain ⟨F, w⟩ := w
  cases d with
  | txs ks => cases w with | txs a b c => exact ⟨[], .tup (.inl (.inr ⟨_, a⟩)) (rels_strs ks)⟩
  | _ => exact ⟨F, w⟩
section
variable {X : Cx} {g : Gd}
theorem SB.wk {q : Bool} {e : Expr} {t : DE} (h : SB X g q e t) : SB X g q e (dWk t) := by
  obtain ⟨te, pe, k⟩ := h.run
  exact ⟨te, pe, fun fx st r ts B H col Qd Xd Q ok s ht hQ => k fx st r ts B H col _ Xd Q ok s ht fun v d r1 B1 H1 c1 h1 sB sH s1 w1 => hQ v (FM.wk d) r1 B1 H1 c1 h1 sB sH s1 w1.wk⟩
theorem SE.wk {q : Bool} {e : Expr} {t : DE} (h : SE X g q e t) : SE X g q e (dWk t) := by
  obtain ⟨te, pe, k⟩ := h.run
  refine ⟨te, pe, fun fx st r ts B H col Qd Xd Q ok s ht hQ => k fx st r ts B H col _ Xd Q ok s ht fun v d r1 B1 H1 c1 h1 sB sH s1 => hQ v (FM.wk d) r1 B1 H1 c1 h1 sB sH ?_⟩
  cases d with
  | txs ks =>
    have w : Rel X.K X.mg B1 H1 v (.tup (ks.map .str)) [] := View.stable (d := .tup (ks.map .str)) s1.viewTop.wk (by rw [s_tup]; exact s_map fun _ => rfl)
    exact s1.drop.push w
  | _ => exact s1
/-! ### tuple(xs) -/
theorem call_tuple_ofF : CallR X (.type "tuple") (fun xs H Q => ∃ p ys, xs = [.ref p] ∧ SqL X.K H p ys ∧ ∀ l o, H l = none → o.dict = none → o.cls = .type "tuple" → Q (.ref l) (upd H l (.frz o (.tup ys)))) := by
  intro pins s σ H xs us Q I r h
  obtain ⟨p, ys, rfl, hq, q⟩ := h
  obtain ⟨u, rfl, rx⟩ := vals1 r
  cases rx
  obtain ⟨its, r', pl, hz⟩ := I.list hq
  have hlen := r'.length
  refine call_tuple_list pl.isList (fun h' kp => ?_) (by simp only [List.size_toArray] <;> omega)
  have I1 : Inv X pins σ H { s with heap := h' } := I.kept (t' := s.toks) kp
  have I2 : Inv X pins σ (upd H h'.objs.size (.frz { cls := .type "tuple", data := .seq its.toArray } (.tup ys))) { s with heap := h'.push { cls := .type "tuple", data := .seq its.toArray } } :=
    I1.laid (t' := s.toks) (fun b o e => Heap.get?_push_of_some _ e) (Nat.le_refl _) (show ObjOk X.prog X.w _ _ _ (.frz _ (.tup ys)) from ⟨Heap.get?_push_size _ rfl, hz, its, r', IsTup.new _ _⟩)
  exact ⟨.ref h'.objs.size, _, I2, rfl, q _ _ (I1.hok.fresh (Nat.le_refl _)) rfl rfl⟩
/-- what tuple(xs) is: texts are known as such -/
def tsD : List Str → D
  | [] => .tup []
  | k :: ks => .txs (k :: ks)
def gTupX : List D → Option D
  | [.lst _ xs] => match strsOf xs with
    | some (k :: ks) => some (.txs (k :: ks))
    | _ => none
  | _ => none
theorem se_callTupX {q : Bool} {e : Expr} {es : List Expr} {u : DA} {x : Str} {p pos : Pos} (hg : Gl X x) (hm : X.mg x = none) (hv : bootBuiltins x = some (.type "tuple")) (ha : SL X g q (e :: es) u)
    (hn : x ≠ "__name__" := by decide) (hdb : (x == ("__debug__" : Str)) = false := by decide) (he : starEach (e :: es) X.env = (false, eval e X.env) :: starEach es X.env := by rfl) (hpl : (backTo pos (starEach es X.env)).any (·.1) = false := by rfl) :
    SE X g q (.Call (.Name x p) (e :: es) [] pos) (dCl gTupX u) := by
  obtain ⟨te, pe, ka⟩ := ha.run
  refine ⟨_, pe_callTy call_tuple_ofF hg hm hv pe hn hdb he hpl, fun fx st r ts B H col Qd Xd Q ok s ht hQ => ?_⟩
  refine ka fx st r ts B H col _ Xd _ ok s ht fun vs ds r1 B1 H1 c1 h1 sB sH s1 w1 => ?_
  obtain ⟨z, ez, hz⟩ := got_cases h1
  unfold gTupX at ez
  split at ez
  · split at ez
    · rename_i xs k ks e1
      cases ez
      obtain ⟨v, ev, w⟩ := vws1 w1; subst ev
      obtain ⟨a, vs, F, rfl, h, rr⟩ := w.lst s1.bh
      obtain ⟨e2, _⟩ := rels_strsOf rr e1
      subst e2
      refine ⟨a, _, rfl, .inl (.inl h), fun l o hl hd hc => ?_⟩
      have sL := s1.laidB hl (.frz o (.tup ((k :: ks).map V.str)))
      exact hQ (.ref l) _ r1 _ _ _ hz (sB.trans (same_new (by have := s1.fresh hl; exact this.1))) (fun q => (sH q).trans (same_new hl)) (sL.push (.txs upd_same hd hc))
    · cases ez
  · cases ez
/-! ### ranges as values -/
theorem cr_range1 : CallR X (.type "range") (fun vs H Q => ∃ j, vs = [V.int j] ∧ ∀ p, H p = none → Q (.ref p) (upd H p (.rng 0 j))) := by
  intro pins s σ H vs us Q I r h
  obtain ⟨j, rfl, q⟩ := h
  obtain ⟨u1, rfl, ri⟩ := vals1 r
  obtain ⟨t, rfl⟩ := ri
  refine call_range_1 ⟨.ref s.heap.objs.size, upd H s.heap.objs.size (.rng 0 j), I.laid (t' := s.toks + 1 + 1) (fun b o e => Heap.get?_push_of_some _ e) (Nat.le_refl _) ?_, rfl, q _ (I.hok.fresh (Nat.le_refl _))⟩
  exact ⟨s.toks, t, s.toks + 1, Heap.get?_push_size _ rfl⟩
def gRng1 : List D → Option D
  | [.int j] => some (.rng 0 j)
  | _ => none
theorem se_range1 {q : Bool} {e : Expr} {u : DA} {p pos : Pos} (hg : Gl X "range") (hm : X.mg "range" = none) (ha : SL X g q [e] u)
    (he : starEach [e] X.env = (false, eval e X.env) :: starEach [] X.env := by rfl) (hpl : (backTo pos (starEach [] X.env)).any (·.1) = false := by rfl) :
    SE X g q (.Call (.Name "range" p) [e] [] pos) (dCl gRng1 u) := by
  obtain ⟨te, pe, ka⟩ := ha.run
  refine ⟨_, pe_callTy cr_range1 hg hm boot_range pe (by decide) (by decide) he hpl, fun fx st r ts B H col Qd Xd Q ok s ht hQ => ?_⟩
  refine ka fx st r ts B H col _ Xd _ ok s ht fun vs ds r1 B1 H1 c1 h1 sB sH s1 w1 => ?_
  obtain ⟨z, ez, hz⟩ := got_cases h1
  unfold gRng1 at ez
  split at ez
  · cases ez
    obtain ⟨v, ev, w⟩ := vws1 w1; subst ev
    have := view_int w; subst this
    rename_i j
    refine ⟨j, rfl, fun l hl => ?_⟩
    have sL := s1.laidB hl (.rng 0 j)
    exact hQ (.ref l) _ r1 _ _ _ hz (sB.trans (same_new (s1.fresh hl).1)) (fun q => (sH q).trans (same_new hl)) (sL.push (.rng upd_same))
  · cases ez
def iRgV (tl : TE) : TI := fun σ H R => tl σ H fun x H1 => ∃ a i j, x = .ref a ∧ H1 a = some (.rng i j) ∧ (-(2 ^ 62) ≤ i ∧ i < 2 ^ 62 ∧ -(2 ^ 62) ≤ j ∧ j < 2 ^ 62) ∧ R (Itr i (j - i).toNat) H1
theorem pi_rngV {tg l : Expr} {tl : TE} (hl : PE X l tl) : PI X tg l (iRgV tl) := by
  refine ⟨fun pins s σ H R I h => ?_⟩
  refine thn (hl.run pins s σ H _ I h) fun v s1 ⟨x, H1, I1, r1, q1⟩ => ?_
  obtain ⟨a, lo, hi, e, hr, ⟨q1, q2, q3, q4⟩, q⟩ := q1
  subst e
  cases r1
  obtain ⟨t, u, v, hg⟩ := I1.hok a _ hr
  refine wpAny_pyIter_range (show IsRange s1.heap a lo hi 1 t u v from hg) (small_one q1 q2 q3 q4) ?_
  refine ⟨s1.heap.objs.size, [s1.heap.objs.size], _, _, H1, rfl, I1.kept (t' := s1.toks) fun b o e => Heap.get?_push_of_some _ e, turn_range _ lo (hi - lo).toNat, ?_, fun b hb => ?_, q⟩
  · have e1 : lo + ((0 : Nat) : Int) * 1 = lo := by simp
    have e2 : (((hi - lo).toNat : Nat) : Int) - ((0 : Nat) : Int) = Builtin.Range.rangeSize lo hi 1 := by rw [rangeSize_one]; split <;> omega
    show IsRangeIter _ _ (lo + ((0 : Nat) : Int) * 1) ((((hi - lo).toNat : Nat) : Int) - ((0 : Nat) : Int)) 1
    rw [e1, e2]
    exact Heap.get?_push_size _ rfl
  · have e : b = s1.heap.objs.size := by simpa using hb
    subst e
    exact I1.fpOk (Nat.le_refl _) (I1.hok.fresh (Nat.le_refl _))
def diRgV (t : DE) : DA := fun r Q X => t r (fun d r1 => match d with
  | .rng i j => R62 i ∧ R62 j ∧ Q (rngD i j) r1
  | _ => False) X
theorem si_rngV {q : Bool} {tg e : Expr} {t : DE} (h : SB X g q e t) : SI X g q tg e (diRgV t) := by
  obtain ⟨te, pe, k⟩ := h.run
  refine ⟨_, pi_rngV pe, fun fx st r ts B H col Qd Xd R ok s ht hR => ?_⟩
  refine k fx st r ts B H col _ Xd _ ok s ht fun v d r1 B1 H1 c1 h1 sB sH s1 w => ?_
  cases d with
  | rng i j =>
    obtain ⟨F, w⟩ := w
    cases w with
    | rng hb => exact ⟨_, i, j, rfl, s1.bh _ _ hb, ⟨h1.1.1, h1.1.2, h1.2.1.1, h1.2.1.2⟩, hR _ r1 B1 H1 c1 _ h1.2.2 sB sH s1 walkD_rng⟩
  | _ => exact h1.elim
end
end FM

set_option Elab.async false
set_option linter.all false
set_option maxRecDepth 100000
/-! methods: index, extend, append to a list in a list -/
namespace FM
open PySem PySem.Spec PyProof.Rows L2
section
variable {X : Cx} {g : Gd}
/-! ### t.index(z), xs.index(y) -/
def dMt (p : D → Bool) (gg : D → List D → Option D) (t : DE) (u : DA) : DE := fun r Q X => t r (fun d r1 => p d = true ∧ u r1 (fun ds r2 => got (gg d ds) fun z => Q z r2) X) X
def isTx : D → Bool
  | .txs _ => true
  | _ => false
def isLs : D → Bool
  | .lst _ _ => true
  | _ => false
def gIdxT : D → List D → Option D
  | .txs ks, [.str z] => (ks.findIdx? fun k => k == z).map fun j => .int (j : Nat)
  | _, _ => none
def gIdxL : D → List D → Option D
  | .lst _ xs, [y] => if flatD y = true ∧ xs.all flatD = true then (xs.findIdx? fun x => eqFl x y).map fun j => .int (j : Nat) else none
  | _, _ => none
def tIdx (to : TE) (t : TA) : TE := fun σ H Q => to σ H fun x H1 => ∃ (p : Addr) (o : Obj) (ks : List Str), x = .ref p ∧ H1 p = some (.frz o (.tup (ks.map V.str))) ∧ o.dict = none ∧ o.cls = .type "tuple" ∧
  t σ H1 fun xs H2 => ∃ (z : Str) (j : Nat), xs = [.str z] ∧ H2 p = H1 p ∧ ks[j]? = some z ∧ (∀ m, m < j → ks[m]? ≠ some z) ∧ Q (.int (j : Nat)) H2
theorem pe_tidx {o e : Expr} {to : TE} {t : TA} {apos cpos : Pos} (ho : PE X o to) (ha : PA X [e] t)
    (hbase : attributeBase o "index" X.env (eval o X.env) = eval o X.env := by rfl)
    (hfew : ((backTo cpos (starEach [e] X.env)).all (fun x => !x.1) && (backToKw cpos (keywordEach [] X.env)).all (fun x => x.1.isSome)
      && decide (([e] : List Expr).length + ([] : List Keyword).length + (if ([] : List Keyword).isEmpty then 0 else 1) < 30)) = true := by rfl)
    (hline : (apos.endLine == cpos.line) = true := by rfl) (hs : starEach [e] X.env = (false, eval e X.env) :: starEach [] X.env := by rfl) (hplain : (backTo cpos (starEach [] X.env)).any (·.1) = false := by rfl) :
    PE X (.Call (.Attribute o "index" apos) [e] [] cpos) (tIdx to t) := by
  refine ⟨fun pins s σ H Q I h => ?_⟩
  refine wpAny_Call_method_late hbase hfew hline rfl (thn (ho.run pins s σ H _ I h) fun v s1 ⟨x, H1, I1, r1, p, ob, ks, ex, hH, hd, hc, q1⟩ => ?_)
  subst ex
  cases r1
  have hok := I1.hok p _ hH
  refine ⟨"tuple", "tuple.index", PySem.F.plainAttrs_tuple, PySem.F.slot_tuple_index, PySem.F.type_tuple_index, ⟨ob, hok.1, hc⟩, fun a ea => by cases ea; exact ⟨ob, hok.1, hd⟩, ?_⟩
  have hA := ha.run cpos pins s1 σ H1 _ I1 q1
  rw [hs] at hA ⊢
  refine Calls.callWith_builtin (by show (false || (backTo cpos (starEach [] X.env)).any (·.1)) = false; rw [hplain] <;> rfl) (Calls.evalArgs_plain ?_)
  refine thn hA fun us s2 ⟨vs, H2, I2, r2, z, j, ev, eH, hz, hno, q2⟩ => ?_
  exact mt_tup_index pins s2 σ H2 (.ref p) vs (.ref p) us Q I2 rfl r2 ⟨p, ks, z, j, rfl, ev, .inl (.inr ⟨ob, by rw [eH]; exact hH⟩), hz, hno, q2⟩
theorem findIdx_spec {α : Type} {f : α → Bool} {xs : List α} {j : Nat} (h : xs.findIdx? f = some j) : (∃ x, xs[j]? = some x ∧ f x = true) ∧ ∀ m x, m < j → xs[m]? = some x → f x = false := by
  rw [List.findIdx?_eq_some_iff_getElem] at h
  obtain ⟨hj, h1, h2⟩ := h
  refine ⟨⟨_, List.getElem?_eq_getElem hj, h1⟩, fun m x hm e => ?_⟩
  obtain ⟨hl, e2⟩ := List.getElem?_eq_some_iff.mp e
  have := h2 m hm
  rw [e2] at this
  simpa using this
theorem se_idxT {qa : Bool} {o e : Expr} {t : DE} {u : DA} {apos cpos : Pos} (hb : SB X g qa o t) (ha : SL X g true [e] u)
    (hbase : attributeBase o "index" X.env (eval o X.env) = eval o X.env := by rfl)
    (hfew : ((backTo cpos (starEach [e] X.env)).all (fun x => !x.1) && (backToKw cpos (keywordEach [] X.env)).all (fun x => x.1.isSome)
      && decide (([e] : List Expr).length + ([] : List Keyword).length + (if ([] : List Keyword).isEmpty then 0 else 1) < 30)) = true := by rfl)
    (hline : (apos.endLine == cpos.line) = true := by rfl) (hs : starEach [e] X.env = (false, eval e X.env) :: starEach [] X.env := by rfl) (hplain : (backTo cpos (starEach [] X.env)).any (·.1) = false := by rfl) :
    SE X g qa (.Call (.Attribute o "index" apos) [e] [] cpos) (dMt isTx gIdxT t u) := by
  obtain ⟨te, pe, ka⟩ := hb.run
  obtain ⟨te2, pe2, kb⟩ := ha.run
  refine ⟨_, pe_tidx pe pe2 hbase hfew hline hs hplain, fun fx st r ts B H col Qd Xd Q ok s ht hQ => ?_⟩
  refine ka fx st r ts B H col _ Xd _ ok s ht fun v d r1 B1 H1 c1 ⟨hz, h1⟩ sB sH s1 w1 => ?_
  cases d with
  | txs ks =>
    obtain ⟨F, w1⟩ := w1
    cases w1 with
    | @txs a ob _ hB hd hc =>
      refine ⟨a, ob, ks, rfl, s1.bh _ _ hB, hd, hc, ?_⟩
      refine kb fx st r1 ts B1 H1 c1 _ Xd _ ok s1 h1 fun vs ds r2 B2 H2 c2 h2 sB2 sH2 s2 w2 => ?_
      obtain ⟨z, ez, hz⟩ := got_cases h2
      unfold gIdxT at ez
      split at ez
      · rename_i x1 x2 ks2 z2 e1
        cases e1
        obtain ⟨j, ej, e3⟩ := Option.map_eq_some_iff.mp ez
        subst e3
        obtain ⟨u1, ev, w3⟩ := vws1 w2; subst ev
        have := view_str w3; subst this
        obtain ⟨⟨k, hk, hk2⟩, hno⟩ := findIdx_spec ej
        have hk3 : k = z2 := eq_of_beq hk2
        subst hk3
        refine ⟨k, j, rfl, ?_, hk, fun m hm e => ?_, hQ _ _ r2 B2 H2 c2 hz (sB.trans sB2) (fun q => (sH q).trans (sH2 rfl)) (s2.push (.int _))⟩
        · rw [s1.bh _ _ hB, sH2 rfl _ _ (s1.bh _ _ hB)]
        · have := hno m k hm e
          rw [beq_self_eq_true] at this; cases this
      · cases ez
  | _ => cases hz
theorem eqFl_view {K : PySem.W.Frag} {mg : Str → Option Value} {B H : Hp} {v u : V} {d e : D} (w : View K mg B H v d) (w2 : View K mg B H u e) (h : flatD d = true) (h2 : flatD e = true) : eqV v u = eqFl d e := eq_view w w2 h h2
theorem se_idxL {qa : Bool} {o e : Expr} {t : DE} {u : DA} {apos cpos : Pos} (hb : SB X g qa o t) (ha : SL X g true [e] u)
    (hbase : attributeBase o "index" X.env (eval o X.env) = eval o X.env := by rfl)
    (hfew : ((backTo cpos (starEach [e] X.env)).all (fun x => !x.1) && (backToKw cpos (keywordEach [] X.env)).all (fun x => x.1.isSome)
      && decide (([e] : List Expr).length + ([] : List Keyword).length + (if ([] : List Keyword).isEmpty then 0 else 1) < 30)) = true := by rfl)
    (hline : (apos.endLine == cpos.line) = true := by rfl) (hs : starEach [e] X.env = (false, eval e X.env) :: starEach [] X.env := by rfl) (hplain : (backTo cpos (starEach [] X.env)).any (·.1) = false := by rfl) :
    SE X g qa (.Call (.Attribute o "index" apos) [e] [] cpos) (dMt isLs gIdxL t u) := by
  obtain ⟨te, pe, ka⟩ := hb.run
  obtain ⟨te2, pe2, kb⟩ := ha.run
  refine ⟨_, pe_bm PySem.F.plainAttrs_list PySem.F.slot_list_index PySem.F.type_list_index mt_index pe pe2 hbase hfew hline hs hplain, fun fx st r ts B H col Qd Xd Q ok s ht hQ => ?_⟩
  refine ka fx st r ts B H col _ Xd _ ok s ht fun v d r1 B1 H1 c1 ⟨hz, h1⟩ sB sH s1 w1 => ?_
  cases d with
  | lst fl xs =>
    obtain ⟨a, vs, F, rfl, h, rr⟩ := w1.lst s1.bh
    refine ⟨.inl ⟨rfl, vs, .inl (.inl h)⟩, ?_⟩
    refine kb fx st r1 ts B1 H1 c1 _ Xd _ ok s1 h1 fun us ds r2 B2 H2 c2 h2 sB2 sH2 s2 w2 => ?_
    obtain ⟨z, ez, hz⟩ := got_cases h2
    unfold gIdxL at ez
    split at ez
    · rename_i x1 x2 fl2 ks2 y2 e1
      cases e1
      split at ez
      · rename_i hf
        obtain ⟨j, ej, e3⟩ := Option.map_eq_some_iff.mp ez
        subst e3
        obtain ⟨u1, ev, w3⟩ := vws1 w2; subst ev
        obtain ⟨⟨x, hx, hx2⟩, hno⟩ := findIdx_spec ej
        have w1' := w1.mono sB2 (sH2 rfl)
        obtain ⟨a2, vs2, F2, ea, h', rr'⟩ := w1'.lst s2.bh
        cases ea
        have hfl := List.all_eq_true.mp hf.2
        have vw : ∀ (m : Nat) (z' : V), vs2[m]? = some z' → ∃ dd, xs[m]? = some dd ∧ View X.K X.mg B2 H2 z' dd := fun m z' em => by
          have hm := (List.getElem?_eq_some_iff.mp em).1
          rw [rr'.length] at hm
          obtain ⟨v, G, e5, r5, _, _⟩ := rr'.get (List.getElem?_eq_getElem hm)
          rw [em] at e5; cases e5
          exact ⟨_, List.getElem?_eq_getElem hm, G, r5⟩
        obtain ⟨vj, Gj, ej2, rj, _, _⟩ := rr'.get hx
        refine ⟨a, vs2, u1, j, vj, rfl, rfl, .inl (.inl h'), flat_view w3 hf.1, List.all_eq_true.mpr fun z' hz' => ?_, ej2, ?_, fun m z' hm em => ?_, hQ _ _ r2 B2 H2 c2 hz (sB.trans sB2) (fun q => (sH q).trans (sH2 rfl)) (s2.push (.int _))⟩
        · obtain ⟨m, hm⟩ := List.getElem?_of_mem hz'
          obtain ⟨dd, e6, w6⟩ := vw m z' hm
          exact flat_view w6 (hfl dd (List.mem_of_getElem? e6))
        · rw [eq_view ⟨Gj, rj⟩ w3 (hfl x (List.mem_of_getElem? hx)) hf.1]; exact hx2
        · obtain ⟨dd, e6, w6⟩ := vw m z' em
          rw [eq_view w6 w3 (hfl dd (List.mem_of_getElem? e6)) hf.1]
          exact hno m dd hm e6
      · cases ez
    · cases ez
  | _ => cases hz
/-! ### xs.extend(ys), xs in slot i -/
def lstO : D → Option (List D)
  | .lst _ xs => some xs
  | _ => none
theorem lstO_some {d : D} {xs : List D} (h : lstO d = some xs) : ∃ o, d = .lst o xs := by
  unfold lstO at h
  split at h
  · cases h; exact ⟨_, rfl⟩
  · cases h
def dExt (i : Nat) (t : DE) : DE := fun r Q X => got (slotAt r i) fun c => got (ownL c) fun _ => t r (fun d r1 => got (slotAt r1 i) fun c => got (ownL c) fun xs => got (lstO d) fun ys => Small (xs.length + ys.length) ∧ Q .non (r1.set i (some (.lst true (xs ++ ys))))) X
theorem se_extend {q : Bool} {i : Nat} {o e : Expr} {t : DE} {apos cpos : Pos} (po : PE X o (tVar i)) (he : SE X g q e t) (hs1 : starEach [e] X.env = (false, eval e X.env) :: starEach [] X.env := by rfl)
    (hbase : attributeBase o "extend" X.env (eval o X.env) = eval o X.env := by rfl)
    (hfew : ((backTo cpos (starEach [e] X.env)).all (fun x => !x.1) && (backToKw cpos (keywordEach [] X.env)).all (fun x => x.1.isSome)
      && decide (([e] : List Expr).length + ([] : List Keyword).length + (if ([] : List Keyword).isEmpty then 0 else 1) < 30)) = true := by rfl)
    (hline : (apos.endLine == cpos.line) = true := by rfl) (hplain : (backTo cpos (starEach [] X.env)).any (·.1) = false := by rfl) : SE X g false (.Call (.Attribute o "extend" apos) [e] [] cpos) (dExt i t) := by
  obtain ⟨te, pe, k⟩ := he.run
  refine ⟨_, pe_bm PySem.F.plainAttrs_list PySem.F.slot_list_extend PySem.F.type_list_extend mt_extend po (pa_cons pe pa_nil hs1) hbase hfew hline hs1 hplain, fun fx st r ts B H col Qd Xd Q ok s ht hQ => ?_⟩
  obtain ⟨c, e1, ht⟩ := get_cases ht
  obtain ⟨xs0, e2, ht⟩ := got_cases ht
  have := ownL_some e2; subst this
  obtain ⟨a0, vs0, e3, e4, _⟩ := s.headL e1
  refine ⟨.ref a0, e3, .inl ⟨rfl, vs0, .inl (.inl e4)⟩, k fx st r ts B H col _ Xd _ ok s ht fun v d r1 B1 H1 c1 h1 sB sH s1 => ?_⟩
  obtain ⟨c, e5, h1⟩ := get_cases h1
  obtain ⟨xs, e6, h1⟩ := got_cases h1
  have := ownL_some e6; subst this
  have h1 : got (lstO d) fun ys => Small (xs.length + ys.length) ∧ Qd .non (r1.set i (some (.lst true (xs ++ ys)))) := h1
  obtain ⟨ys, e8, hz, h7⟩ := got_cases h1
  obtain ⟨od, ed⟩ := lstO_some e8
  subst ed
  obtain ⟨a, vs, F0, f1, f2, f3, f4, f5, f6⟩ := s1.setL e5
  rw [e3] at f1; cases f1
  obtain ⟨G, g1, g2, g3⟩ := s1.temp ts.length v (.lst od ys) (by simp)
  have key : ∃ b ws G', v = .ref b ∧ H1 b = some (.lst ws) ∧ Rels X.K X.mg B1 H1 ws ys G' ∧ G'.Nodup ∧ ∀ x ∈ G', x ∈ G := by
    cases g1 with
    | fl h r => exact ⟨_, _, [], rfl, s1.bh _ _ h, r, List.nodup_nil, fun x z => nomatch z⟩
    | ol h r => exact ⟨_, _, _, rfl, h, r, (List.nodup_cons.mp g2).2, fun x z => List.mem_cons_of_mem _ z⟩
  obtain ⟨b, ws, G', rfl, hb, rw1, nG, sub⟩ := key
  have rr : Rels X.K X.mg B1 H1 (vs ++ ws) (xs ++ ys) (F0 ++ G') := f3.append rw1
  refine ⟨a0, b, vs, ws, rfl, rfl, f2, hb, ?_, ?_⟩
  · rw [f3.length, rw1.length, sizeLine_eq]; exact hz
  · have s2 := f6 _ _ _ rr (List.nodup_append.mpr ⟨f4, nG, fun b hb b' hb' e => by
      subst e
      have q1 := f5 b hb
      rw [g3 b (sub b hb')] at q1; cases q1⟩) fun b hb => by
        rcases List.mem_append.mp hb with z | z
        · exact .inl z
        · exact .inr ⟨ts.length, Nat.le_refl _, g3 b (sub b z)⟩
    exact hQ .non .non _ B1 _ _ h7 sB (fun q => by cases q) (s2.push .non)
end
section
variable {K : PySem.W.Frag} {mg : Str → Option Value} {fx : Fx} {st : L2.St} {r : DEnv} {ts us : List (V × D)} {B H : Hp} {col : Col}
theorem Rels.split : ∀ {vs : List V} {ds : List D} {F : List Addr}, Rels K mg B H vs ds F → ∀ {k : Nat} {d : D}, ds[k]? = some d →
    ∃ vs1 v vs2 ds1 ds2 F1 G F2, vs = vs1 ++ v :: vs2 ∧ ds = ds1 ++ d :: ds2 ∧ F = F1 ++ (G ++ F2) ∧ vs1.length = k ∧ ds1.length = k ∧ Rels K mg B H vs1 ds1 F1 ∧ Rel K mg B H v d G ∧ Rels K mg B H vs2 ds2 F2
  | _, [], _, h, k, d, e => by simp at e
  | _, d :: ds, _, h, 0, d', e => by
    cases h with
    | @cons v vs _ _ F G h1 h2 =>
      simp at e; subst e
      exact ⟨[], v, vs, [], ds, [], F, G, rfl, rfl, rfl, rfl, rfl, .nil, h1, h2⟩
  | _, d :: ds, _, h, k + 1, d', e => by
    cases h with
    | @cons v vs _ _ F G h1 h2 =>
      obtain ⟨vs1, v', vs2, ds1, ds2, F1, G', F2, e1, e2, e3, e4, e5, r1, r2, r3⟩ := Rels.split h2 (k := k) (d := d') (by simpa using e)
      exact ⟨v :: vs1, v', vs2, d :: ds1, ds2, F ++ F1, G', F2, by rw [e1]; rfl, by rw [e2]; rfl, by rw [e3, List.append_assoc], by rw [List.length_cons, e4], by rw [List.length_cons, e5], .cons h1 r1, r2, r3⟩
/-- a list in a slot's own list gets one stable item more -/
theorem SR.appIn (s : SR K mg fx st r ts B H col) {i k : Nat} {xs ys : List D} (e : r[i]? = some (some (.lst true xs))) (ek : xs[k]? = some (.lst true ys)) :
    ∃ a vs b ws, st[i]? = some (some (.ref a)) ∧ H a = some (.lst vs) ∧ vs.length = xs.length ∧ vs[k]? = some (.ref b) ∧ H b = some (.lst ws) ∧ ws.length = ys.length ∧
      ∀ (v : V) (d : D), Rel K mg B H v d [] → SR K mg fx st (r.set i (some (.lst true (xs.set k (.lst true (ys ++ [d])))))) ts B (upd H b (.lst (ws ++ [v]))) col := by
  obtain ⟨v, F, e1, h, n, c⟩ := s.slot i _ e
  cases h with
  | @ol a vs _ F0 ha hr =>
    obtain ⟨vs1, vk, vs2, ds1, ds2, F1, G, F2, q1, q2, q3, q4, q5, r1, r2, r3⟩ := hr.split ek
    cases r2 with
    | @ol b ws _ G0 hb hr2 =>
      have hi := (List.getElem?_eq_some_iff.mp e).1
      have n0 := List.nodup_cons.mp n
      have mb : b ∈ a :: F0 := List.mem_cons_of_mem _ (by rw [q3]; exact List.mem_append_right _ (List.mem_append_left _ (List.mem_cons_self ..)))
      have cb := c b mb
      have nb := s.nb b _ cb
      have nF := n0.2
      rw [q3] at nF
      obtain ⟨nF1, nGF, dj⟩ := List.nodup_append.mp nF
      obtain ⟨nG, nF2, dj2⟩ := List.nodup_append.mp nGF
      have nab : a ≠ b := fun z => n0.1 (by rw [q3, z]; exact List.mem_append_right _ (List.mem_append_left _ (List.mem_cons_self ..)))
      have nb1 : ∀ x ∈ F1, x ≠ b := fun x hx z => dj x hx b (List.mem_append_left _ (List.mem_cons_self ..)) z
      have nb2 : ∀ x ∈ F2, x ≠ b := fun x hx z => dj2 b (List.mem_cons_self ..) x hx z.symm
      have nb0 : ∀ x ∈ G0, x ≠ b := fun x hx z => (List.nodup_cons.mp nG).1 (z ▸ hx)
      have ne : ∀ {x y}, col x = some y → y ≠ .s i → x ≠ b := fun q hx z => by rw [z, cb] at q; exact hx (Option.some.inj q).symm
      refine ⟨a, vs, b, ws, e1, ha, by rw [q1, q2, List.length_append, List.length_append, List.length_cons, List.length_cons, q4, q5, r3.length], by rw [q1, List.getElem?_append_right (by omega), q4, Nat.sub_self]; rfl, hb, hr2.length, fun v d hd => ?_⟩
      have es : xs.set k (.lst true (ys ++ [d])) = ds1 ++ .lst true (ys ++ [d]) :: ds2 := by
        rw [q2, List.set_append_right _ _ (by omega), q5, Nat.sub_self]; rfl
      refine ⟨fun j d' e' => ?_, fun k' v' d' e' => ?_, same_upd2 s.bh nb, s.b0, fun x o e' n' => ?_, fun x o e' => ?_, s.new, s.grow, s.nb, fun x y e' => ?_, s.io, by simp [s.len]⟩
      · by_cases hj : j = i
        · subst hj
          rw [List.getElem?_set_self hi] at e'; cases e'
          have i1 : Rel K mg B (upd H b (.lst (ws ++ [v]))) (.ref b) (.lst true (ys ++ [d])) (b :: (G0 ++ ([] ++ []))) :=
            .ol upd_same ((Rels.mono (Same.refl B) _ _ _ hr2 fun x hx => upd_ne (nb0 x hx)).append (.cons (hd.mono (Same.refl B) _ _ _ fun x z => nomatch z) .nil))
          have i2 : Rels K mg B (upd H b (.lst (ws ++ [v]))) (vs1 ++ .ref b :: vs2) (ds1 ++ .lst true (ys ++ [d]) :: ds2) (F1 ++ (b :: (G0 ++ ([] ++ [])) ++ F2)) :=
            (Rels.mono (Same.refl B) _ _ _ r1 fun x hx => upd_ne (nb1 x hx)).append (.cons i1 (Rels.mono (Same.refl B) _ _ _ r3 fun x hx => upd_ne (nb2 x hx)))
          rw [List.append_nil, List.append_nil, ← q1, ← es, ← q3] at i2
          exact ⟨_, a :: F0, e1, .ol (by rw [upd_ne nab]; exact ha) i2, n, c⟩
        · rw [List.getElem?_set_ne (Ne.symm hj)] at e'
          obtain ⟨v, F, e1, h, n, c⟩ := s.slot j d' e'
          exact ⟨v, F, e1, h.mono (Same.refl B) _ _ _ fun x hx => upd_ne (ne (c x hx) (by intro z; injection z with z; exact hj z)), n, c⟩
      · obtain ⟨F, h, n, c⟩ := s.temp k' v' d' e'
        exact ⟨F, h.mono (Same.refl B) _ _ _ fun x hx => upd_ne (ne (c x hx) (by intro z; cases z)), n, c⟩
      · rw [upd_ne fun z => ?_]
        · exact s.frame x o e' n'
        · subst z
          rcases s.new x _ cb with q | ⟨p, _, q, _⟩
          · rw [e'] at q; cases q
          · rw [n'] at q; cases q
      · by_cases hb : x = b
        · subst hb; exact ⟨_, upd_same⟩
        · rw [upd_ne hb]; exact s.stay x o e'
      · by_cases hb : x = b
        · subst hb; exact ⟨_, upd_same⟩
        · rw [upd_ne hb]; exact s.th x y e'
end
end FM

set_option Elab.async false
set_option linter.all false
set_option maxRecDepth 100000
/-! xs[k].append(e) -/
namespace FM
open PySem PySem.Spec PyProof.Rows L2
section
variable {X : Cx} {g : Gd}
def dAppIx (i : Nat) (tk t : DE) : DE := fun r Q X => got (slotAt r i) fun c0 => got (ownL c0) fun _ => tk r (fun kd r1 => got (slotAt r1 i) fun c => got (ownL c) fun xs => got (asI kd) fun n => got (ixN xs.length n) fun k => got xs[k]? fun c2 => got (ownL c2) fun _ =>
  t r1 (fun d r2 => stb d = true ∧ got (slotAt r2 i) fun c => got (ownL c) fun xs => got xs[k]? fun c2 => got (ownL c2) fun ys => Small (ys.length + 1) ∧ Q .non (r2.set i (some (.lst true (xs.set k (.lst true (ys ++ [d]))))))) X) X
theorem se_appIx {i : Nat} {o k e : Expr} {tk t : DE} {p2 apos cpos : Pos} (po : PE X o (tVar i)) (hk : SB X g true k tk) (he : SE X g true e t) (hpx : PlainIx k) (hs1 : starEach [e] X.env = (false, eval e X.env) :: starEach [] X.env := by rfl)
    (hbase : attributeBase (.Subscript o k p2) "append" X.env (eval (.Subscript o k p2) X.env) = eval (.Subscript o k p2) X.env := by rfl)
    (hfew : ((backTo cpos (starEach [e] X.env)).all (fun x => !x.1) && (backToKw cpos (keywordEach [] X.env)).all (fun x => x.1.isSome)
      && decide (([e] : List Expr).length + ([] : List Keyword).length + (if ([] : List Keyword).isEmpty then 0 else 1) < 30)) = true := by rfl)
    (hline : (apos.endLine == cpos.line) = true := by rfl) (hplain : (backTo cpos (starEach [] X.env)).any (·.1) = false := by rfl) : SE X g false (.Call (.Attribute (.Subscript o k p2) "append" apos) [e] [] cpos) (dAppIx i tk t) := by
  obtain ⟨te2, pe2, kb⟩ := hk.run
  obtain ⟨te, pe, ka⟩ := he.run
  refine ⟨_, pe_bm PySem.F.plainAttrs_list PySem.F.slot_list_append PySem.F.type_list_append mt_append (pe_ix ix_seq po pe2 hpx) (pa_cons pe pa_nil hs1) hbase hfew hline hs1 hplain, fun fx st r ts B H col Qd Xd Q ok s ht hQ => ?_⟩
  obtain ⟨c, e1, ht⟩ := get_cases ht
  obtain ⟨xs0, e2, ht⟩ := got_cases ht
  have := ownL_some e2; subst this
  obtain ⟨a0, vs0, e3, e4, e4l⟩ := s.headL e1
  refine ⟨.ref a0, e3, kb fx st r ts B H col _ Xd _ ok s ht fun u kd r1 B1 H1 c1 h1 sB sH s1 w1 => ?_⟩
  obtain ⟨c, e5, h1⟩ := get_cases h1
  obtain ⟨xs, e6, h1⟩ := got_cases h1
  have := ownL_some e6; subst this
  have h1 : got (asI kd) fun n => got (ixN xs.length n) fun k => got xs[k]? fun c2 => got (ownL c2) fun _ => t r1 _ Xd := h1
  obtain ⟨n, e7, h1⟩ := got_cases h1
  have := asI_some e7; subst this
  have := view_int w1; subst this
  have h1 : got (ixN xs.length n) fun k => got xs[k]? fun c2 => got (ownL c2) fun _ => t r1 _ Xd := h1
  obtain ⟨k, e8, h1⟩ := got_cases h1
  have h1 : got xs[k]? fun c2 => got (ownL c2) fun _ => t r1 _ Xd := h1
  obtain ⟨c2, e9, h1⟩ := got_cases h1
  have h1 : got (ownL c2) fun _ => t r1 _ Xd := h1
  obtain ⟨ys0, e10, h1⟩ := got_cases h1
  have := ownL_some e10; subst this
  obtain ⟨a, vs, b, ws, f1, f2, f3, f4, f5, f6, _⟩ := s1.appIn e5 e9
  rw [e3] at f1; cases f1
  refine .inl ⟨a0, vs, n, .ref b, rfl, rfl, .inl (.inl f2), by unfold atI; rw [f3, e8]; exact f4, .inl ⟨rfl, ws, .inl (.inl f5)⟩, ?_⟩
  refine ka fx st r1 ts B1 H1 c1 _ Xd _ ok s1 h1 fun v d r2 B2 H2 c2 h2 sB2 sH2 s2 => ?_
  obtain ⟨hd, h2⟩ := h2
  obtain ⟨c, e11, h2⟩ := get_cases h2
  obtain ⟨xs2, e12, h2⟩ := got_cases h2
  have := ownL_some e12; subst this
  have h2 : got xs2[k]? fun c2 => got (ownL c2) fun ys => Small (ys.length + 1) ∧ Qd .non (r2.set i (some (.lst true (xs2.set k (.lst true (ys ++ [d])))))) := h2
  obtain ⟨c3, e13, h2⟩ := got_cases h2
  have h2 : got (ownL c3) fun ys => Small (ys.length + 1) ∧ Qd .non (r2.set i (some (.lst true (xs2.set k (.lst true (ys ++ [d])))))) := h2
  obtain ⟨ys, e14, hz, h9⟩ := got_cases h2
  have := ownL_some e14; subst this
  obtain ⟨a', vs', b', ws', g1, g2, g3, g4, g5, g6, g7⟩ := s2.appIn e11 e13
  rw [e3] at g1; cases g1
  have q1 := sH2 rfl _ _ f2
  rw [g2] at q1; cases q1
  rw [f4] at g4; cases g4
  have s3 := g7 v d (s2.relTop hd)
  refine ⟨b, ws', v, rfl, rfl, g5, ?_, ?_⟩
  · rw [g6, sizeLine_eq]; unfold Small at hz; omega
  · exact hQ .non .non _ B2 _ _ h9 (sB.trans sB2) (fun q => by cases q) (s3.drop.push .non)
end
end FM

set_option Elab.async false
set_option linter.all false
set_option maxRecDepth 100000
/-! enumerate and zip over tuples and lists -/
namespace FM
open PySem PySem.Spec PyProof.Rows L2
def SqK (K : PySem.W.Frag) : Bool → Hp → Addr → List V → Prop
  | true => fun H a xs => SqT K H a xs
  | false => fun H a xs => SqL K H a xs
def KSq : Bool → Heap → Addr → Array Value → Prop
  | true => fun h l items => h.IsTuple l items
  | false => fun h l items => h.IsList l items
def KIt : Bool → Heap → Addr → Addr → Nat → Prop
  | true => fun h it l i => h.IsTupleIter it l i
  | false => fun h it l i => h.IsListIter it l i
theorem KIt.obj {k : Bool} {h : Heap} {it l : Addr} {i : Nat} (x : KIt k h it l i) : ∃ o, h.get? it = some o ∧ ∀ v, o.data ≠ .cell v := by
  cases k with
  | true => obtain ⟨o, a, b, c⟩ := x; exact ⟨o, a, fun v z => by rw [c] at z; cases z⟩
  | false => obtain ⟨o, a, b, c⟩ := x; exact ⟨o, a, fun v z => by rw [c] at z; cases z⟩
theorem KIt.at {k : Bool} {h h' : Heap} {it l : Addr} {i : Nat} (x : KIt k h it l i) (e : ∀ o, h.get? it = some o → h'.get? it = some o) : KIt k h' it l i := by
  cases k with
  | true => exact Heap.IsTupleIter.at x e
  | false => exact Heap.IsListIter.at x e
theorem drawsK {prog : Program} {w : World} {A : Around} (k : Bool) (hh : A.handled = none) (it l : Addr) (hne : l ≠ it) (items : Array Value) :
    Draws prog w A it [it, l] items.size (fun i v => items[i]? = some v) (fun i h => KIt k h it l i ∧ KSq k h l items) := by
  cases k with
  | true => exact Draws.tuple hh it l hne items
  | false => exact Draws.list hh it l hne items
theorem beginsK (k : Bool) (l : Addr) (items : Array Value) : Begins (.ref l) { cls := .type (if k then "tuple_iterator" else "list_iterator"), data := .fields #[.ref l, .int 0 0] } fun h => KSq k h l items := by
  cases k with
  | true => exact begins_tuple l items
  | false => exact begins_list l items
section
variable {X : Cx} {pins : List (Addr × Obj)} {σ : L2.St} {H : Hp} {s : Shared}
theorem Inv_sqK {k : Bool} {a : Addr} {xs : List V} (I : Inv X pins σ H s) (h : SqK X.K k H a xs) : ∃ its, Vals xs its ∧ KSq k s.heap a its.toArray := by
  cases k with
  | true => obtain ⟨its, r, p, _⟩ := I.tuple h; exact ⟨its, r, p⟩
  | false => obtain ⟨its, r, p, _⟩ := I.list h; exact ⟨its, r, p.isList⟩
theorem KSq.lt {k : Bool} {h : Heap} {a : Addr} {items : Array Value} (x : KSq k h a items) : a < h.objs.size := by
  cases k with
  | true => obtain ⟨o, e, _⟩ := x; exact Heap.lt_size e
  | false => obtain ⟨o, e, _⟩ := x; exact Heap.lt_size e
theorem Inv_sqK_inj {k : Bool} {a : Addr} {xs ys : List V} (I : Inv X pins σ H s) (h : SqK X.K k H a xs) (h2 : SqK X.K k H a ys) : xs = ys := by
  cases k with
  | true => exact I.tuple_inj h h2
  | false => exact I.list_inj h h2
end
def IteK (K : PySem.W.Frag) (k : Bool) (a : Addr) : It :=
  ⟨fun i H => ∃ (xs : List V) (x : V), SqK K k H a xs ∧ xs[i]? = some x, fun i H v H' => ∃ T x, v = .ref T ∧ H T = none ∧ H' = upd H T (.tup [.int (i : Nat), x]) ∧ ∀ xs, SqK K k H a xs → xs[i]? = some x, fun i H => ∃ xs : List V, SqK K k H a xs ∧ xs.length = i⟩
theorem turn_enumK {P : Program} {w : World} {K : PySem.W.Frag} {elts : List Expr} {kk : Nat} {tpos : Pos} (k : Bool) (a e it : Addr) :
    Turn P w K (.Tuple elts kk tpos) (IteK K k a) [e, it] e (fun i h => (∃ old, IsEnum h e it ((i : Nat) : Int) old) ∧ KIt k h it a i ∧ e ≠ it ∧ a ≠ it ∧ e ≠ a) where
  mem := by simp
  obj := fun i h st b hb => by
    obtain ⟨⟨old, he⟩, hi, _⟩ := st
    have e' : b = e ∨ b = it := by simpa using hb
    rcases e' with z | z
    · rw [z]; exact ⟨_, he, fun v q => nomatch q⟩
    · rw [z]; exact hi.obj
  keep := fun i h h' st k => let ⟨⟨old, he⟩, hi, hne⟩ := st; ⟨⟨old, k e (by simp) _ he⟩, hi.at fun o q => k it (by simp) o q, hne⟩
  item := by
    intro X hP hw hK hc i pins s σ H E I hf st hg
    subst hP hw hK
    obtain ⟨⟨old, he⟩, hit, hne, hai, hea⟩ := st
    obtain ⟨xs, x, hq, hx⟩ := hg
    obtain ⟨its, rv, p⟩ := Inv_sqK I hq
    obtain ⟨u, hu, ru⟩ := rv.get hx
    have hel : e < s.heap.objs.size := Heap.lt_size he
    have hil : it < s.heap.objs.size := by obtain ⟨o, q, _⟩ := hit.obj; exact Heap.lt_size q
    have hlt : i < its.toArray.size := by simpa using (List.getElem?_eq_some_iff.mp hu).1
    have D := drawsK (prog := X.prog) (w := X.w) (A := X.A.in1) k (I.ok.hd hc) it a hai its.toArray
    refine wpAny_pyNext_enum_itemD D he ⟨hit, p⟩ hlt hne (by simp [hne, hea]) fun x' h' tk hx' ho hst hT hsz hk => ?_
    have ex : x' = u := by
      have : its[i]? = some x' := by simpa using hx'
      rw [hu] at this; exact (Option.some.inj this).symm
    subst ex
    refine ⟨_, rfl, wpAny_letOwnedTupleGo_enum (s := { s with heap := h', toks := tk + 1 }) ho fun h'' he' sb => ?_⟩
    have hT2 : h''.get? s.heap.objs.size = some { cls := .type "tuple", data := .seq #[.int i tk, x'] } := (sb.2 _ (Nat.ne_of_gt hel)).trans hT
    have new : ObjOk X.prog X.w (upd H s.heap.objs.size (.tup [.int (i : Nat), x])) h'' s.heap.objs.size (.tup [.int (i : Nat), x]) :=
      ⟨by show 2 ≤ sizeLine; decide, [.int i tk, x'], .cons ⟨_, rfl⟩ (.cons ru .nil), ⟨_, hT2, rfl, _, rfl⟩⟩
    have I1 : Inv X pins σ (upd H s.heap.objs.size (.tup [.int (i : Nat), x])) { s with heap := h'', toks := tk + 1 } :=
      I.turnedNew (ch := [e, it]) (fun b ob hb q => (sb.2 b (fun z => hb (by simp [z]))).trans (hk b ob (fun z => hb (by simp [z])) (fun z => hb (by simp [z])) q)) hf (Nat.le_refl _) new
    refine ⟨.ref s.heap.objs.size, _, I1, rfl, ⟨_, x, rfl, I.hok.fresh (Nat.le_refl _), rfl, fun ys hy => by rw [Inv_sqK_inj I hy hq]; exact hx⟩, ⟨⟨x', ?_⟩, hst.1.at fun o q => (sb.2 it (Ne.symm hne)).trans q, hne, hai, hea⟩, fun b hb => ?_⟩
    · have e1 : ((i + 1 : Nat) : Int) = (i : Int) + 1 := by omega
      rw [e1]; exact he'
    · have hb' : b < s.heap.objs.size := by
        have e' : b = e ∨ b = it := by simpa using hb
        rcases e' with z | z
        · rw [z]; exact hel
        · rw [z]; exact hil
      rw [upd_ne (Nat.ne_of_lt hb')]
      exact (hf b hb).1
  done := by
    intro X hP hw hK hc i pins s σ H E I hf st hg
    subst hP hw hK
    obtain ⟨⟨old, he⟩, hit, hne, hai, hea⟩ := st
    obtain ⟨xs, hq, hx⟩ := hg
    obtain ⟨its, rv, p⟩ := Inv_sqK I hq
    obtain ⟨f0, f1, f2, f3, f4, f5⟩ := hf it (by simp)
    have hl := rv.length
    have D := drawsK (prog := X.prog) (w := X.w) (A := X.A.in1) k (I.ok.hd hc) it a hai its.toArray
    have hst : KIt k s.heap it a its.toArray.size ∧ KSq k s.heap a its.toArray := ⟨by rw [show its.toArray.size = i by simp; omega]; exact hit, p⟩
    exact wpAny_pyNext_enum_endD D he hst fun h' eb => ⟨rfl, I.turned (t' := s.toks) (fun b o hb q => eb b o hb q) f0 f1 f3 f4 f5⟩
  self := fun A i s Q E st h => let ⟨⟨_, he⟩, _⟩ := st; wpAny_pyIter_enum he h
end FM

set_option Elab.async false
set_option linter.all false
set_option maxRecDepth 100000
/-! enumerate(x) and zip(x, y) begin; the walks over them -/
namespace FM
open PySem PySem.Spec PyProof.Rows L2
open PySem.AutoSeq1 (wpAny_loadPart')
theorem meets_enumerate_newT (l : Addr) (items : Array Value) :
    Meets (Builtin.«enumerate.__new__» ⟨[.type "enumerate", .ref l], []⟩) (fun _ R s => s.heap.IsTuple l items ∧
      R (.ok (.ret (.ref (s.heap.push { cls := .type "tuple_iterator", data := .fields #[.ref l, .int 0 0] }).objs.size)))
        { s with heap := (s.heap.push { cls := .type "tuple_iterator", data := .fields #[.ref l, .int 0 0] }).push { cls := .type "enumerate", data := .fields #[.none, .bool false, .ref s.heap.objs.size, rawInt 0, .none, .none] } }) :=
  .of_wp fun prog w A R s h => by
    obtain ⟨hp, g, d, tk, os⟩ := s; obtain ⟨hl, h⟩ := h
    have hsub := sub_enumerate
    have hL : Heap.IsTuple (Shared.heap ⟨hp, g, d, tk, os⟩) l items := hl
    wp_walk using wpAny_pyIter_tuple hL
    refine wpAny_stack_any fun st => wpAny_pure ?_
    split
    · rename_i c _ _ _ _ _
      cases (c == Value.type "enumerate")
      · wp_walk using wpAny_pyIter_tuple hL
        exact ⟨_, rfl, h⟩
      · wp_walk using wpAny_pyIter_tuple hL
        exact ⟨_, rfl, h⟩
    · wp_walk using wpAny_pyIter_tuple hL
      exact ⟨_, rfl, h⟩
section
variable {prog : Program} {w : World} {A : Around} {E : Value → Shared → Prop} {s : Shared}
theorem call_enumerate_tuple {l : Addr} {items : Array Value} {Q : Value → Shared → Prop} (hL : s.heap.IsTuple l items)
    (h : ∀ h', IsEnum h' (s.heap.objs.size + 1) s.heap.objs.size 0 .none → h'.IsTupleIter s.heap.objs.size l 0 → h'.objs.size = s.heap.objs.size + 2 →
      (∀ b o, s.heap.get? b = some o → h'.get? b = some o) → Q (.ref (s.heap.objs.size + 1)) { s with heap := h' }) :
    wpAny (model prog w) A (call (.type "enumerate") [.ref l]) Q E s := by
  refine callType_new F.called_enumerate (by decide) (F.typeCall_enumerate_1 _) (F.newCall_enumerate_1 _) (fun obj => F.args_object_init_2 obj _) F.entry_enumerate_new
    (meets_enumerate_newT l items) ⟨hL, ?_⟩
  have hz : (s.heap.push { cls := .type "tuple_iterator", data := .fields #[.ref l, .int 0 0] }).objs.size = s.heap.objs.size + 1 := Heap.size_push ..
  show _ ∧ _
  rw [hz]
  have he : IsEnum ((s.heap.push { cls := .type "tuple_iterator", data := .fields #[.ref l, .int 0 0] }).push
      { cls := .type "enumerate", data := .fields #[.none, .bool false, .ref s.heap.objs.size, rawInt 0, .none, .none] }) (s.heap.objs.size + 1) s.heap.objs.size 0 .none := by
    have := Heap.get?_push_size (s.heap.push { cls := .type "tuple_iterator", data := .fields #[.ref l, .int 0 0] })
      (o := { cls := .type "enumerate", data := .fields #[.none, .bool false, .ref s.heap.objs.size, rawInt 0, .none, .none] }) rfl
    rw [hz] at this; exact this
  exact ⟨⟨_, he, rfl⟩, h _ he ⟨_, Heap.get?_push_of_some _ (Heap.get?_push_size _ rfl), rfl, rfl⟩ (by rw [Heap.size_push, hz]) fun b o x => Heap.get?_push_of_some _ (Heap.get?_push_of_some _ x)⟩
theorem call_enumerateK {k : Bool} {l : Addr} {items : Array Value} {Q : Value → Shared → Prop} (hL : KSq k s.heap l items)
    (h : ∀ h', IsEnum h' (s.heap.objs.size + 1) s.heap.objs.size 0 .none → KIt k h' s.heap.objs.size l 0 → h'.objs.size = s.heap.objs.size + 2 →
      (∀ b o, s.heap.get? b = some o → h'.get? b = some o) → Q (.ref (s.heap.objs.size + 1)) { s with heap := h' }) :
    wpAny (model prog w) A (call (.type "enumerate") [.ref l]) Q E s := by
  cases k with
  | true => exact call_enumerate_tuple hL h
  | false => exact call_enumerate_list hL h
end
def iEnumK (K : PySem.W.Frag) (ta : TA) : TI := fun σ H R => ta σ H fun vs H1 => ∃ k a xs, vs = [.ref a] ∧ SqK K k H1 a xs ∧ R (IteK K k a) H1
theorem pi_enumK {X : Cx} {e : Expr} {ta : TA} {p pos tpos : Pos} {elts : List Expr} {kk : Nat} (hg : Gl X "enumerate") (hm : X.mg "enumerate" = none) (ha : PA X [e] ta) (hs : starEach [e] X.env = [(false, eval e X.env)] := by rfl) :
    PI X (.Tuple elts kk tpos) (.Call (.Name "enumerate" p) [e] [] pos) (iEnumK X.K ta) := by
  refine ⟨fun pins s σ H R I h => ?_⟩
  refine Call_ (ld_blt I hg hm boot_enumerate (PyProof.Rows.callWith_type1 (thn (ha.run pos pins s σ H _ I h) fun us s1 ⟨vs, H1, I1, r1, q1⟩ => ?_) hs rfl))
  obtain ⟨k, a, xs, ex, hq, q⟩ := q1
  subst ex
  cases r1 with
  | cons r rr =>
    cases rr
    cases r
    obtain ⟨its, rv, p'⟩ := Inv_sqK I1 hq
    have hal := p'.lt
    refine call_enumerateK p' fun h' he hit hsz hk => wpAny_pyIter_enum he ?_
    have I2 : Inv X pins σ H1 { s1 with heap := h' } := I1.kept (t' := s1.toks) hk
    refine ⟨s1.heap.objs.size + 1, [s1.heap.objs.size + 1, s1.heap.objs.size], _, _, H1, rfl, I2, turn_enumK k a (s1.heap.objs.size + 1) s1.heap.objs.size, ⟨⟨.none, he⟩, hit, Nat.succ_ne_self _, Nat.ne_of_lt hal, fun z => Nat.not_lt.mpr (Nat.le_add_right s1.heap.objs.size 1) (show s1.heap.objs.size + 1 < s1.heap.objs.size from z ▸ hal)⟩, fun b hb => ?_, q⟩
    have e' : b = s1.heap.objs.size + 1 ∨ b = s1.heap.objs.size := by simpa using hb
    have hle : s1.heap.objs.size ≤ b := by
      rcases e' with z | z
      · rw [z]; exact Nat.le_add_right _ _
      · rw [z]; exact Nat.le_refl _
    exact I1.fpOk hle (I1.hok.fresh hle)
/-! ### over trees -/
/-- what is walked: a tuple, or a list that is shared -/
def seqK : D → Option (Bool × List D)
  | .tup xs => some (true, xs)
  | .lst false xs => some (false, xs)
  | _ => none
theorem seqK_rel {K : PySem.W.Frag} {mg : Str → Option Value} {B H : Hp} {v : V} {d : D} {k : Bool} {xs : List D} (h : seqK d = some (k, xs)) (r : Rel K mg B H v d []) : ∃ a vs, v = .ref a ∧ SqK K k B a vs ∧ Rels K mg B H vs xs [] := by
  unfold seqK at h
  split at h
  · cases h
    generalize hF : ([] : List Addr) = F at r
    cases r with | tup hs hr => subst hF; exact ⟨_, _, rfl, hs, hr⟩
  · cases h
    cases r with | fl hs hr => exact ⟨_, _, rfl, .inl (.inl hs), hr⟩
  · cases h
theorem SqK.mono {K : PySem.W.Frag} {k : Bool} {B B' : Hp} {a : Addr} {vs : List V} (e : Same B B') (h : SqK K k B a vs) : SqK K k B' a vs := by
  cases k with
  | true => exact sqT_mono e h
  | false => exact sqL_mono e h
def enumD (xs : List D) : List D := xs.mapIdx fun i x => .tup [.int (i : Nat), x]
theorem walkD_enum {K : PySem.W.Frag} {mg : Str → Option Value} {B H : Hp} {k : Bool} {a : Addr} {vs : List V} {xs : List D} (hs : SqK K k B a vs) (rr : Rels K mg B H vs xs []) (s : stbL xs = true) : WalkD K mg B (IteK K k a) (enumD xs) := by
  have hl : (enumD xs).length = vs.length := by unfold enumD; rw [List.length_mapIdx, rr.length]
  refine ⟨fun H => SqK K k H a vs, fun i H v H' => i < vs.length ∧ ∃ T x, v = .ref T ∧ H T = none ∧ H' = upd H T (.tup [.int (i : Nat), x]) ∧ vs[i]? = some x, ?_, fun H' sb => hs.mono sb, fun i x B1 H1 H2 b1 b2 ⟨hi, T, y, e, hT, eH, ey⟩ => ?_⟩
  · rw [hl]
    exact ⟨fun i _ hi q => ⟨vs, vs[i], q, by simp [hi]⟩, fun _ q => ⟨vs, q, rfl⟩, fun i H x H' hi q y => by
      obtain ⟨T, z, e1, e2, e3, e4⟩ := y
      exact ⟨hi, T, z, e1, e2, e3, e4 vs q⟩⟩
  · subst e eH
    rw [rr.length] at hi
    obtain ⟨v, G, e2, r2, sub, _⟩ := rr.get (List.getElem?_eq_getElem hi)
    rw [ey] at e2; cases e2
    have hsx : stb xs[i] = true := by rw [stbL_all, List.all_eq_true] at s; exact s _ (List.getElem_mem hi)
    have := r2.stbF _ _ _ hsx; subst this
    have hBT : B1 T = none := by
      cases hb : B1 T with
      | none => rfl
      | some o => rw [b2 _ _ hb] at hT; cases hT
    refine ⟨.tup [.int (i : Nat), xs[i]], by unfold enumD; rw [List.getElem?_mapIdx, List.getElem?_eq_getElem hi]; rfl, by simp only [stb, stbL, hsx, Bool.and_self], upd B1 T (.tup [.int (i : Nat), y]), same_new hBT, ?_, .inr ⟨T, _, hT, rfl, rfl⟩⟩
    exact .tup (F := [] ++ ([] ++ [])) (.inl (.inl upd_same)) (.cons (.int _) (.cons (r2.mono (b1.trans (same_new hBT)) _ _ _ fun _ z => nomatch z) .nil))
section
variable {X : Cx} {g : Gd}
/-- what is handed on is shared from now on -/
def dFrz (t : DE) : DE := fun r Q X => t r (fun d r1 => Q (frz d) r1) X
theorem SE.frz {q : Bool} {e : Expr} {t : DE} (h : SE X g q e t) : SE X g q e (dFrz t) := by
  obtain ⟨te, pe, k⟩ := h.run
  exact ⟨te, pe, fun fx st r ts B H col Qd Xd Q ok s ht hQ => k fx st r ts B H col _ Xd Q ok s ht fun v d r1 B1 H1 c1 h1 sB sH s1 =>
    hQ v (FM.frz d) r1 _ H1 _ h1 (sB.trans (s1.sameF (.t ts.length))) sH s1.freezeTop⟩
def diEnum (t : DE) : DA := fun r Q X => t r (fun d r1 => got (seqK d) fun p => stbL p.2 = true ∧ Q (enumD p.2) r1) X
theorem si_enum {q : Bool} {elts : List Expr} {kk : Nat} {tpos p pos : Pos} {e : Expr} {t : DE} (hg : Gl X "enumerate") (hm : X.mg "enumerate" = none) (h : SE X g q e t) (hs : starEach [e] X.env = [(false, eval e X.env)] := by rfl) :
    SI X g q (.Tuple elts kk tpos) (.Call (.Name "enumerate" p) [e] [] pos) (diEnum t) := by
  obtain ⟨te, pe, k⟩ := h.run
  refine ⟨_, pi_enumK hg hm (pa_cons pe pa_nil (by rw [hs]; rfl)) hs, fun fx st r ts B H col Qd Xd R ok s ht hR => ?_⟩
  refine k fx st r ts B H col _ Xd _ ok s ht fun v d r1 B1 H1 c1 h1 sB sH s1 => ?_
  obtain ⟨⟨kd, xs⟩, e1, hst, h1⟩ := got_cases h1
  have hd : stb d = true := by
    unfold seqK at e1
    split at e1
    · cases e1; simpa only [stb] using hst
    · cases e1; simpa only [stb, Bool.not_false, Bool.true_and] using hst
    · cases e1
  obtain ⟨a, vs, rfl, hq, rr⟩ := seqK_rel e1 (s1.relTop hd)
  exact ⟨kd, a, vs, rfl, hq.mono s1.bh, hR _ r1 B1 H1 c1 _ h1 sB sH s1.drop (walkD_enum hq rr hst)⟩
end
end FM

set_option Elab.async false
set_option linter.all false
set_option maxRecDepth 100000
/-! zip(x, y) over tuples and lists -/
namespace FM
open PySem PySem.Spec PyProof.Rows L2
def ItzK (K : PySem.W.Frag) (k1 k2 : Bool) (a b : Addr) : It :=
  ⟨fun i H => ∃ (xs ys : List V) (x y : V), SqK K k1 H a xs ∧ SqK K k2 H b ys ∧ xs[i]? = some x ∧ ys[i]? = some y,
    fun i H v H' => ∃ T x y, v = .ref T ∧ H T = none ∧ H' = upd H T (.tup [x, y]) ∧ (∀ xs, SqK K k1 H a xs → xs[i]? = some x) ∧ ∀ ys, SqK K k2 H b ys → ys[i]? = some y,
    fun i H => ∃ xs ys : List V, SqK K k1 H a xs ∧ SqK K k2 H b ys ∧ i ≤ xs.length ∧ i ≤ ys.length ∧ (i = xs.length ∨ i = ys.length)⟩
theorem turn_zipK {P : Program} {w : World} {K : PySem.W.Frag} {elts : List Expr} {kk : Nat} {tpos : Pos} {k1 k2 : Bool} {a b z TI TO i1 i2 : Addr} (D : ZipSep2 z TI TO i1 i2 [i1, a] [i2, b]) (ha : a ≠ i1) (hb : b ≠ i2) :
    Turn P w K (.Tuple elts kk tpos) (ItzK K k1 k2 a b) [z, TI, TO, i1, i2] z (fun i h => IsZip h z TI TO .none ∧ IsTupOf2 h TI (.ref i1) (.ref i2) ∧ (∃ x y, IsTupOf2 h TO x y) ∧ KIt k1 h i1 a i ∧ KIt k2 h i2 b i) where
  mem := by simp
  obj := fun i h st c hc => by
    obtain ⟨hz, hTI, ⟨x, y, hTO⟩, h1, h2⟩ := st
    have e' : c = z ∨ c = TI ∨ c = TO ∨ c = i1 ∨ c = i2 := by simpa using hc
    rcases e' with q | q | q | q | q
    · rw [q]; exact ⟨_, hz, fun v q => nomatch q⟩
    · rw [q]; exact ⟨_, hTI, fun v q => nomatch q⟩
    · rw [q]; exact ⟨_, hTO, fun v q => nomatch q⟩
    · rw [q]; exact h1.obj
    · rw [q]; exact h2.obj
  keep := fun i h h' st k => by
    obtain ⟨hz, hTI, ⟨x, y, hTO⟩, h1, h2⟩ := st
    exact ⟨k z (by simp) _ hz, k TI (by simp) _ hTI, ⟨x, y, k TO (by simp) _ hTO⟩, h1.at fun o q => k i1 (by simp) o q, h2.at fun o q => k i2 (by simp) o q⟩
  item := by
    intro X hP hw hK hc i pins s σ H E I hf st hg
    subst hP hw hK
    obtain ⟨hz, hTI, ⟨x0, y0, hTO⟩, h1, h2⟩ := st
    obtain ⟨xs, ys, x, y, hqx, hqy, hx, hy⟩ := hg
    obtain ⟨its, rv, p⟩ := Inv_sqK I hqx
    obtain ⟨its2, rv2, p2⟩ := Inv_sqK I hqy
    obtain ⟨u, hu, ru⟩ := rv.get hx
    obtain ⟨u2, hu2, ru2⟩ := rv2.get hy
    have hzl : z < s.heap.objs.size := Heap.lt_size hz
    have l1 : i < its.toArray.size := by simpa using (List.getElem?_eq_some_iff.mp hu).1
    have l2 : i < its2.toArray.size := by simpa using (List.getElem?_eq_some_iff.mp hu2).1
    have D1 := drawsK (prog := X.prog) (w := X.w) (A := X.A.in1) k1 (I.ok.hd hc) i1 a ha its.toArray
    have D2 := drawsK (prog := X.prog) (w := X.w) (A := X.A.in1) k2 (I.ok.hd hc) i2 b hb its2.toArray
    refine wpAny_pyNext_zipD2_item D D1 D2 hz hTI hTO ⟨h1, p⟩ ⟨h2, p2⟩ l1 l2 fun x1 x2 h' tk e1 e2 z' TO' st1 st2 hT hsz hk => ?_
    have ex1 : x1 = u := by
      have : its[i]? = some x1 := by simpa using e1
      rw [hu] at this; exact (Option.some.inj this).symm
    have ex2 : x2 = u2 := by
      have : its2[i]? = some x2 := by simpa using e2
      rw [hu2] at this; exact (Option.some.inj this).symm
    subst ex1 ex2
    refine ⟨_, rfl, wpAny_letOwnedTupleGo_zip (s := { s with heap := h', toks := tk }) z' fun h'' z'' sb => ?_⟩
    have hT2 : h''.get? s.heap.objs.size = some { cls := .type "tuple", data := .seq #[x1, x2] } := (sb.2 _ (Nat.ne_of_gt hzl)).trans hT
    have new : ObjOk X.prog X.w (upd H s.heap.objs.size (.tup [x, y])) h'' s.heap.objs.size (.tup [x, y]) :=
      ⟨by show 2 ≤ sizeLine; decide, [x1, x2], .cons ru (.cons ru2 .nil), ⟨_, hT2, rfl, _, rfl⟩⟩
    have I1 : Inv X pins σ (upd H s.heap.objs.size (.tup [x, y])) { s with heap := h'', toks := tk } :=
      I.turnedNew (ch := [z, TI, TO, i1, i2]) (fun c o hb q => (sb.2 c (fun q' => hb (by simp [q']))).trans (hk c o (fun q' => hb (by simp [q'])) (fun q' => hb (by simp [q'])) (fun q' => hb (by simp [q'])) (fun q' => hb (by simp [q'])) q)) hf (Nat.le_refl _) new
    refine ⟨.ref s.heap.objs.size, _, I1, rfl, ⟨_, x, y, rfl, I.hok.fresh (Nat.le_refl _), rfl, fun l hl => by rw [Inv_sqK_inj I hl hqx]; exact hx, fun l hl => by rw [Inv_sqK_inj I hl hqy]; exact hy⟩, ⟨z'', ?_, ⟨x1, x2, ?_⟩, ?_, ?_⟩, fun c hcm => ?_⟩
    · exact (sb.2 _ D.TIz).trans (hk _ _ D.TIz D.TITO D.TIi1 D.TIi2 hTI)
    · exact (sb.2 _ D.TOz).trans TO'
    · exact st1.1.at fun o q => (sb.2 _ (fun e => D.zi1 e.symm)).trans q
    · exact st2.1.at fun o q => (sb.2 _ (fun e => D.zi2 e.symm)).trans q
    · have hlt : c < s.heap.objs.size := by
        have e' : c = z ∨ c = TI ∨ c = TO ∨ c = i1 ∨ c = i2 := by simpa using hcm
        rcases e' with q | q | q | q | q
        · rw [q]; exact hzl
        · rw [q]; exact Heap.lt_size hTI
        · rw [q]; exact Heap.lt_size hTO
        · rw [q]; obtain ⟨_, e1, _⟩ := h1.obj; exact Heap.lt_size e1
        · rw [q]; obtain ⟨_, e2, _⟩ := h2.obj; exact Heap.lt_size e2
      rw [upd_ne (Nat.ne_of_lt hlt)]
      exact (hf c hcm).1
  done := by
    intro X hP hw hK hc i pins s σ H E I hf st hg
    subst hP hw hK
    obtain ⟨hz, hTI, ⟨x0, y0, hTO⟩, h1, h2⟩ := st
    obtain ⟨xs, ys, hqx, hqy, q1, q2, hend⟩ := hg
    obtain ⟨its, rv, p⟩ := Inv_sqK I hqx
    obtain ⟨its2, rv2, p2⟩ := Inv_sqK I hqy
    have l1 := rv.length
    have l2 := rv2.length
    have D1 := drawsK (prog := X.prog) (w := X.w) (A := X.A.in1) k1 (I.ok.hd hc) i1 a ha its.toArray
    have D2 := drawsK (prog := X.prog) (w := X.w) (A := X.A.in1) k2 (I.ok.hd hc) i2 b hb its2.toArray
    exact wpAny_pyNext_zipD2_end D D1 D2 hz hTI hTO ⟨h1, p⟩ ⟨h2, p2⟩ (by simp; omega) (by simp; omega) (by simp; omega) fun h' tk hk => ⟨rfl, I.turnedL (t' := tk) (ch := [z, TI, TO, i1, i2]) (fun c o hb q =>
      hk c o (fun q' => hb (by simp [q'])) (fun q' => hb (by simp [q'])) (fun q' => hb (by simp [q'])) (fun q' => hb (by simp [q'])) q) hf⟩
  self := fun A i s Q E st h => wpAny_pyIter_zip st.1 h
def iZipK (K : PySem.W.Frag) (ta : TA) : TI := fun σ H R => ta σ H fun vs H1 => ∃ k1 k2 a b xs ys, vs = [.ref a, .ref b] ∧ SqK K k1 H1 a xs ∧ SqK K k2 H1 b ys ∧ R (ItzK K k1 k2 a b) H1
theorem KIt_new {k : Bool} {h : Heap} {it l : Addr} (e : h.get? it = some { cls := .type (if k then "tuple_iterator" else "list_iterator"), data := .fields #[.ref l, .int 0 0] }) : KIt k h it l 0 := by
  cases k with
  | true => exact ⟨_, e, rfl, rfl⟩
  | false => exact ⟨_, e, rfl, rfl⟩
theorem pi_zipK {X : Cx} {e e2 : Expr} {ta : TA} {p pos tpos : Pos} {elts : List Expr} {kk : Nat} (hg : Gl X "zip") (hm : X.mg "zip" = none) (ha : PA X [e, e2] ta)
    (hs : starEach [e, e2] X.env = (false, eval e X.env) :: starEach [e2] X.env := by rfl) (hpl : (backTo pos (starEach [e2] X.env)).any (·.1) = false := by rfl) :
    PI X (.Tuple elts kk tpos) (.Call (.Name "zip" p) [e, e2] [] pos) (iZipK X.K ta) := by
  refine ⟨fun pins s σ H R I h => ?_⟩
  refine Call_ (ld_blt I hg hm PyProof.Rows.boot_zip (PyProof.Rows.callWith_type1 (thn (ha.run pos pins s σ H _ I h) fun us s1 ⟨vs, H1, I1, r1, q1⟩ => ?_) hs hpl))
  obtain ⟨k1, k2, a, b, xs, ys, ex, hqx, hqy, q⟩ := q1
  subst ex
  cases r1 with
  | cons r rr =>
    cases rr with
    | cons r' rr =>
      cases rr
      cases r
      cases r'
      have fresh5 : ∀ c, c ∈ [s1.heap.objs.size + 4, s1.heap.objs.size + 2, s1.heap.objs.size + 3, s1.heap.objs.size, s1.heap.objs.size + 1] → FpOk X pins H1 c := fun c hcm => by
        have e' : c = s1.heap.objs.size + 4 ∨ c = s1.heap.objs.size + 2 ∨ c = s1.heap.objs.size + 3 ∨ c = s1.heap.objs.size ∨ c = s1.heap.objs.size + 1 := by simpa using hcm
        have hle : s1.heap.objs.size ≤ c := by
          rcases e' with z | z | z | z | z
          · rw [z]; exact Nat.le_add_right _ _
          · rw [z]; exact Nat.le_add_right _ _
          · rw [z]; exact Nat.le_add_right _ _
          · rw [z]; exact Nat.le_refl _
          · rw [z]; exact Nat.le_add_right _ _
        exact I1.fpOk hle (I1.hok.fresh hle)
      obtain ⟨its, rv, p1⟩ := Inv_sqK I1 hqx
      obtain ⟨its2, rv2, p2⟩ := Inv_sqK I1 hqy
      have la := p1.lt
      have lb := p2.lt
      refine zip_begins2 (beginsK k1 a its.toArray) (beginsK k2 b its2.toArray) p1 p2 fun h' hz hTI hTO g1 g2 hsz hk => wpAny_pyIter_zip hz ?_
      have I2 : Inv X pins σ H1 { s1 with heap := h' } := I1.kept (t' := s1.toks) hk
      have S : ZipSep2 (s1.heap.objs.size + 4) (s1.heap.objs.size + 2) (s1.heap.objs.size + 3) s1.heap.objs.size (s1.heap.objs.size + 1) [s1.heap.objs.size, a] [s1.heap.objs.size + 1, b] :=
        zip_sep2 (N := s1.heap.objs.size) (fp1 := [a]) (fp2 := [b]) (fun x hx => by rw [List.mem_singleton.mp hx]; exact la) (fun x hx => by rw [List.mem_singleton.mp hx]; exact lb)
      exact ⟨s1.heap.objs.size + 4, [s1.heap.objs.size + 4, s1.heap.objs.size + 2, s1.heap.objs.size + 3, s1.heap.objs.size, s1.heap.objs.size + 1], _, _, H1, rfl, I2,
        turn_zipK (k1 := k1) (k2 := k2) S (Nat.ne_of_lt la) (fun z => Nat.not_lt.mpr (Nat.le_add_right s1.heap.objs.size 1) (show s1.heap.objs.size + 1 < s1.heap.objs.size from z ▸ lb)),
        ⟨hz, hTI, ⟨_, _, hTO⟩, KIt_new g1, KIt_new g2⟩, fresh5, q⟩
/-! ### over trees -/
def zipD (xs ys : List D) : List D := List.zipWith (fun x y => .tup [x, y]) xs ys
theorem walkD_zip {K : PySem.W.Frag} {mg : Str → Option Value} {B H : Hp} {k1 k2 : Bool} {a b : Addr} {vs ws : List V} {xs ys : List D} (hs : SqK K k1 B a vs) (hs2 : SqK K k2 B b ws) (rr : Rels K mg B H vs xs []) (rr2 : Rels K mg B H ws ys []) (s : stbL xs = true) (s2 : stbL ys = true) : WalkD K mg B (ItzK K k1 k2 a b) (zipD xs ys) := by
  have hl : (zipD xs ys).length = min vs.length ws.length := by unfold zipD; rw [List.length_zipWith, rr.length, rr2.length]
  refine ⟨fun H => SqK K k1 H a vs ∧ SqK K k2 H b ws, fun i H v H' => i < vs.length ∧ i < ws.length ∧ ∃ T x y, v = .ref T ∧ H T = none ∧ H' = upd H T (.tup [x, y]) ∧ vs[i]? = some x ∧ ws[i]? = some y, ?_, fun H' sb => ⟨hs.mono sb, hs2.mono sb⟩, fun i x B1 H1 H2 b1 b2 ⟨hi, hi2, T, y, y2, e, hT, eH, ey, ey2⟩ => ?_⟩
  · rw [hl]
    exact ⟨fun i _ hi q => ⟨vs, ws, vs[i]'(by omega), ws[i]'(by omega), q.1, q.2, by simp [show i < vs.length by omega], by simp [show i < ws.length by omega]⟩, fun _ q => ⟨vs, ws, q.1, q.2, by omega, by omega, by omega⟩, fun i H x H' hi q y => by
      obtain ⟨T, z, z2, e1, e2, e3, e4, e5⟩ := y
      exact ⟨by omega, by omega, T, z, z2, e1, e2, e3, e4 vs q.1, e5 ws q.2⟩⟩
  · subst e eH
    rw [rr.length] at hi
    rw [rr2.length] at hi2
    obtain ⟨v, G, e2, r2, sub, _⟩ := rr.get (List.getElem?_eq_getElem hi)
    rw [ey] at e2; cases e2
    obtain ⟨v2, G2, e3, r3, sub2, _⟩ := rr2.get (List.getElem?_eq_getElem hi2)
    rw [ey2] at e3; cases e3
    have hsx : stb xs[i] = true := by rw [stbL_all, List.all_eq_true] at s; exact s _ (List.getElem_mem hi)
    have := r2.stbF _ _ _ hsx; subst this
    have hsy : stb ys[i] = true := by rw [stbL_all, List.all_eq_true] at s2; exact s2 _ (List.getElem_mem hi2)
    have := r3.stbF _ _ _ hsy; subst this
    have hBT : B1 T = none := by
      cases hb : B1 T with
      | none => rfl
      | some o => rw [b2 _ _ hb] at hT; cases hT
    refine ⟨.tup [xs[i], ys[i]], by unfold zipD; rw [List.getElem?_zipWith, List.getElem?_eq_getElem hi, List.getElem?_eq_getElem hi2], by simp only [stb, stbL, hsx, hsy, Bool.and_self], upd B1 T (.tup [y, y2]), same_new hBT, ?_, .inr ⟨T, _, hT, rfl, rfl⟩⟩
    exact .tup (F := [] ++ ([] ++ [])) (.inl (.inl upd_same)) (.cons (r2.mono (b1.trans (same_new hBT)) _ _ _ fun _ z => nomatch z) (.cons (r3.mono (b1.trans (same_new hBT)) _ _ _ fun _ z => nomatch z) .nil))
theorem seqK_stb {d : D} {k : Bool} {xs : List D} (h : seqK d = some (k, xs)) (s : stbL xs = true) : stb d = true := by
  unfold seqK at h
  split at h
  · cases h; simpa only [stb] using s
  · cases h; simpa only [stb, Bool.not_false, Bool.true_and] using s
  · cases h
section
variable {X : Cx} {g : Gd}
def diZip (u : DA) : DA := fun r Q X => u r (fun ds r1 => match ds with
  | [d, e] => got (seqK d) fun p => got (seqK e) fun p2 => stbL p.2 = true ∧ stbL p2.2 = true ∧ Q (zipD p.2 p2.2) r1
  | _ => False) X
theorem si_zip {q : Bool} {elts : List Expr} {kk : Nat} {tpos p pos : Pos} {e e2 : Expr} {u : DA} (hg : Gl X "zip") (hm : X.mg "zip" = none) (h : SA X g q [e, e2] u)
    (hs : starEach [e, e2] X.env = (false, eval e X.env) :: starEach [e2] X.env := by rfl) (hpl : (backTo pos (starEach [e2] X.env)).any (·.1) = false := by rfl) :
    SI X g q (.Tuple elts kk tpos) (.Call (.Name "zip" p) [e, e2] [] pos) (diZip u) := by
  obtain ⟨te, pe, k⟩ := h.run
  refine ⟨_, pi_zipK hg hm pe hs hpl, fun fx st r ts B H col Qd Xd R ok s ht hR => ?_⟩
  refine k fx st r ts B H col _ Xd _ ok s ht fun vds r1 B1 H1 c1 h1 sB sH s1 => ?_
  split at h1
  · rename_i d d2 eds
    obtain ⟨⟨kd, xs⟩, e1, h1⟩ := got_cases h1
    obtain ⟨⟨kd2, ys⟩, e3, hst, hst2, h9⟩ := got_cases h1
    match vds, eds with
    | [(v, _), (v2, _)], rfl =>
      obtain ⟨F, t1, _, _⟩ := s1.temp ts.length v d (by rw [List.getElem?_append_right (by omega)]; simp)
      obtain ⟨F2, t2, _, _⟩ := s1.temp (ts.length + 1) v2 d2 (by rw [List.getElem?_append_right (by omega)]; simp)
      have := t1.stbF _ _ _ (seqK_stb e1 hst); subst this
      have := t2.stbF _ _ _ (seqK_stb e3 hst2); subst this
      obtain ⟨a, vs, rfl, hq, rr⟩ := seqK_rel e1 t1
      obtain ⟨b, ws, rfl, hq2, rr2⟩ := seqK_rel e3 t2
      exact ⟨kd, kd2, a, b, vs, ws, rfl, hq.mono s1.bh, hq2.mono s1.bh, hR _ r1 B1 H1 c1 _ h9 sB sH s1.drop (walkD_zip hq hq2 rr rr2 hst hst2)⟩
  · exact h1.elim
end
end FM

set_option Elab.async false
set_option linter.all false
set_option maxRecDepth 100000
/-! min(xs, default = v) -/
namespace FM
open PySem PySem.Spec PyProof.Rows L2
open Sem (wp)
section
variable {prog : Program} {w : World} {A : Around} {R : Result → Shared → Prop} {I : Addr} {fp wr : List Addr} {n : Nat} {P : Nat → Value → Prop} {St : Nat → Heap → Prop}
theorem min_loopK (kw : List (Str × Value)) (W : Walks prog w A.in1 I fp wr n P St) (bt : Nat → Nat → Bool) (hcmp : CmpOf prog w A.in1 .Lt P bt) (S : Addr) (hSf : S ∉ fp) :
    ∀ (k j : Nat) (s : Shared) (vb : Value) (c : Nat), n - (j + 1) = k → j + 1 ≤ n → St (j + 1) s.heap → P (argBest bt j) vb →
    s.heap.get? S = some { cls := .type "list", dict := none, data := .seq #[vb, vb] c, slots := #[] } →
    (∀ v h' tk, P (argBest bt (n - 1)) v → (∀ b o, b ∉ wr → b ≠ S → s.heap.get? b = some o → h'.get? b = some o) → R (.ok (.ret v)) { s with heap := h', toks := tk }) →
    codeAny (model prog w) A (.builtin "min.loop" ⟨[.ref I, .none, .ref S], kw⟩) R s := by
  have hSw : S ∉ wr := fun h => hSf (W.sub _ h)
  have hname : (toString "min" ++ toString ".loop" : String) = "min.loop" := by decide
  intro k
  induction k with
  | zero =>
    intro j s vb c hk hj hst hPb hS hR
    have hin : j + 1 = n := by omega
    refine codeAny_builtin PySem.F.entry_min_loop ?_
    rw [Around.under_plainId PySem.F.plain_min_loop _]
    show wpAny _ A.in1 (seqItems? (.ref S) >>= _) _ _ s
    refine wpAny_bind (wpAny_seqItems hS rfl ?_)
    show wpAny _ A.in1 (tryCatch (pyNext (.ref I)) _ >>= _) _ _ s
    refine wpAny_bind (wpAny_tryCatch (W.done s _ _ (hin ▸ hst) fun h' tk hk' => ?_))
    have hS' := hk' S _ hSw hS
    show wpAny _ A.in1 (updateSeq S (fun _ => #[]) >>= _) _ _ _
    refine wpAny_bind ?_
    refine wpAny_updateSeq hS' rfl (wpAny_bind (wpAny_letGo (wpAny_pure ?_)))
    refine hR vb _ tk (by rw [← hin]; exact hPb) fun b o hbw hbS e => (Heap.get?_update_other _ _ (Ne.symm hbS)).trans (hk' b o hbw e)
  | succ k ih =>
    intro j s vb c hk hj hst hPb hS hR
    have hlt : j + 1 < n := by omega
    refine codeAny_builtin PySem.F.entry_min_loop ?_
    rw [Around.under_plainId PySem.F.plain_min_loop _]
    show wpAny _ A.in1 (seqItems? (.ref S) >>= _) _ _ s
    refine wpAny_bind (wpAny_seqItems hS rfl ?_)
    show wpAny _ A.in1 (tryCatch (pyNext (.ref I)) _ >>= _) _ _ s
    refine wpAny_bind (wpAny_tryCatch (W.item (j + 1) s _ _ hlt hst fun v h' tk hP hst' hk' => ?_))
    have hS' := hk' S _ hSw hS
    show wpAny _ A.in1 (tryCatch (holding [v, v] (richCompare .Lt v vb >>= _)) _ >>= _) _ _ _
    refine wpAny_bind (wpAny_tryCatch (wpAny_holding (wpAny_bind (hcmp (j + 1) (argBest bt j) v vb _ _ _ hP hPb ?_))))
    refine wpAny_bind (wpAny_holding (wpAny_truthy_bool ?_))
    refine wpAny_bind (wpAny_letGo (wpAny_pure ?_))
    cases hb : bt (j + 1) (argBest bt j) with
    | true =>
      simp only [if_true]
      refine wpAny_bind ?_
      refine wpAny_updateSeq hS' rfl (wpAny_bind (wpAny_letGo ?_))
      rw [hname]
      refine wpAny_pure ⟨plainId_quiet PySem.F.plain_min_loop _, ih (j + 1) _ v _ (by omega) hlt (W.frame _ _ _ hst' fun b hbf o e => ?_) (by simp only [argBest, hb, if_true]; exact hP) (Heap.get?_update_self _ hS' rfl)
        fun v' h'' tk'' hP' hk'' => ?_⟩
      · exact (Heap.get?_update_other _ _ (fun h : S = b => hSf (by rw [h]; exact hbf))).trans e
      · exact hR v' h'' tk'' hP' fun b o hbw hbS e => hk'' b o hbw hbS ((Heap.get?_update_other _ _ (Ne.symm hbS)).trans (hk' b o hbw e))
    | false =>
      simp only [Bool.false_eq_true, if_false]
      refine wpAny_bind (wpAny_letGo ?_)
      rw [hname]
      refine wpAny_pure ⟨plainId_quiet PySem.F.plain_min_loop _, ih (j + 1) _ vb c (by omega) hlt hst' (by simp only [argBest, hb, Bool.false_eq_true, if_false]; exact hPb) hS' fun v' h'' tk'' hP' hk'' => ?_⟩
      exact hR v' h'' tk'' hP' fun b o hbw hbS e => hk'' b o hbw hbS (hk' b o hbw e)
theorem min_firstK (kw : List (Str × Value)) (W : Walks prog w A.in1 I fp wr n P St) (bt : Nat → Nat → Bool) (hcmp : CmpOf prog w A.in1 .Lt P bt) (S : Addr) (hSf : S ∉ fp) (hn : 0 < n) {s : Shared} {c : Nat} (hst : St 0 s.heap)
    (hS : s.heap.get? S = some { cls := .type "list", dict := none, data := .seq #[] c, slots := #[] })
    (hR : ∀ v h' tk, P (argBest bt (n - 1)) v → (∀ b o, b ∉ wr → b ≠ S → s.heap.get? b = some o → h'.get? b = some o) → R (.ok (.ret v)) { s with heap := h', toks := tk }) :
    codeAny (model prog w) A (.builtin "min.loop" ⟨[.ref I, .none, .ref S], kw⟩) R s := by
  have hSw : S ∉ wr := fun h => hSf (W.sub _ h)
  have hname : (toString "min" ++ toString ".loop" : String) = "min.loop" := by decide
  refine codeAny_builtin PySem.F.entry_min_loop ?_
  rw [Around.under_plainId PySem.F.plain_min_loop _]
  show wpAny _ A.in1 (seqItems? (.ref S) >>= _) _ _ s
  refine wpAny_bind (wpAny_seqItems hS rfl ?_)
  show wpAny _ A.in1 (tryCatch (pyNext (.ref I)) _ >>= _) _ _ s
  refine wpAny_bind (wpAny_tryCatch (W.item 0 s _ _ hn hst fun v h' tk hP hst' hk' => ?_))
  have hS' := hk' S _ hSw hS
  show wpAny _ A.in1 (updateSeq S (fun _ => #[v, v]) >>= _) _ _ _
  refine wpAny_bind ?_
  refine wpAny_updateSeq hS' rfl ?_
  rw [hname]
  refine wpAny_pure ⟨plainId_quiet PySem.F.plain_min_loop _, min_loopK kw W bt hcmp S hSf _ 0 _ v _ rfl hn (W.frame _ _ _ hst' fun b hbf o e => ?_) hP (Heap.get?_update_self _ hS' rfl) fun v' h'' tk'' hP' hk'' => ?_⟩
  · exact (Heap.get?_update_other _ _ (fun h : S = b => hSf (by rw [h]; exact hbf))).trans e
  · exact hR v' h'' tk'' hP' fun b o hbw hbS e => hk'' b o hbw hbS ((Heap.get?_update_other _ _ (Ne.symm hbS)).trans (hk' b o hbw e))
theorem min_emptyK (dv : Value) (W : Walks prog w A.in1 I fp wr n P St) (S : Addr) (hn : n = 0) {s : Shared} {c : Nat} (hst : St 0 s.heap)
    (hS : s.heap.get? S = some { cls := .type "list", dict := none, data := .seq #[] c, slots := #[] })
    (hR : ∀ h' tk, (∀ b o, b ∉ wr → s.heap.get? b = some o → h'.get? b = some o) → R (.ok (.ret dv)) { s with heap := h', toks := tk }) :
    codeAny (model prog w) A (.builtin "min.loop" ⟨[.ref I, .none, .ref S], [(Str.ofString "default", dv)]⟩) R s := by
  refine codeAny_builtin PySem.F.entry_min_loop ?_
  rw [Around.under_plainId PySem.F.plain_min_loop _]
  show wpAny _ A.in1 (seqItems? (.ref S) >>= _) _ _ s
  refine wpAny_bind (wpAny_seqItems hS rfl ?_)
  show wpAny _ A.in1 (tryCatch (pyNext (.ref I)) _ >>= _) _ _ s
  refine wpAny_bind (wpAny_tryCatch (W.done s _ _ (hn ▸ hst) fun h' tk hk' => ?_))
  show wpAny _ A.in1 (rule _ >>= _) _ _ _
  refine wpAny_bind (wpAny_rule (wpAny_pure ?_))
  exact hR h' tk hk'
theorem min_args_d (a v : Value) : argsOk "min" ⟨[a], [(Str.ofString "default", v)]⟩ := by unfold argsOk; kernel_rfl
variable {E : Value → Shared → Prop} {s : Shared}
theorem call_min_d {x dv : Value} {Q : Value → Shared → Prop}
    (h : wpAny (model prog w) A.in1 (pyIter x) (fun it s₂ => ∃ I fp wr n P St bt, it = .ref I ∧ Walks prog w A.in1 I fp wr n P St ∧ St 0 s₂.heap ∧ (∀ b ∈ fp, b < s₂.heap.objs.size) ∧ CmpOf prog w A.in1 .Lt P bt ∧
      (0 < n → ∀ v h' tk, P (argBest bt (n - 1)) v → (∀ b o, b ∉ wr → s₂.heap.get? b = some o → h'.get? b = some o) → Q v { s₂ with heap := h', toks := tk }) ∧
      (n = 0 → ∀ h' tk, (∀ b o, b ∉ wr → s₂.heap.get? b = some o → h'.get? b = some o) → Q dv { s₂ with heap := h', toks := tk })) E s) :
    wpAny (model prog w) A (call (.builtin "min") [x] [(Str.ofString "default", dv)]) Q E s := by
  have hname : (toString "min" ++ toString ".loop" : String) = "min.loop" := by decide
  refine PyProof.Rows.kmk_tree PySem.F.kind_min PySem.F.plain_min PySem.F.entry_min (min_args_d _ _) ?_
  show wpAny _ A.in1 (Builtin.Builtins.bindParams "min" ["key", "default"] 0 ⟨[], [(Str.ofString "default", dv)]⟩ >>= _) _ _ s
  refine wpAny_bind (wpAny_of_eq (show Builtin.Builtins.bindParams "min" ["key", "default"] 0 ⟨[], [(Str.ofString "default", dv)]⟩ = pure [none, some dv] from rfl) ?_)
  refine wpAny_bind (wpAny_pure ?_)
  refine wpAny_bind (wpAny_mono h (fun it s₂ h₂ => ?_) fun _ _ e => e)
  obtain ⟨I, fp, wr, n, P, St, bt, rfl, W, hst, hfp, hcmp, hQ, hQ0⟩ := h₂
  refine wpAny_bind (wpAny_newObj_type ?_)
  have hSf : s₂.heap.objs.size ∉ fp := fun hm => Nat.lt_irrefl _ (hfp _ hm)
  rw [hname]
  by_cases hn : 0 < n
  · refine wpAny_pure ⟨plainId_quiet PySem.F.plain_min_loop _, min_firstK _ W bt hcmp s₂.heap.objs.size hSf hn (W.frame _ _ _ hst fun b _ o e => Heap.get?_push_of_some _ e) (Heap.get?_push_size _ rfl) fun v h' tk hP hk => ?_⟩
    exact hQ hn v h' tk hP fun b o hbw e => hk b o hbw (Nat.ne_of_lt (Heap.lt_size e)) (Heap.get?_push_of_some _ e)
  · refine wpAny_pure ⟨plainId_quiet PySem.F.plain_min_loop _, min_emptyK dv W s₂.heap.objs.size (by omega) (W.frame _ _ _ hst fun b _ o e => Heap.get?_push_of_some _ e) (Heap.get?_push_size _ rfl) fun h' tk hk => ?_⟩
    exact hQ0 (by omega) h' tk fun b o hbw e => hk b o hbw (Heap.get?_push_of_some _ e)
end
end FM

set_option Elab.async false
set_option linter.all false
set_option maxRecDepth 100000
namespace FM
open PySem PySem.Spec PyProof.Rows L2
section
variable {prog : Program} {w : World} {A : Around} {E : Value → Shared → Prop} {s : Shared}
theorem min_rawD {l : Addr} {its : List Value} {ns : List Int} {dv : Value} {Q : Value → Shared → Prop} (hh : A.handled = none) (hl : s.heap.IsList l its.toArray) (hi : IntsAre its ns)
    (h : 0 < ns.length → ∀ h' tk M t', (∀ b o, s.heap.get? b = some o → h'.get? b = some o) → M ∈ ns → (∀ a, a ∈ ns → M ≤ a) → Q (.int M t') { s with heap := h', toks := tk })
    (h0 : ns.length = 0 → ∀ h' tk, (∀ b o, s.heap.get? b = some o → h'.get? b = some o) → Q dv { s with heap := h', toks := tk }) : wpAny (model prog w) A (call (.builtin "min") [.ref l] [(Str.ofString "default", dv)]) Q E s := by
  obtain ⟨xs, e⟩ := hi.allInts.items
  have hn : numsOf (intItems xs).toList = ns := by rw [← e]; exact hi.numsOf
  rw [nums_intItems] at hn
  subst hn
  rw [e] at hl
  refine call_min_d (iter_intList hl fun s₂ e st hfp hlI => ?_)
  subst e
  refine ⟨_, _, _, _, _, _, _, rfl, Walks.list (A := A.in1) hh _ l hlI (intItems xs), st, hfp, CmpOf.ints_lt (numAt xs) (fun _ _ => intItems_at), fun hn v h' tk hP hk => ?_, fun hn h' tk hk => ?_⟩
  · have hsz : 0 < xs.size := by simpa [intItems] using hn
    have hP' : (intItems xs)[argBest (fun i j => decide (numAt xs i < numAt xs j)) (xs.size - 1)]? = some v := by simpa [intItems] using hP
    obtain ⟨t, rfl⟩ := intItems_at hP'
    obtain ⟨h1, h2⟩ := argBest_lt (numAt xs) (xs.size - 1)
    refine h (by simpa using hsz) h' tk _ t (old_kept hk) ?_ fun a ha => ?_
    · rw [numAt_eq]; exact PySem.getD_mem (by rw [List.length_map, Array.length_toList]; omega)
    · obtain ⟨j, hj, rfl⟩ := mem_getD ha
      rw [List.length_map, Array.length_toList] at hj
      rw [← numAt_eq]; exact h2 j (by omega)
  · exact h0 (by simpa [intItems] using hn) h' tk (old_kept hk)
end
section
variable {X : Cx} {g : Gd}
theorem crk_min (hc : X.calm = true) : CallRK X (.builtin "min") [Str.ofString "default"] (fun vs zs H Q => ∃ (a : Addr) (ns : List Int) (d : V), vs = [V.ref a] ∧ zs = [d] ∧ SqL X.K H a (ns.map V.int) ∧ (ns = [] → Q d H) ∧ (ns ≠ [] → ∀ m, m ∈ ns → (∀ y, y ∈ ns → m ≤ y) → Q (.int m) H)) := by
  intro pins s σ H vs zs us ws Q I r r2 h
  obtain ⟨a, ns, d, rfl, rfl, hs, q0, q1⟩ := h
  obtain ⟨its, rv, hl, _⟩ := I.list hs
  rw [Vals.ref1 r]
  obtain ⟨dv, rfl, rd⟩ := vals1 r2
  refine min_rawD (I.ok.hd hc) hl.isList rv.ints (fun hn h' tk m t' hk h1 h2 => ⟨.int _, H, I.kept hk, ⟨_, rfl⟩, q1 (fun z => by rw [z] at hn; exact absurd hn (by decide)) m h1 h2⟩) (fun hn h' tk hk => ⟨d, H, I.kept hk, rd, q0 (List.eq_nil_of_length_eq_zero hn)⟩)
def gMinD : D → D → Option D
  | .lst _ xs, .int c => (intsOf xs).map fun ns => .int ((minO ns).getD c)
  | _, _ => none
theorem se_minD {qa : Bool} {e c : Expr} {ta tc : DE} {p pos kpos : Pos} (hc : X.calm = true) (hg : Gl X "min") (hm : X.mg "min" = none) (ha : SB X g qa e ta) (hb : SB X g true c tc)
    (hs : starEach [e] X.env = (false, eval e X.env) :: starEach [] X.env := by rfl)
    (he : backTo pos (starEach (e :: []) X.env) = (false, eval e X.env) :: backTo pos (starEach [] X.env) := by rfl) (hpl : (backTo pos (starEach (e :: []) X.env)).any (·.1) = false := by rfl)
    (hall : (backToKw pos (keywordEach [⟨some "default", c, kpos⟩] X.env)).all (·.1.isSome) = true := by rfl) (hnone : (backToKw pos (keywordEach [⟨some "default", c, kpos⟩] X.env)).any (·.1.isNone) = false := by rfl) (hks : (backToKw pos (keywordEach [⟨some "default", c, kpos⟩] X.env)).filterMap (·.1) = [Str.ofString "default"] := by rfl) :
    SE X g qa (.Call (.Name "min" p) [e] [⟨some "default", c, kpos⟩] pos) (dOp gMinD ta tc) := by
  obtain ⟨te, pe, ka⟩ := ha.run
  obtain ⟨te2, pe2, kb⟩ := hb.run
  refine ⟨_, pe_callBK (crk_min hc) hg hm boot_min (pa_cons pe pa_nil hs) (pk_cons pe2 pk_nil) (by decide) (by decide) he hpl hall hnone hks, fun fx st r ts B H col Qd Xd Q ok s ht hQ => ?_⟩
  refine ka fx st r ts B H col _ Xd _ ok s ht fun v d r1 B1 H1 c1 h1 sB sH s1 w1 => ?_
  refine kb fx st r1 ts B1 H1 c1 _ Xd _ ok s1 h1 fun u e r2 B2 H2 c2 h2 sB2 sH2 s2 w2 => ?_
  obtain ⟨z, ez, hz⟩ := got_cases h2
  unfold gMinD at ez
  split at ez
  · rename_i fl xs dc
    obtain ⟨ns, e1, e2⟩ := Option.map_eq_some_iff.mp ez
    subst e2
    have := view_int w2; subst this
    obtain ⟨a, vs, F, rfl, h, rr⟩ := (w1.mono sB2 (sH2 rfl)).lst s2.bh
    obtain ⟨rfl, _⟩ := rels_intsOf rr e1
    refine ⟨a, ns, .int dc, rfl, rfl, .inl (.inl h), fun z => ?_, fun z m hm h2 => ?_⟩
    · subst z
      exact hQ _ _ r2 B2 H2 c2 hz (sB.trans sB2) (fun q => (sH q).trans (sH2 rfl)) (s2.push (.int _))
    · cases ns with
      | nil => exact absurd rfl z
      | cons x xs =>
        obtain ⟨q1, q2⟩ := minL_spec xs x
        have : m = minL x xs := Int.le_antisymm (h2 _ q1) (q2 m hm)
        subst this
        exact hQ _ _ r2 B2 H2 c2 hz (sB.trans sB2) (fun q => (sH q).trans (sH2 rfl)) (s2.push (.int _))
  · cases ez
end
end FM

set_option Elab.async false
set_option linter.all false
set_option maxRecDepth 100000
/-! a call of what an expression tells -/
namespace FM
open PySem PySem.Spec PyProof.Rows L2
section
variable {X : Cx} {k : Nat} {E : XK} {pos : Pos} {fe e : Expr} {es : List Expr} {t : TA} {tf : TE}
theorem pe_callGX (hf : PE X fe tf) (hr : Room k X.A) (hgd : X.A.guards = some []) (hx : Passes (L2N.CX X.prog X.w) X E)
    (ha : PA X (e :: es) t) (he : starEach (e :: es) X.env = (false, eval e X.env) :: starEach es X.env := by rfl) (hpl : (backTo pos (starEach es X.env)).any (·.1) = false := by rfl)
    (ht : eval (.Call fe (e :: es) [] pos) X.env = (do callWith pos (← eval fe X.env) [] (backTo pos (starEach (e :: es) X.env)) (backToKw pos (keywordEach [] X.env))) := by rfl) :
    PE X (.Call fe (e :: es) [] pos) (fun st H Q => tf st H fun x H1 => ∃ (f : Addr) (fd : FuncData) (ps : List Str) (sp : Sp), x = .ref f ∧ FnG X.prog X.w X.K X.mg X.base k f fd ps sp ∧ PySem.W.keepIn X.K (.ref f) = true ∧ Binds X.K fd ps [] ∧ t st H1 fun vs H2 => sp vs H2 Q E) := by
  constructor
  intro pins s st H Q I h
  refine Call_ (thn (hf.run pins s st H _ I h) fun u s0 ⟨x, H0, I0, rx, f, fd, ps, sp, ex, F, hk, hb, q0⟩ => ?_) ht
  subst ex
  cases rx
  refine PySem.W.callWith_K (h₀ := X.base) I0.ok.mod.kin hk (thn (ha.run pos pins s0 st H0 _ I0 q0) fun us s1 ⟨vs, H1, I1, r, q⟩ => ⟨I1.kIn, ?_⟩) he hpl
  have hl : us.length = ps.length := by rw [← r.length]; exact F.len _ _ _ _ q
  have b := hb s1 us I1.kIn (by rw [List.append_nil]; exact hl)
  rw [List.append_nil] at b
  refine wpAny_call (codeAny_mono (F.run X.A X.stack s1 H1 ⟨us, []⟩ us vs Q E hr hgd I1.env0 b r q) fun res s' hq => ?_)
  cases res with
  | error e => exact hx pins st H1 s1 e s' I1 hq
  | ok fl =>
    cases fl with
    | ret u => exact I1.after hq
    | next => exact False.elim hq
    | brk => exact False.elim hq
    | cont => exact False.elim hq
end
section
variable {X : Cx} {g : Gd}
def nmOf : D → Option Str
  | .cls x => some x
  | _ => none
def dCallX (tab : Str → Option FSpec) (t : DE) (w : DAk) : DE := fun r Q X => t r (fun d r1 => got (nmOf d) fun x => got (tab x) fun fs => dCall fs w r1 Q X) X
/-- what is known of the defs that may be called -/
def TabK (X : Cx) (k : Nat) (tab : Str → Option FSpec) : Prop := ∀ x fs, tab x = some fs → ∃ (f : Addr) (fd : FuncData) (ps : List Str), X.mg x = some (.ref f) ∧ FnG X.prog X.w X.K X.mg X.base k f fd ps (spOf X.K X.mg fs) ∧ PySem.W.keepIn X.K (.ref f) = true ∧ Binds X.K fd ps []
theorem se_callX {q0 q : Bool} {k : Nat} {tab : Str → Option FSpec} {fe e : Expr} {es : List Expr} {pos : Pos} {t : DE} {u : DAk} (hT : TabK X k tab) (hf : SB X g q0 fe t) (hr : Room k X.A) (hgd : X.A.guards = some [])
    (hx : Passes (L2N.CX X.prog X.w) X g.E) (ha : SK X g q (e :: es) u) (he : starEach (e :: es) X.env = (false, eval e X.env) :: starEach es X.env := by rfl) (hpl : (backTo pos (starEach es X.env)).any (·.1) = false := by rfl)
    (hev : eval (.Call fe (e :: es) [] pos) X.env = (do callWith pos (← eval fe X.env) [] (backTo pos (starEach (e :: es) X.env)) (backToKw pos (keywordEach [] X.env))) := by rfl) :
    SE X g false (.Call fe (e :: es) [] pos) (dCallX tab t u) := by
  obtain ⟨tf, pf, kf⟩ := hf.run
  obtain ⟨ta, pa, ka⟩ := ha.run
  refine ⟨_, pe_callGX pf hr hgd hx pa he hpl hev, fun fx st r ts B H col Qd Xd Q ok s ht hQ => ?_⟩
  refine kf fx st r ts B H col _ Xd _ ok s ht fun vf d0 r0 B0 H0 c0 h0 sB0 sH0 s0 w0 => ?_
  obtain ⟨x, ex, h0⟩ := got_cases h0
  have h0 : got (tab x) fun fs => dCall fs u r0 Qd Xd := h0
  obtain ⟨fs, efs, h0⟩ := got_cases h0
  obtain ⟨f, fd, ps, hm, F, hk, hb⟩ := hT x fs efs
  have ev : vf = .ref f := by
    unfold nmOf at ex
    split at ex
    · cases ex
      obtain ⟨_, w0⟩ := w0
      cases w0 with | cls hm2 => rw [hm] at hm2; cases hm2; rfl
    · cases ex
  subst ev
  refine ⟨f, fd, ps, _, rfl, F, hk, hb, ?_⟩
  refine ka fx st r0 ts B0 H0 c0 _ Xd _ ok s0 h0 fun vs as r1 B1 H1 c1 h1 sB sH s1 ao => ?_
  obtain ⟨ds, hd, hok, wp⟩ := got_cases h1
  unfold callOk at hok
  simp only [Bool.and_eq_true, decide_eq_true_eq, List.all_eq_true] at hok
  obtain ⟨hn, hio, nd, hbm⟩ := hok
  have hms : ∀ i ∈ msOf as, i < r1.length := fun i hi => by
    obtain ⟨k, hk⟩ := List.getElem?_of_mem hi
    have hkm : k < (mpOf 0 as).length := by rw [mp_len]; exact (List.getElem?_eq_some_iff.mp hk).1
    obtain ⟨_, i', ha, hk'⟩ := mp_ms (List.getElem?_eq_getElem hkm)
    rw [hk] at hk'; cases hk'
    obtain ⟨d, _, e2⟩ := (argDs_get hd).2 _ _ ha
    exact (List.getElem?_eq_some_iff.mp (slotAt_get (show slotAt r1 i = some d from e2))).1
  refine ⟨ao.len.trans hn, ⟨H1, cB c1 ts.length (buOf r1 as) B1 H1, cO c1 as, ioOf 0 vs as⟩, ds, _, cC c1 as, _, Xd, rfl, rfl, by rw [ioOf_fst ao, hio], (argDs_get hd).1.trans hn, call_in s1 ao hd nd hbm, fun a p z => by show (cO c1 as a).map Own.s = some (.s p); rw [show cO c1 as a = some p from z]; rfl, wp, fun v d outs st' r' B' H' col' ho hq c => ?_, fun x c d H' hx er hf hs => ?_⟩
  · rw [← hio] at ho
    obtain ⟨s2, sb2, hh⟩ := call_out s1 ao nd hbm c ho hq.1 hms
    exact hQ v d _ _ H' _ hq.2 (sB0.trans (sB.trans sb2)) (fun hqq => by cases hqq) s2
  · refine ok.link x c d H' hx er (fun a o e n => ?_) (fun a o e => ?_)
    · have q := s1.frame a o e n
      refine hf a o q ?_
      show cO c1 as a = none
      cases h : cO c1 as a with
      | none => rfl
      | some p =>
        obtain ⟨i, c1', _, _⟩ := cO_some h
        rcases s1.new a _ c1' with z | ⟨p, _, z, _⟩
        · rw [e] at z; cases z
        · rw [n] at z; cases z
    · obtain ⟨o', q⟩ := s1.stay a o e
      exact hs a o' q
end
end FM

set_option Elab.async false
set_option linter.all false
set_option maxRecDepth 100000
/-! one walk for all, one tuple() for all -/
namespace FM
open PySem PySem.Spec PyProof.Rows L2
def iAny (K : PySem.W.Frag) (tl : TE) : TI := fun σ H R => tl σ H fun x H1 =>
  (∃ a, x = .ref a ∧ (∃ xs, SqT K H1 a xs) ∧ R (Itt K a) H1) ∨ (∃ a, x = .ref a ∧ (∃ xs, SqL K H1 a xs) ∧ R (Itl K a) H1) ∨ (∃ z, x = .str z ∧ R (Its z) H1) ∨
  (∃ a i j, x = .ref a ∧ H1 a = some (.rng i j) ∧ (-(2 ^ 62) ≤ i ∧ i < 2 ^ 62 ∧ -(2 ^ 62) ≤ j ∧ j < 2 ^ 62) ∧ R (Itr i (j - i).toNat) H1)
theorem pi_any {X : Cx} {tg l : Expr} {tl : TE} (hl : PE X l tl) : PI X tg l (iAny X.K tl) := by
  refine ⟨fun pins s σ H R I h => thn (hl.run pins s σ H _ I h) fun v s1 ⟨x, H1, I1, r1, q1⟩ => ?_⟩
  rcases q1 with ⟨a, e, ⟨xs, hq⟩, q⟩ | ⟨a, e, ⟨xs, hq⟩, q⟩ | ⟨x, ex, q⟩ | ⟨a, lo, hi, e, hr, ⟨q1, q2, q3, q4⟩, q⟩
  · subst e
    cases r1
    obtain ⟨its, rv, p, hz⟩ := I1.tuple hq
    refine wpAny_pyIter_tuple (show s1.heap.IsTuple a its.toArray from p) ?_
    refine ⟨s1.heap.objs.size, [s1.heap.objs.size], _, _, H1, rfl, I1.kept (t' := s1.toks) fun b o e => Heap.get?_push_of_some _ e, turn_tuple a _, ⟨_, Heap.get?_push_size _ rfl, rfl, rfl⟩, fun b hb => ?_, q⟩
    have e : b = s1.heap.objs.size := by simpa using hb
    subst e
    exact I1.fpOk (Nat.le_refl _) (I1.hok.fresh (Nat.le_refl _))
  · subst e
    cases r1
    obtain ⟨its, rv, p, hz⟩ := I1.list hq
    refine wpAny_pyIter_list p.isList ?_
    refine ⟨s1.heap.objs.size, [s1.heap.objs.size], _, _, H1, rfl, I1.kept (t' := s1.toks) fun b o e => Heap.get?_push_of_some _ e, turn_list a _, ⟨_, Heap.get?_push_size _ rfl, rfl, rfl⟩, fun b hb => ?_, q⟩
    have e : b = s1.heap.objs.size := by simpa using hb
    subst e
    exact I1.fpOk (Nat.le_refl _) (I1.hok.fresh (Nat.le_refl _))
  · subst ex
    obtain ⟨t, rfl⟩ := r1
    cases ha : x.cps.all (· < 128)
    · exact wpAny_pyIter_wide ha (pi_one (tk := s1.toks) I1 _ (turn_str _ x t "str_iterator" (.inr rfl)) ⟨_, Heap.get?_push_size _ rfl, rfl, rfl⟩ q)
    · exact wpAny_pyIter_ascii ha (pi_one (tk := s1.toks) I1 _ (turn_str _ x t "str_ascii_iterator" (.inl rfl)) ⟨_, Heap.get?_push_size _ rfl, rfl, rfl⟩ q)
  · subst e
    cases r1
    obtain ⟨t, u, v, hg⟩ := I1.hok a _ hr
    refine wpAny_pyIter_range (show IsRange s1.heap a lo hi 1 t u v from hg) (small_one q1 q2 q3 q4) ?_
    refine ⟨s1.heap.objs.size, [s1.heap.objs.size], _, _, H1, rfl, I1.kept (t' := s1.toks) fun b o e => Heap.get?_push_of_some _ e, turn_range _ lo (hi - lo).toNat, ?_, fun b hb => ?_, q⟩
    · have e1 : lo + ((0 : Nat) : Int) * 1 = lo := by simp
      have e2 : (((hi - lo).toNat : Nat) : Int) - ((0 : Nat) : Int) = Builtin.Range.rangeSize lo hi 1 := by rw [rangeSize_one]; split <;> omega
      show IsRangeIter _ _ (lo + ((0 : Nat) : Int) * 1) ((((hi - lo).toNat : Nat) : Int) - ((0 : Nat) : Int)) 1
      rw [e1, e2]
      exact Heap.get?_push_size _ rfl
    · have e : b = s1.heap.objs.size := by simpa using hb
      subst e
      exact I1.fpOk (Nat.le_refl _) (I1.hok.fresh (Nat.le_refl _))
/-- whatever can be walked -/
def diAny (t : DE) : DA := fun r Q X => t r (fun d r1 => match d with
  | .tup xs => stbL xs = true ∧ Q xs r1
  | .lst _ xs => Q (frzL xs) r1
  | .str z => Q (signsD z) r1
  | .txs ks => Q (ks.map .str) r1
  | .rng i j => R62 i ∧ R62 j ∧ Q (rngD i j) r1
  | _ => False) X
section
variable {X : Cx} {g : Gd}
theorem si_all {q : Bool} {tg e : Expr} {t : DE} (h : SE X g q e t) : SI X g q tg e (diAny t) := by
  obtain ⟨te, pe, k⟩ := h.run
  refine ⟨_, pi_any pe, fun fx st r ts B H col Qd Xd R ok s ht hR => ?_⟩
  refine k fx st r ts B H col _ Xd _ ok s ht fun v d r1 B1 H1 c1 h1 sB sH s1 => ?_
  cases d with
  | tup xs =>
    have rl := s1.relTop (by simp only [stb]; exact h1.1)
    have rl2 := rl
    cases rl2 with
    | tup hq rr => exact .inl ⟨_, rfl, ⟨_, sqT_mono s1.bh hq⟩, hR xs r1 B1 H1 c1 _ h1.2 sB sH s1.drop (walkD_tup rl h1.1)⟩
  | lst o xs =>
    have s2 := s1.freezeTop
    have sBf := s1.sameF (.t ts.length)
    have rl : Rel X.K X.mg (frzB c1 (.t ts.length) B1 H1) H1 v (.lst false (frzL xs)) [] := s2.relTop (by simp only [frz, stb, stbL_frz]; rfl)
    have rl2 := rl
    cases rl2 with
    | fl hq rr => exact .inr (.inl ⟨_, rfl, ⟨_, .inl (.inl (s2.bh _ _ hq))⟩, hR (frzL xs) r1 _ H1 _ _ h1 (sB.trans sBf) sH s2.drop (walkD_lst rl (stbL_frz xs))⟩)
  | str z =>
    have w := s1.viewTop
    have := view_str w; subst this
    exact .inr (.inr (.inl ⟨z, rfl, hR _ r1 B1 H1 c1 _ h1 sB sH s1.drop walkD_str⟩))
  | txs ks =>
    have w : Rel X.K X.mg B1 H1 v (.tup (ks.map .str)) [] := View.stable (d := .tup (ks.map .str)) s1.viewTop.wk (by rw [s_tup]; exact s_map fun _ => rfl)
    have w2 := w
    cases w2 with
    | tup hq rr => exact .inl ⟨_, rfl, ⟨_, sqT_mono s1.bh hq⟩, hR _ r1 B1 H1 c1 _ h1 sB sH s1.drop (walkD_tup w (s_map fun _ => rfl))⟩
  | rng i j =>
    have w := s1.relTop rfl
    cases w with
    | rng hb => exact .inr (.inr (.inr ⟨_, i, j, rfl, s1.bh _ _ hb, ⟨h1.1.1, h1.1.2, h1.2.1.1, h1.2.1.2⟩, hR _ r1 B1 H1 c1 _ h1.2.2 sB sH s1.drop walkD_rng⟩))
  | _ => exact h1.elim
/-! ### tuple(x) -/
theorem call_tuple_any : CallR X (.type "tuple") (fun xs H Q => (∃ p ys, xs = [.ref p] ∧ ((SqL X.K H p ys ∧ ∀ l, H l = none → Q (.ref l) (upd H l (.tup ys))) ∨ (SqT X.K H p ys ∧ Q (.ref p) H))) ∨
    (∃ p ys, xs = [.ref p] ∧ SqL X.K H p ys ∧ ∀ l o, H l = none → o.dict = none → o.cls = .type "tuple" → Q (.ref l) (upd H l (.frz o (.tup ys))))) := by
  intro pins s σ H xs us Q I r h
  rcases h with h | h
  · exact call_tuple_of pins s σ H xs us Q I r h
  · exact call_tuple_ofF pins s σ H xs us Q I r h
def gTupU : List D → Option D
  | [.tup xs] => if stbL xs = true then some (.tup xs) else none
  | [.txs ks] => some (.txs ks)
  | [.lst _ xs] => match strsOf xs with
    | some (k :: ks) => some (.txs (k :: ks))
    | _ => if stbL xs = true then some (.tup xs) else none
  | _ => none
theorem se_callTupU {q : Bool} {e : Expr} {es : List Expr} {u : DA} {x : Str} {p pos : Pos} (hg : Gl X x) (hm : X.mg x = none) (hv : bootBuiltins x = some (.type "tuple")) (ha : SL X g q (e :: es) u)
    (hn : x ≠ "__name__" := by decide) (hdb : (x == ("__debug__" : Str)) = false := by decide) (he : starEach (e :: es) X.env = (false, eval e X.env) :: starEach es X.env := by rfl) (hpl : (backTo pos (starEach es X.env)).any (·.1) = false := by rfl) :
    SE X g q (.Call (.Name x p) (e :: es) [] pos) (dCl gTupU u) := by
  obtain ⟨te, pe, ka⟩ := ha.run
  refine ⟨_, pe_callTy call_tuple_any hg hm hv pe hn hdb he hpl, fun fx st r ts B H col Qd Xd Q ok s ht hQ => ?_⟩
  refine ka fx st r ts B H col _ Xd _ ok s ht fun vs ds r1 B1 H1 c1 h1 sB sH s1 w1 => ?_
  obtain ⟨z, ez, hz⟩ := got_cases h1
  have A := s1.ans (z := z) sB sH fun v B' H' c' a b s' => hQ v z r1 B' H' c' hz a b s'
  unfold gTupU at ez
  split at ez
  · split at ez
    · rename_i hh
      cases ez
      obtain ⟨v, ev, w⟩ := vws1 w1; subst ev
      obtain ⟨a, vs, F, rfl, h, rr⟩ := w.tup s1.bh
      exact .inl ⟨a, vs, rfl, .inr ⟨h, A.old _ (w.stable (by simp only [stb]; exact hh))⟩⟩
    · cases ez
  · cases ez
    rename_i ks
    obtain ⟨v, ev, w⟩ := vws1 w1; subst ev
    have w2 := w.stable rfl
    cases w2 with
    | @txs a o _ hb hd hc => exact .inl ⟨a, _, rfl, .inr ⟨.inl (.inr ⟨o, s1.bh _ _ hb⟩), A.old _ (.txs hb hd hc)⟩⟩
  · split at ez
    · rename_i xs k ks e1
      cases ez
      obtain ⟨v, ev, w⟩ := vws1 w1; subst ev
      obtain ⟨a, vs, F, rfl, h, rr⟩ := w.lst s1.bh
      obtain ⟨e2, _⟩ := rels_strsOf rr e1
      subst e2
      refine .inr ⟨a, _, rfl, .inl (.inl h), fun l o hl hd hc => ?_⟩
      have sL := s1.laidB hl (.frz o (.tup ((k :: ks).map V.str)))
      exact hQ (.ref l) _ r1 _ _ _ hz (sB.trans (same_new (by have := s1.fresh hl; exact this.1))) (fun q => (sH q).trans (same_new hl)) (sL.push (.txs upd_same hd hc))
    · split at ez
      · rename_i hh
        cases ez
        obtain ⟨v, ev, w⟩ := vws1 w1; subst ev
        obtain ⟨a, vs, F, rfl, h, r⟩ := w.lst s1.bh
        exact .inl ⟨a, vs, rfl, .inl ⟨.inl (.inl h), fun p hp => A.tup _ _ p rfl (r.stable hh) hp⟩⟩
      · cases ez
  · cases ez
end
/-! ### for simp -/
theorem e_wk {t : DE} {r : DEnv} {Q : D → DEnv → Prop} {X : XP} : dWk t r Q X = t r (fun d r1 => apT (wk d) (fun d2 => Q d2 r1) .mk) X := nr rfl
theorem e_dfrz {t : DE} {r : DEnv} {Q : D → DEnv → Prop} {X : XP} : dFrz t r Q X = t r (fun d r1 => apT (frz d) (fun d2 => Q d2 r1) .mk) X := nr rfl
theorem wk_int {i : Int} : wk (.int i) = .int i := nr rfl
theorem wk_str {i : Str} : wk (.str i) = .str i := nr rfl
theorem wk_bl {i : Bool} : wk (.bl i) = .bl i := nr rfl
theorem wk_non : wk .non = .non := nr rfl
theorem wk_tup {i : List D} : wk (.tup i) = .tup i := nr rfl
theorem wk_lst {o : Bool} {i : List D} : wk (.lst o i) = .lst o i := nr rfl
theorem wk_txs {i : List Str} : wk (.txs i) = .tup (i.map .str) := nr rfl
theorem wk_rng {i j : Int} : wk (.rng i j) = .rng i j := nr rfl
theorem wk_cls {x : Str} : wk (.cls x) = .cls x := nr rfl
theorem wk_scr {x : List Int} : wk (.scr x) = .scr x := nr rfl
theorem wk_ts {T : List Str} : wk (tsD T) = .tup (T.map .str) := nr (by cases T <;> rfl)
theorem s_txs {T : List Str} : stb (.txs T) = true := nr rfl
theorem s_rng {i j : Int} : stb (.rng i j) = true := nr rfl
theorem s_ts {T : List Str} : stb (tsD T) = true := nr (by cases T <;> rfl)
theorem fz_txs {T : List Str} : frz (.txs T) = .txs T := nr rfl
theorem fz_rng {i j : Int} : frz (.rng i j) = .rng i j := nr rfl
theorem fz_ts {T : List Str} : frz (tsD T) = tsD T := nr (by cases T <;> rfl)
theorem it_any {t : DE} {r : DEnv} {Q : List D → DEnv → Prop} {X : XP} : diAny t r Q X = t r (fun d r1 => match d with
  | .tup xs => stbL xs = true ∧ Q xs r1
  | .lst _ xs => Q (frzL xs) r1
  | .str z => Q (signsD z) r1
  | .txs ks => Q (ks.map .str) r1
  | .rng i j => R62 i ∧ R62 j ∧ Q (rngD i j) r1
  | _ => False) X := nr rfl
theorem it_ts {T : List Str} {P : List D → Prop} : (match tsD T with
  | .tup xs => stbL xs = true ∧ P xs
  | .lst _ xs => P (frzL xs)
  | .str z => P (signsD z)
  | .txs ks => P (ks.map .str)
  | .rng i j => R62 i ∧ R62 j ∧ P (rngD i j)
  | _ => False) = P (T.map .str) := by
  cases T with
  | nil => exact propext ⟨fun h => h.2, fun h => ⟨rfl, h⟩⟩
  | cons => rfl
theorem it_enum {t : DE} {r : DEnv} {Q : List D → DEnv → Prop} {X : XP} : diEnum t r Q X = t r (fun d r1 => got (seqK d) fun p => stbL p.2 = true ∧ Q (enumD p.2) r1) X := nr rfl
theorem it_zip {u : DA} {r : DEnv} {Q : List D → DEnv → Prop} {X : XP} : diZip u r Q X = u r (fun ds r1 => match ds with
  | [d, e] => got (seqK d) fun p => got (seqK e) fun p2 => stbL p.2 = true ∧ stbL p2.2 = true ∧ Q (zipD p.2 p2.2) r1
  | _ => False) X := nr rfl
theorem sk_tup {xs : List D} : seqK (.tup xs) = some (true, xs) := nr rfl
theorem sk_lst {xs : List D} : seqK (.lst false xs) = some (false, xs) := nr rfl
theorem e_mt {p : D → Bool} {gg : D → List D → Option D} {t : DE} {u : DA} {r : DEnv} {Q : D → DEnv → Prop} {X : XP} : dMt p gg t u r Q X = t r (fun d r1 => p d = true ∧ u r1 (fun ds r2 => got (gg d ds) fun z => Q z r2) X) X := nr rfl
theorem p_tx1 {T : List Str} : isTx (.txs T) = true := nr rfl
theorem p_tx2 {o : Bool} {T : List D} : isTx (.lst o T) = false := nr rfl
theorem p_tx3 {T : List D} : isTx (.tup T) = false := nr rfl
theorem p_ls1 {T : List Str} : isLs (.txs T) = false := nr rfl
theorem p_ls2 {o : Bool} {T : List D} : isLs (.lst o T) = true := nr rfl
theorem p_ls3 {T : List D} : isLs (.tup T) = false := nr rfl
theorem e_ext {i : Nat} {t : DE} {r : DEnv} {Q : D → DEnv → Prop} {X : XP} : dExt i t r Q X = got (slotAt r i) fun c => got (ownL c) fun _ => t r (fun d r1 => got (slotAt r1 i) fun c => got (ownL c) fun xs => got (lstO d) fun ys => Small (xs.length + ys.length) ∧ apT (r1.set i (some (.lst true (xs ++ ys)))) (Q .non) .mk) X := nr rfl
theorem o_lstO {o : Bool} {xs : List D} : lstO (.lst o xs) = some xs := nr rfl
theorem e_appIx {i : Nat} {tk t : DE} {r : DEnv} {Q : D → DEnv → Prop} {X : XP} : dAppIx i tk t r Q X = got (slotAt r i) fun c0 => got (ownL c0) fun _ => tk r (fun kd r1 => got (slotAt r1 i) fun c => got (ownL c) fun xs => got (asI kd) fun n => got (ixN xs.length n) fun k => got xs[k]? fun c2 => got (ownL c2) fun _ =>
  t r1 (fun d r2 => stb d = true ∧ got (slotAt r2 i) fun c => got (ownL c) fun xs => got xs[k]? fun c2 => got (ownL c2) fun ys => Small (ys.length + 1) ∧ apT (r2.set i (some (.lst true (xs.set k (.lst true (ys ++ [d])))))) (Q .non) .mk) X) X := nr rfl
theorem o_minD {o : Bool} {ns : List Int} {c : Int} : gMinD (.lst o (ns.map .int)) (.int c) = some (.int ((minO ns).getD c)) := by
  have e : ∀ ns : List Int, intsOf (ns.map D.int) = some ns := fun ns => by
    induction ns with
    | nil => rfl
    | cons n ns ih => rw [List.map_cons]; simp only [intsOf, ih, Option.map_some]
  unfold gMinD
  simp only [e, Option.map_some]
theorem e_callX {tab : Str → Option FSpec} {t : DE} {w : DAk} {r : DEnv} {Q : D → DEnv → Prop} {X : XP} : dCallX tab t w r Q X = t r (fun d r1 => got (nmOf d) fun x => got (tab x) fun fs => dCall fs w r1 Q X) X := nr rfl
theorem o_nm {x : Str} : nmOf (.cls x) = some x := nr rfl
theorem o_rg1 {j : Int} : gRng1 [.int j] = some (.rng 0 j) := nr rfl
end FM

set_option Elab.async false
set_option linter.all false
set_option maxRecDepth 100000
/-! fares as lists of numbers: the least of sums, a letter's step -/
namespace FM
open PySem PySem.Spec PyProof.Rows L2
theorem minO_none {xs : List Int} (h : minO xs = none) : xs = [] := by
  cases xs with
  | nil => rfl
  | cons x xs => cases h
theorem minO_some {xs : List Int} {m : Int} (h : minO xs = some m) : m ∈ xs ∧ ∀ y ∈ xs, m ≤ y := by
  cases xs with
  | nil => cases h
  | cons x xs =>
    cases h
    exact minL_spec xs x
theorem minO_is {xs : List Int} {m : Int} (h1 : m ∈ xs) (h2 : ∀ y ∈ xs, m ≤ y) : minO xs = some m := by
  cases e : minO xs with
  | none => rw [minO_none e] at h1; cases h1
  | some k =>
    obtain ⟨a, b⟩ := minO_some e
    rw [Int.le_antisymm (b m h1) (h2 k a)]
/-- the least, or -1 -/
def low (xs : List Int) : Int := (minO xs).getD (-1)
theorem low_nil : low [] = -1 := rfl
theorem low_is {xs : List Int} {m : Int} (h1 : m ∈ xs) (h2 : ∀ y ∈ xs, m ≤ y) : low xs = m := by unfold low; rw [minO_is h1 h2]; rfl
theorem low_cases (xs : List Int) : (xs = [] ∧ low xs = -1) ∨ (low xs ∈ xs ∧ ∀ y ∈ xs, low xs ≤ y) := by
  cases e : minO xs with
  | none => exact .inl ⟨minO_none e, by unfold low; rw [e]; rfl⟩
  | some k =>
    have : low xs = k := by unfold low; rw [e]; rfl
    rw [this]
    exact .inr (minO_some e)
theorem min_big {xs : List Int} {b : Int} (h : ∀ y ∈ xs, y < b) : minO (xs ++ [b]) = some ((minO xs).getD b) := by
  cases e : minO xs with
  | none => rw [minO_none e]; rfl
  | some k =>
    obtain ⟨h1, h2⟩ := minO_some e
    refine minO_is (List.mem_append_left _ h1) fun y hy => ?_
    rcases List.mem_append.mp hy with q | q
    · exact h2 y q
    · rw [List.mem_singleton.mp q]
      exact Int.le_of_lt (h k h1)
def rowAt (S : List (List (List (Int × Int)))) (s l : Nat) : List (Int × Int) := (((S[s]?).getD [])[l]?).getD []
/-- the moves of a row to a state, from a fare on -/
def toSt (v : Int) (R : List (Int × Int)) (a : Nat) : List Int := (R.filter fun p => decide (p.1 = (a : Int))).map fun p => v + p.2
/-- what it costs to come to a by a letter, from the first states -/
def sumsTo (S : List (List (List (Int × Int)))) (f : List Int) (l a : Nat) : Nat → List Int
  | 0 => []
  | s + 1 => sumsTo S f l a s ++ (if (f[s]?).getD (-1) = -1 then [] else toSt ((f[s]?).getD (-1)) (rowAt S s l) a)
def stepV (S : List (List (List (Int × Int)))) (l : Nat) (f : List Int) : List Int := (List.range f.length).map fun a => low (sumsTo S f l a f.length)
def IsV (n : Nat) (b : Int) (f : List Int) : Prop := f.length = n ∧ ∀ x ∈ f, -1 ≤ x ∧ x ≤ b
theorem IsV.at {n : Nat} {b : Int} {f : List Int} (h : IsV n b f) {s : Nat} (hs : s < n) : ∃ v, f[s]? = some v ∧ -1 ≤ v ∧ v ≤ b := by
  have hl : s < f.length := by rw [h.1]; exact hs
  exact ⟨f[s], List.getElem?_eq_getElem hl, h.2 _ (List.getElem_mem hl)⟩
/-- what the rows of moves keep -/
def RowsB (n : Nat) (S : List (List (List (Int × Int)))) : Prop := ∀ r ∈ S, ∀ R ∈ r, ∀ p ∈ R, 0 ≤ p.1 ∧ p.1 < (n : Int) ∧ 0 ≤ p.2 ∧ p.2 ≤ 99
theorem rowAt_mem {n : Nat} {S : List (List (List (Int × Int)))} (h : RowsB n S) {s l : Nat} : ∀ p ∈ rowAt S s l, 0 ≤ p.1 ∧ p.1 < (n : Int) ∧ 0 ≤ p.2 ∧ p.2 ≤ 99 := by
  unfold rowAt
  intro p hp
  cases e : S[s]? with
  | none => rw [e] at hp; simp at hp
  | some r =>
    rw [e] at hp
    cases e2 : r[l]? with
    | none => rw [Option.getD_some, e2] at hp; simp at hp
    | some R =>
      rw [Option.getD_some, e2, Option.getD_some] at hp
      exact h r (List.mem_of_getElem? e) R (List.mem_of_getElem? e2) p hp
theorem toSt_mem {n : Nat} {v b : Int} {R : List (Int × Int)} {a : Nat} (hR : ∀ p ∈ R, 0 ≤ p.1 ∧ p.1 < (n : Int) ∧ 0 ≤ p.2 ∧ p.2 ≤ 99) (h0 : 0 ≤ v) (hb : v ≤ b) : ∀ y ∈ toSt v R a, 0 ≤ y ∧ y ≤ b + 99 := by
  intro y hy
  obtain ⟨p, hp, rfl⟩ := List.mem_map.mp hy
  obtain ⟨_, _, h1, h2⟩ := hR p (List.mem_filter.mp hp).1
  exact ⟨by omega, by omega⟩
theorem sumsTo_mem {n : Nat} {b : Int} {S : List (List (List (Int × Int)))} {f : List Int} (hS : RowsB n S) (hf : IsV n b f) {l a : Nat} : ∀ {s : Nat}, s ≤ n → ∀ y ∈ sumsTo S f l a s, 0 ≤ y ∧ y ≤ b + 99
  | 0, _, y, h => nomatch h
  | s + 1, hs, y, h => by
    rcases List.mem_append.mp h with q | q
    · exact sumsTo_mem hS hf (by omega) y q
    · obtain ⟨v, e, h1, h2⟩ := hf.at (s := s) (by omega)
      rw [e] at q
      simp only [Option.getD_some] at q
      split at q
      · cases q
      · exact toSt_mem (rowAt_mem hS) (by omega) h2 y q
theorem stepV_len {S : List (List (List (Int × Int)))} {l : Nat} {f : List Int} : (stepV S l f).length = f.length := by unfold stepV; rw [List.length_map, List.length_range]
theorem stepV_is {n : Nat} {b : Int} {S : List (List (List (Int × Int)))} {f : List Int} {l : Nat} (hS : RowsB n S) (hf : IsV n b f) (hb : -1 ≤ b) : IsV n (b + 99) (stepV S l f) := by
  refine ⟨stepV_len.trans hf.1, fun x hx => ?_⟩
  obtain ⟨a, _, rfl⟩ := List.mem_map.mp hx
  rcases low_cases (sumsTo S f l a f.length) with ⟨_, e⟩ | ⟨e, _⟩
  · rw [e]; omega
  · have := sumsTo_mem hS hf (by rw [hf.1]; exact Nat.le_refl _) _ e
    omega
/-- the fares behind letters -/
def runV (S : List (List (List (Int × Int)))) (ls : List Nat) (f : List Int) : List Int := ls.foldl (fun f l => stepV S l f) f
theorem runV_nil {S : List (List (List (Int × Int)))} {f : List Int} : runV S [] f = f := rfl
theorem runV_cons {S : List (List (List (Int × Int)))} {f : List Int} {l : Nat} {ls : List Nat} : runV S (l :: ls) f = runV S ls (stepV S l f) := rfl
theorem runV_app {S : List (List (List (Int × Int)))} {f : List Int} {ls ms : List Nat} : runV S (ls ++ ms) f = runV S ms (runV S ls f) := by unfold runV; rw [List.foldl_append]
theorem runV_is {n : Nat} {S : List (List (List (Int × Int)))} (hS : RowsB n S) : ∀ {ls : List Nat} {b : Int} {f : List Int}, IsV n b f → -1 ≤ b → IsV n (b + 99 * ls.length) (runV S ls f)
  | [], b, f, h, hb => by
    refine ⟨h.1, fun x hx => ?_⟩
    have := h.2 x hx
    simp only [List.length_nil]; omega
  | l :: ls, b, f, h, hb => by
    have := runV_is hS (ls := ls) (stepV_is (l := l) hS h hb) (by omega)
    rw [runV_cons]
    refine ⟨this.1, fun x hx => ?_⟩
    have := this.2 x hx
    simp only [List.length_cons]; omega
/-- two rows of fares, place by place -/
def sums2 : List Int → List Int → List Int
  | x :: xs, y :: ys => (if x = -1 ∨ y = -1 then [] else [x + y]) ++ sums2 xs ys
  | _, _ => []
theorem sums2_mem : ∀ {xs ys : List Int} {c : Int}, c ∈ sums2 xs ys ↔ ∃ (k : Nat) (x y : Int), xs[k]? = some x ∧ ys[k]? = some y ∧ x ≠ -1 ∧ y ≠ -1 ∧ c = x + y
  | [], ys, c => ⟨fun h => (nomatch h), fun ⟨k, x, y, e, _⟩ => by simp at e⟩
  | x :: xs, [], c => ⟨fun h => (nomatch h), fun ⟨k, x, y, _, e, _⟩ => by simp at e⟩
  | x :: xs, y :: ys, c => by
    constructor
    · intro h
      rcases List.mem_append.mp h with q | q
      · split at q
        · cases q
        · rename_i hn
          rw [List.mem_singleton.mp q]
          exact ⟨0, x, y, rfl, rfl, fun z => hn (.inl z), fun z => hn (.inr z), rfl⟩
      · obtain ⟨k, a, b, h1, h2, h3⟩ := sums2_mem.mp q
        exact ⟨k + 1, a, b, h1, h2, h3⟩
    · rintro ⟨k, a, b, h1, h2, h3, h4, rfl⟩
      cases k with
      | zero =>
        cases h1; cases h2
        refine List.mem_append_left _ ?_
        rw [if_neg (fun z => z.elim h3 h4)]
        exact List.mem_singleton.mpr rfl
      | succ k => exact List.mem_append_right _ (sums2_mem.mpr ⟨k, a, b, h1, h2, h3, h4, rfl⟩)
def endV (f z : List Int) : Int := low (sums2 f z)
/-! ### for simp -/
theorem intsOf_ints : ∀ ns : List Int, intsOf (ns.map D.int) = some ns
  | [] => rfl
  | n :: ns => by rw [List.map_cons]; simp only [intsOf, intsOf_ints ns, Option.map_some]
theorem o_minL {o : Bool} {ns : List Int} : orC gMinL gMin2 [.lst o (ns.map .int)] = (minO ns).map D.int := by
  unfold orC gMinL
  simp only [intsOf_ints, Option.bind_some]
  cases minO ns <;> rfl
theorem findStr {T : List Str} {z : Str} {l : Nat} (h : T[l]? = some z) (hn : ∀ m, m < l → T[m]? ≠ some z) : T.findIdx? (fun k => k == z) = some l := by
  rw [List.findIdx?_eq_some_iff_getElem]
  obtain ⟨hl, e⟩ := List.getElem?_eq_some_iff.mp h
  refine ⟨hl, by rw [e]; exact beq_self_eq_true z, fun m hm => ?_⟩
  have h2 := hn m hm
  have hl2 : m < T.length := by omega
  rw [List.getElem?_eq_getElem hl2] at h2
  intro q
  exact h2 (by rw [eq_of_beq q])
/-- the place of a letter -/
def ixS (T : List Str) (z : Str) : Nat := (T.findIdx? fun k => k == z).getD 0
theorem ixS_at {T : List Str} {z : Str} (h : z ∈ T) : T.findIdx? (fun k => k == z) = some (ixS T z) ∧ ixS T z < T.length ∧ T[ixS T z]? = some z := by
  unfold ixS
  cases e : T.findIdx? (fun k => k == z) with
  | none =>
    rw [List.findIdx?_eq_none_iff] at e
    have := e z h
    simp at this
  | some j =>
    obtain ⟨⟨x, h1, h2⟩, _⟩ := findIdx_spec e
    have := eq_of_beq h2; subst this
    exact ⟨rfl, (List.getElem?_eq_some_iff.mp h1).1, h1⟩
theorem o_idxT {T : List Str} {z : Str} (h : z ∈ T) : gIdxT (.txs T) [.str z] = some (.int (ixS T z : Nat)) := by
  show (T.findIdx? fun k => k == z).map (fun j => D.int (j : Nat)) = _
  rw [(ixS_at h).1]; rfl
theorem ts_ne {T : List Str} {z : Str} (h : z ∈ T) : tsD T = .txs T := by
  cases T with
  | nil => cases h
  | cons => rfl
theorem enum_at {xs : List D} {j : Nat} {d : D} (h : (enumD xs)[j]? = some d) : ∃ x, xs[j]? = some x ∧ d = .tup [.int (j : Nat), x] := by
  unfold enumD at h
  rw [List.getElem?_mapIdx] at h
  obtain ⟨x, h1, h2⟩ := Option.map_eq_some_iff.mp h
  exact ⟨x, h1, h2.symm⟩
theorem enum_len {xs : List D} : (enumD xs).length = xs.length := by unfold enumD; rw [List.length_mapIdx]
theorem zip_at {xs ys : List D} {j : Nat} {d : D} (h : (zipD xs ys)[j]? = some d) : ∃ x y, xs[j]? = some x ∧ ys[j]? = some y ∧ d = .tup [x, y] := by
  unfold zipD at h
  rw [List.getElem?_zipWith] at h
  cases e1 : xs[j]? with
  | none => rw [e1] at h; cases h
  | some x =>
    cases e2 : ys[j]? with
    | none => rw [e1, e2] at h; cases h
    | some y => rw [e1, e2] at h; cases h; exact ⟨x, y, rfl, rfl, rfl⟩
theorem zip_len {xs ys : List D} : (zipD xs ys).length = min xs.length ys.length := by unfold zipD; rw [List.length_zipWith]
theorem map_at {α : Type} {f : α → D} {xs : List α} {j : Nat} {d : D} (h : (xs.map f)[j]? = some d) : ∃ x, xs[j]? = some x ∧ d = f x := by
  rw [List.getElem?_map] at h
  obtain ⟨x, h1, h2⟩ := Option.map_eq_some_iff.mp h
  exact ⟨x, h1, h2.symm⟩
/-- a list of lists, one of which gets an item -/
theorem set_range {α : Type} {n k : Nat} (g : Nat → α) (x : α) (hk : k < n) : ((List.range n).map g).set k x = (List.range n).map fun a => if a = k then x else g a := by
  apply List.ext_getElem?
  intro i
  by_cases hi : i < n
  · by_cases e : i = k
    · subst e
      rw [List.getElem?_set_self (by rw [List.length_map, List.length_range]; exact hi), List.getElem?_map, List.getElem?_range hi, Option.map_some, if_pos rfl]
    · rw [List.getElem?_set_ne (Ne.symm e), List.getElem?_map, List.getElem?_map, List.getElem?_range hi, Option.map_some, Option.map_some, if_neg e]
  · rw [List.getElem?_eq_none (by rw [List.length_set, List.length_map, List.length_range]; omega), List.getElem?_eq_none (by rw [List.length_map, List.length_range]; omega)]
theorem toSt_snoc {v : Int} {R : List (Int × Int)} {p : Int × Int} {a : Nat} : toSt v (R ++ [p]) a = if p.1 = (a : Int) then toSt v R a ++ [v + p.2] else toSt v R a := by
  unfold toSt
  rw [List.filter_append, List.map_append, List.filter_cons]
  split
  · rename_i h
    rw [if_pos (by simpa using h)]; rfl
  · rename_i h
    rw [if_neg (by simpa using h)]; simp
theorem o_pow9 : gPow (.int 10) (.int 9) = some (.int 1000000000) := nr (by rfl)
theorem o_niI {c x y : Int} : uNi (.int c) (.tup [.int x, .int y]) = some (.bl (decide (x ≠ c ∧ y ≠ c))) := nr (by
  have e : gIn not (.int c) (.tup [.int x, .int y]) = some (.bl (not (([.int x, .int y] : List FM.D).any fun y => eqFl y (.int c)))) := by rfl
  unfold uNi orG
  rw [e]
  simp only [eqFl, List.any_cons, List.any_nil, Bool.or_false, Option.some.injEq, D.bl.injEq]
  by_cases h1 : x = c <;> by_cases h2 : y = c <;> simp [h1, h2])
theorem sums2_snoc : ∀ {xs ys : List Int} {j : Nat} {x y : Int}, xs[j]? = some x → ys[j]? = some y → sums2 (xs.take (j + 1)) (ys.take (j + 1)) = sums2 (xs.take j) (ys.take j) ++ (if x = -1 ∨ y = -1 then [] else [x + y])
  | [], _, j, x, y, h, _ => by simp at h
  | _ :: _, [], j, x, y, _, h => by simp at h
  | a :: xs, b :: ys, 0, x, y, h, h2 => by
    cases h; cases h2
    rw [List.take_zero, List.take_zero, List.take_succ_cons, List.take_succ_cons, List.take_zero, List.take_zero]
    simp only [sums2, List.append_nil, List.nil_append]
  | a :: xs, b :: ys, j + 1, x, y, h, h2 => by
    rw [List.take_succ_cons, List.take_succ_cons, List.take_succ_cons, List.take_succ_cons]
    simp only [sums2]
    rw [sums2_snoc (xs := xs) (ys := ys) (j := j) h h2, List.append_assoc]
theorem sums2_take : ∀ {xs ys : List Int}, sums2 (xs.take (min xs.length ys.length)) (ys.take (min xs.length ys.length)) = sums2 xs ys
  | [], _ => rfl
  | _ :: _, [] => rfl
  | a :: xs, b :: ys => by
    rw [List.length_cons, List.length_cons, Nat.add_min_add_right, List.take_succ_cons, List.take_succ_cons]
    simp only [sums2]
    rw [sums2_take]
end FM

set_option Elab.async false
set_option linter.all false
set_option maxRecDepth 100000
/-! while an error is handled: walks of lists -/
namespace FM
open PySem PySem.Spec PyProof.Rows L2
theorem pyNext_list_end_hot {prog : Program} {w : World} {A : Around} {E : Value → Shared → Prop} {s : Shared} {it l x1 : Addr} {i : Nat} {items : Array Value} {Q : Option Value → Shared → Prop}
    (hot : HotX.HotAt A x1 s.heap) (hit : s.heap.IsListIter it l i) (hl : s.heap.IsList l items) (hx : items[i]? = none)
    (hQ : ∀ h' : Heap, (∀ b o, b ≠ it → s.heap.get? b = some o → h'.get? b = some o) → Q none { s with heap := h' }) : wpAny (model prog w) A (pyNext (.ref it)) Q E s := by
  obtain ⟨o, ho, hc, hd⟩ := id hit
  obtain ⟨ol, hol, _, nl, hdl⟩ := hl
  obtain ⟨hh, o1, vs1, h1, d1, c1⟩ := hot
  have hne : x1 ≠ it := fun e => by
    subst e
    rw [ho] at h1; cases h1
    rw [hd] at d1; cases d1
    cases c1
  refine wpAny_bind (wpAny_attempt (wpAny_callSpecial?_slot hit.typeIs slot_listiter_next (wpAny_call_entry slot_listiter_next hit.typeIs entry_listiter_next ?_ (args_listiter_next (.ref it)))))
  show wpAny _ _ (field (.ref it) 0 >>= _) _ _ s
  refine wpAny_bind (wpAny_field ho hd rfl ?_)
  show wpAny _ _ (if (Value.ref l == Value.none) = true then _ else _) _ _ s
  rw [if_neg (by exact Bool.false_ne_true)]
  show wpAny _ _ (field (.ref it) 1 >>= _) _ _ s
  refine wpAny_bind (wpAny_field ho hd rfl ?_)
  show wpAny _ _ (seqItems? (.ref l) >>= _) _ _ s
  refine wpAny_bind (wpAny_seqItems hol hdl ?_)
  show wpAny _ _ (match items[i]? with
    | some x => _
    | none => _) _ _ s
  rw [hx]
  refine wpAny_bind (wpAny_rule (wpAny_bind (wpAny_setField ho hd (by simp) ?_)))
  have h1' : (s.heap.update it (Obj.mapFields fun x => x.setIfInBounds 0 Value.none)).get? x1 = some o1 := by rw [Heap.get?_update_other _ _ (Ne.symm hne)]; exact h1
  have up : ∀ b o, b ≠ it → s.heap.get? b = some o → (s.heap.update it (Obj.mapFields fun x => x.setIfInBounds 0 Value.none)).get? b = some o := fun b o hb e => by rw [Heap.get?_update_other _ _ (Ne.symm hb)]; exact e
  generalize s.heap.update it (Obj.mapFields fun x => x.setIfInBounds 0 Value.none) = hh1 at h1' up
  show wpAny _ _ (newExc (.type "StopIteration") [] >>= fun e => raiseNew e) _ _ _
  refine wpAny_bind ?_
  show wpAny _ _ (newTuple [] >>= _) _ _ _
  refine wpAny_bind (wpAny_newObj_type (wpAny_bind (wpAny_of_eq rfl (wpAny_newObj_type ?_ ?_))) ?_)
  · have g1 := Heap.get?_push_of_some { cls := Value.type "tuple", data := Data.seq #[] } h1'
    have g2 := Heap.get?_push_of_some { cls := Value.type "StopIteration", data := Data.fields (#[Value.ref hh1.objs.size, Value.none, Value.none, Value.none, Value.bool false, Value.none] ++ ownMembersOf (Value.type "StopIteration") []) } g1
    refine HotX.raiseNew_hot ⟨hh, o1, vs1, g2, d1, c1⟩ (Nat.ne_of_lt (Heap.lt_size g1)) (Heap.get?_push_size _ rfl) rfl (by rw [Array.size_append]; show 2 < 6 + _; omega) ?_
    refine wpAny_bind (wpAny_isInstance ⟨_, Heap.get?_update_self _ (Heap.get?_push_size _ rfl) rfl, rfl⟩ isSubtype_stop ?_)
    refine wpAny_pure (hQ _ fun b o hb e => ?_)
    have e1 := up b o hb e
    have e2 := Heap.get?_push_of_some { cls := Value.type "tuple", data := Data.seq #[] } e1
    rw [Heap.get?_update_other _ _ (Nat.ne_of_gt (Heap.lt_size e2))]
    exact Heap.get?_push_of_some _ e2
  · exact sizeOk_excFields _ _ _ _ _ _ _ _
  · show _ ≤ sizeLine
    rw [sizeLine_eq]; decide
theorem walks_listH {prog : Program} {w : World} {A : Around} {x1 : Addr} {o1 : Obj} {vs1 : Array Value} (hh : A.handled = some (.ref x1)) (d1 : o1.data = .fields vs1) (c1 : vs1[2]? = some Value.none) (I ax : Addr) (hax : ax ≠ I) (hx1 : x1 ≠ I) (items : Array Value) :
    Walks prog w A I [I, ax, x1] [I] items.size (fun i v => items[i]? = some v) fun i h => h.IsListIter I ax i ∧ h.IsList ax items ∧ h.get? x1 = some o1 := by
  refine ⟨fun b hb => ?_, fun i h h' ⟨⟨o, a1, a2, a3⟩, ⟨ol, b1, b2, b3⟩, g1⟩ k => ?_, fun i s Q E hi ⟨h1, h2, h3⟩ k => ?_, fun s Q E ⟨h1, h2, h3⟩ k => ?_, fun i s Q E ⟨h1, h2, h3⟩ k => ?_⟩
  · rw [List.mem_singleton.mp hb]; exact List.mem_cons_self ..
  · exact ⟨⟨o, k I (by simp) o a1, a2, a3⟩, ⟨ol, k ax (by simp) ol b1, b2, b3⟩, k x1 (by simp) o1 g1⟩
  · refine wpAny_pyNext_list_item h1 h2 (Array.getElem?_eq_getElem hi) fun h' h4 sb => ?_
    refine k _ h' s.toks (Array.getElem?_eq_getElem hi) ⟨h4, ?_, ?_⟩ fun b o hb e => ?_
    · obtain ⟨ol, b1, b2, b3⟩ := h2
      exact ⟨ol, by rw [sb.2 ax hax]; exact b1, b2, b3⟩
    · rw [sb.2 x1 hx1]; exact h3
    · rw [sb.2 b (by simpa using hb)]; exact e
  · refine pyNext_list_end_hot ⟨hh, o1, vs1, h3, d1, c1⟩ h1 h2 (Array.getElem?_eq_none (Nat.le_refl _)) fun h' kp => ?_
    exact k h' s.toks fun b o hb e => kp b o (by simpa using hb) e
  · exact wpAny_pyIter_listiter h1 k
end FM

set_option Elab.async false
set_option linter.all false
set_option maxRecDepth 100000
namespace FM
open PySem PySem.Spec PyProof.Rows L2
theorem preSum_take (ns : List Int) : ∀ j, j ≤ ns.length → preSum (fun i => (ns[i]?).getD 0) j = (ns.take j).sum
  | 0, _ => by rw [List.take_zero]; rfl
  | j + 1, h => by
    have hj : j < ns.length := h
    rw [List.take_add_one, List.getElem?_eq_getElem hj, Option.toList_some, List.sum_append, ← preSum_take ns j (by omega)]
    show preSum _ j + (ns[j]?).getD 0 = _
    rw [List.getElem?_eq_getElem hj]
    simp
theorem intsAre_at : ∀ {its : List Value} {ns : List Int}, IntsAre its ns → ∀ {j : Nat} {v : Value}, its[j]? = some v → ∃ t, v = .int ((ns[j]?).getD 0) t := by
  intro its ns h
  induction h with
  | nil => intro j v e; simp at e
  | cons n t _ ih =>
    intro j v e
    cases j with
    | zero => cases e; exact ⟨t, rfl⟩
    | succ j => exact ih e
theorem sum_rawH {prog : Program} {w : World} {A : Around} {E : Value → Shared → Prop} {s : Shared} {l x1 : Addr} {o1 : Obj} {vs1 : Array Value} {its : List Value} {ns : List Int} {Q : Value → Shared → Prop} (hh : A.handled = some (.ref x1)) (h1 : s.heap.get? x1 = some o1) (d1 : o1.data = .fields vs1) (c1 : vs1[2]? = some Value.none)
    (hl : s.heap.IsList l its.toArray) (hi : IntsAre its ns) (hn : its.length = ns.length) (hQ : ∀ (h' : Heap) (tk : Nat) (t' : Tok), (∀ b o, s.heap.get? b = some o → h'.get? b = some o) → Q (.int ns.sum t') { s with heap := h', toks := tk }) :
    wpAny (model prog w) A (call (.builtin "sum") [.ref l]) Q E s := by
  have hlo := hl
  obtain ⟨ol, b1, b2, b3⟩ := hlo
  have hll := Heap.lt_size b1
  have hlx := Heap.lt_size h1
  refine call_sum_walkG (wpAny_pyIter_list hl ⟨s.heap.objs.size, [s.heap.objs.size, l, x1], [s.heap.objs.size], its.toArray.size, _, _, fun i => (ns[i]?).getD 0, rfl, walks_listH (A := A.in1) hh d1 c1 _ _ (Nat.ne_of_lt hll) (Nat.ne_of_lt hlx) _, ⟨⟨_, Heap.get?_push_size _ rfl, rfl, rfl⟩, ⟨ol, Heap.get?_push_of_some _ b1, b2, b3⟩, Heap.get?_push_of_some _ h1⟩, ?_, ?_, ?_⟩)
  · intro b hb
    rcases List.mem_cons.mp hb with e | hb
    · rw [e]; exact Heap.lt_size (Heap.get?_push_size _ rfl)
    · rcases List.mem_cons.mp hb with e | hb
      · rw [e]; exact Heap.lt_size (Heap.get?_push_of_some _ b1)
      · rw [List.mem_singleton.mp hb]; exact Heap.lt_size (Heap.get?_push_of_some _ h1)
  · intro i v hv
    exact intsAre_at hi (by rw [List.getElem?_toArray] at hv; exact hv)
  · intro h' tk t' hk
    have e : preSum (fun i => (ns[i]?).getD 0) its.toArray.size = ns.sum := by
      rw [preSum_take ns _ (by rw [List.size_toArray]; omega), List.take_of_length_le (by rw [List.size_toArray]; omega)]
    rw [e]
    refine hQ h' tk t' fun b o hb => hk b o (fun z => ?_) (Heap.get?_push_of_some _ hb)
    rw [List.mem_singleton] at z
    exact absurd z (Nat.ne_of_lt (Heap.lt_size hb))
end FM

set_option Elab.async false
set_option linter.all false
set_option maxRecDepth 100000
namespace FM
open PySem PySem.Spec PyProof.Rows L2
section
variable {X : Cx} {g : Gd}
/-- int(one) of a local of a comprehension, where errors may be handled -/
theorem int_elt {A : Around} {P : Program} {w : World} {env : Env} {scope : Scope} {C : Addr} {s : Shared} {x : Str} {m mgl mbl : Str → Option Value} {b : Bool} {p p2 pos : Pos} {Q : Value → Shared → Prop} {E : Value → Shared → Prop} (hk : scope.kind = .function) (hx : scope.names.lookup x = some .local) (hi : (compEnv scope C env).kindOf "int" = some .globalImplicit)
    (hC : s.heap.Ns C m) (hm : m x = some (.bool b)) (hg : s.heap.Ns env.globals mgl) (hgi : mgl "int" = none) (hb : s.heap.Ns env.builtins mbl) (hbi : mbl "int" = some (.type "int")) (hdb : (x == ("__debug__" : Str)) = false)
    (hQ : Q (.int (if b = true then 1 else 0) s.toks) { s with toks := s.toks + 1 })
    (he : starEach [.Name x p2] (compEnv scope C env) = (false, eval (.Name x p2) (compEnv scope C env)) :: starEach [] (compEnv scope C env) := by rfl) (hpl : (backTo pos (starEach [] (compEnv scope C env))).any (·.1) = false := by rfl) :
    wpAny (model P w) A (eval (.Call (.Name "int" p) [.Name x p2] [] pos) (compEnv scope C env)) Q E s := by
  refine wpAny_Call_Name_kw (Calls.Name_function_global hk hi (Calls.loadGlobal_builtin hg hgi hb hbi ?_))
  refine callWith_type1 (args_cons ?_ he) he hpl
  refine ldK (s₂ := s) (m := m) ?_ hk hx hm ?_ hdb
  · exact ⟨⟨s.heap, s.toks, rfl⟩, hC, fun _ _ e => e⟩
  · exact wpAny_items_nil (call_int_bool hQ)
def bI (b : Bool) : Int := if b = true then 1 else 0
theorem paired_ints : ∀ {vs : List Value} {ys : List Value} {bs : List Bool}, Paired (fun v y => ∃ b, v = Value.bool b ∧ ∃ t, y = .int (bI b) t) vs ys → vs = bs.map Value.bool → IntsAre ys (bs.map bI) ∧ ys.length = bs.length
  | _, _, bs, .nil, e => by
    cases bs with
    | nil => exact ⟨.nil, rfl⟩
    | cons => cases e
  | _, _, bs, .cons h p, e => by
    cases bs with
    | nil => cases e
    | cons b bs =>
      cases e
      obtain ⟨b', e1, t, e2⟩ := h
      cases e1
      subst e2
      obtain ⟨q1, q2⟩ := paired_ints p rfl
      exact ⟨.cons _ _ q1, by rw [List.length_cons, List.length_cons, q2]⟩
theorem vals_bools : ∀ {bs : List Bool} {its : List Value}, Vals (bs.map V.bl) its → its = bs.map Value.bool
  | [], _, h => by cases h; rfl
  | b :: bs, _, h => by
    cases h with
    | cons h1 h2 =>
      rw [vals_bools h2]
      cases h1; rfl
/-- sum([int(x) for x in bs]), bs in a slot, where an error is handled -/
theorem pe_sumIntH {i : Nat} {x y : Str} {p p1 p2 p3 p4 p5 pos lpos : Pos} {scope : Scope} (hc : L2H.HotC X) (po : PE X (.Name y p5) (tVar i)) (hg : Gl X "sum") (hm : X.mg "sum" = none) (hm2 : X.mg "int" = none)
    (hf : ∀ y ∈ scope.names, y.2 ≠ NameKind.free) (hcl : ∀ y ∈ scope.names, y.2 ≠ NameKind.cell) (hk : scope.kind = .function) (hl : ∀ y ∈ scope.names, y.2 = NameKind.local → scope.names.lookup y.1 = some .local) (hx : scope.names.lookup x = some .local) (hdb : (x == ("__debug__" : Str)) = false)
    (hi : ∀ C env, (compEnv scope C env).kindOf "int" = some .globalImplicit)
    (hs : ∀ v, foldedSetIterable (.Name y p5) X.env v = pure v := by intro _; rfl)
    (he : starEach [.ListComp (.Call (.Name "int" p1) [.Name x p2] [] p3) [⟨.Name x p4, .Name y p5, [], 0⟩] scope lpos] X.env = (false, eval (.ListComp (.Call (.Name "int" p1) [.Name x p2] [] p3) [⟨.Name x p4, .Name y p5, [], 0⟩] scope lpos) X.env) :: starEach [] X.env := by rfl)
    (hpl : (backTo pos (starEach [] X.env)).any (·.1) = false := by rfl) :
    PE X (.Call (.Name "sum" p) [.ListComp (.Call (.Name "int" p1) [.Name x p2] [] p3) [⟨.Name x p4, .Name y p5, [], 0⟩] scope lpos] [] pos)
      (fun σ H Q => ∃ (a : Addr) (bs : List Bool), σ[i]? = some (some (.ref a)) ∧ SqL X.K H a (bs.map V.bl) ∧ Q (.int (bs.map bI).sum) H) := by
  constructor
  intro pins s σ H Q I ⟨a, bs, h1, h2, h3⟩
  obtain ⟨q, ⟨hot1, vs1, hv1, hv2⟩, hq⟩ := hc
  refine wpAny_Call_Name_kw (ld_blt I hg hm (show bootBuiltins "sum" = some (.builtin "sum") by decide +kernel) ?_)
  refine callWith_builtin1 (args_cons ?_ he) he hpl
  refine wpAny_ListComp_walk (fun _ => true) (fun v y => ∃ b, v = Value.bool b ∧ ∃ t, y = .int (bI b) t) hf hcl hk hl hx ?_ hs
  refine thn (po.run pins s σ H (fun v H1 => v = .ref a ∧ H1 = H) I ⟨_, h1, rfl, rfl⟩) fun u s1 ⟨v, H1, I1, r1, ev, eH⟩ => ?_
  subst ev eH
  cases r1
  obtain ⟨its, rv, hpl1, hsz⟩ := I1.list h2
  have eb := vals_bools rv; subst eb
  have hlst : s1.heap.IsList a (bs.map Value.bool).toArray := hpl1.isList
  obtain ⟨pq, _⟩ := I1.pin q (List.mem_append_left _ hq)
  obtain ⟨ol, b1, b2, b3⟩ := id hlst
  have hll := Heap.lt_size b1
  have hlx := Heap.lt_size pq
  refine wpAny_pyIter_list hlst ⟨s1.heap.objs.size, [s1.heap.objs.size, a, q.1], [s1.heap.objs.size], (bs.map Value.bool).toArray.size, _, _, rfl, walks_listH (A := X.A) hot1 hv1 hv2 _ _ (Nat.ne_of_lt hll) (Nat.ne_of_lt hlx) _, ?_, ⟨⟨_, Heap.get?_push_size _ rfl, rfl, rfl⟩, ⟨ol, Heap.get?_push_of_some _ b1, b2, b3⟩, Heap.get?_push_of_some _ pq⟩, ?_, ?_, ?_⟩
  · rw [List.size_toArray, List.length_map]; rw [List.length_map] at hsz; exact hsz
  · intro b hb
    rcases List.mem_cons.mp hb with e | hb
    · rw [e]; exact Heap.lt_size (Heap.get?_push_size _ rfl)
    · rcases List.mem_cons.mp hb with e | hb
      · rw [e]; exact Heap.lt_size (Heap.get?_push_of_some _ b1)
      · rw [List.mem_singleton.mp hb]; exact Heap.lt_size (Heap.get?_push_of_some _ pq)
  · refine ⟨fun C j v s3 m3 E' hv hC hm3 kp tk => ?_, fun C j v s3 m3 E' hv _ hC hm3 kp tk => ?_⟩
    · refine wpAny_pure ⟨rfl, s3.heap, s3.toks, rfl, fun _ _ e => e⟩
    · have hvb : ∃ b, v = Value.bool b := by
        rw [List.getElem?_toArray, List.getElem?_map] at hv
        obtain ⟨b, _, e⟩ := Option.map_eq_some_iff.mp hv
        exact ⟨b, e.symm⟩
      obtain ⟨b, rfl⟩ := hvb
      have keep : ∀ b o, X.base.get? b = some o → s3.heap.get? b = some o := fun b o e => by
        have e1 := I1.bk b o e
        refine kp b o (fun z => ?_) (Heap.get?_push_of_some _ e1)
        rw [List.mem_singleton] at z
        exact absurd z (Nat.ne_of_lt (Heap.lt_size e1))
      obtain ⟨mb, hb1, hb2⟩ := I1.mod.blt
      refine int_elt hk hx (hi C X.env) hC hm3 (mgl := X.mg) (mbl := mb) ?_ hm2 ?_ ?_ hdb ⟨⟨b, rfl, _, rfl⟩, s3.heap, _, rfl, fun _ _ e => e⟩
      · rw [I1.ok.glob]; exact I1.mod.glob.keeps keep
      · rw [I1.ok.blt]; exact hb1.keeps keep
      · rw [hb2 _ (by decide)]; decide +kernel
  · intro D h' tk ys vs hD hL hPL hvl hvs hP kp
    have keep : ∀ b o, s1.heap.get? b = some o → h'.get? b = some o := fun b o e => by
      refine kp b o (fun z => ?_) (Heap.get?_push_of_some _ e)
      rw [List.mem_singleton] at z
      exact absurd z (Nat.ne_of_lt (Heap.lt_size e))
    have I2 := I1.kept (t' := tk) keep
    refine wpAny_items_nil ?_
    have evs : vs = bs.map Value.bool := by
      apply List.ext_getElem?
      intro j
      cases e : vs[j]? with
      | some v =>
        have := hvs j v e
        rw [List.getElem?_toArray] at this
        exact this.symm
      | none =>
        rw [List.getElem?_eq_none_iff, hvl, List.size_toArray] at e
        rw [List.getElem?_eq_none e]
    have hP2 : Paired (fun v y => ∃ b, v = Value.bool b ∧ ∃ t, y = .int (bI b) t) vs ys.toList := by
      have : vs.filter (fun _ => true) = vs := List.filter_eq_self.mpr fun _ _ => rfl
      rw [this] at hP; exact hP
    obtain ⟨q1, q2⟩ := paired_ints hP2 evs
    have hL2 : h'.IsList D ys.toList.toArray := by rw [Array.toArray_toList]; exact hL
    refine sum_rawH (A := X.A) (s := { s1 with heap := h', toks := tk }) hot1 (keep _ _ pq) hv1 hv2 hL2 q1 (by rw [q2, List.length_map]) fun h2 tk2 t2 k2 => ?_
    exact ⟨.int _, _, I2.kept k2, ⟨_, rfl⟩, h3⟩
end
end FM

set_option Elab.async false
set_option linter.all false
set_option maxRecDepth 100000
/-! a def that is called while an error is handled -/
namespace FM
open PySem PySem.Spec PyProof.Rows L2
section
variable {X : Cx} {g : Gd}
theorem cr_isaP {a C : Addr} {oe : Obj} {T : Str → Str → Option Bool} {x0 : Str} (hp0 : (a, oe) ∈ X.pn) (hT : IsaK X.K X.mg T) (hx : X.mg x0 = some (.ref C)) (hC : ExcC X.K C) (hz : L2N.Zn (.ref C) none oe) (hf : ∃ vs, oe.data = .fields vs) : CallR X (.builtin "isinstance") (rIsa2 T X.mg X.K a x0) := by
  intro pins s σ H xs us Q I r h
  obtain ⟨v, rfl, h⟩ := h
  obtain ⟨u1, u2, rfl, r1, r2⟩ := vals2 r
  have e1 : u1 = Value.ref a := r1
  subst e1
  obtain ⟨hget, _⟩ := I.pin (a, oe) (List.mem_append.mpr (.inl hp0))
  obtain ⟨vs, hv⟩ := hf
  have J : PySem.W.InstAt s.heap a oe C none := by
    obtain ⟨oc, od, oda, osl⟩ := oe
    obtain ⟨h1, h2, _⟩ := hz
    dsimp only at h1 h2 hv
    subst h1 h2 hv
    exact ⟨hget, rfl, rfl, trivial⟩
  have Z := PySem.W.handS_kitx_exc (x := a) (ox := oe) hC.hg hC.hk hC.hs hC.hd hC.ha hC.hn hC.ht hC.hm
  rcases h with ⟨y, D, b, rfl, e2, e3, q⟩ | ⟨p, cs, ns, b, rfl, hs, hp, e3, q⟩
  · obtain ⟨C', D', f1, f2, _, f3⟩ := hT x0 y b e3
    rw [hx] at f1; cases f1
    rw [e2] at f2; cases f2
    have e4 : u2 = Value.ref D := r2
    subst e4
    exact PySem.W.kia_one Z I.kIn J f3 (fun z => nomatch z) fun tk => ⟨.bl b, H, I.kept (t' := tk) fun _ _ z => z, rfl, q⟩
  · have e4 : u2 = Value.ref p := r2
    subst e4
    obtain ⟨its, rv, pl, _⟩ := I.tuple hs
    have := vals_refs2 cs rv; subst this
    obtain ⟨⟨oc, od, dt, sl⟩, h1, h2, n, h3⟩ := pl
    simp only at h2 h3
    subst h2 h3
    exact PySem.W.kia_tup Z I.kIn J h1 (any_kit hT hx hp e3) (fun z => nomatch z) fun tk => ⟨.bl b, H, I.kept (t' := tk) fun _ _ z => z, rfl, q⟩
theorem oc_isaP {a C : Addr} {oe : Obj} {T : Str → Str → Option Bool} {x0 : Str} (hp0 : (a, oe) ∈ X.pn) (hT : IsaK X.K X.mg T) (hx : X.mg x0 = some (.ref C)) (hC : ExcC X.K C) (hz : L2N.Zn (.ref C) none oe) (hf : ∃ vs, oe.data = .fields vs) : OpC X (.builtin "isinstance") (gIsa T a x0) := by
  refine ⟨_, cr_isaP hp0 hT hx hC hz hf, fun B H vs ds z Q b w hz' hQ => ?_⟩
  unfold gIsa at hz'
  split at hz'
  · split at hz'
    · rename_i hh
      obtain ⟨rfl, rfl⟩ := hh
      obtain ⟨k, e1, e2⟩ := Option.map_eq_some_iff.mp hz'
      subst e2
      obtain ⟨v, u, ev, w1, w2⟩ := vws2 w; subst ev
      obtain ⟨F, w1⟩ := w1
      obtain ⟨G, w2⟩ := w2
      cases w1
      cases w2 with
      | @cls D _ hm => exact ⟨_, rfl, .inl ⟨_, D, k, rfl, hm, e1, hQ _ (.bl _)⟩⟩
    · cases hz'
  · split at hz'
    · rename_i hh
      obtain ⟨rfl, rfl⟩ := hh
      obtain ⟨ns, e1, e2⟩ := Option.bind_eq_some_iff.mp hz'
      obtain ⟨k, e3, e4⟩ := Option.map_eq_some_iff.mp e2
      subst e4
      obtain ⟨v, u, ev, w1, w2⟩ := vws2 w; subst ev
      obtain ⟨F, w1⟩ := w1
      cases w1
      obtain ⟨p, vs, F, rfl, hs, rr⟩ := w2.tup b
      obtain ⟨cs, e5, pp⟩ := rels_cls rr e1
      subst e5
      exact ⟨_, rfl, .inr ⟨p, cs, ns, k, rfl, hs, pp, e3, hQ _ (.bl _)⟩⟩
    · cases hz'
  · cases hz'
end
/-- a def's promise, where the error in a is handled -/
structure FnGH (P : Program) (w : World) (K : PySem.W.Frag) (mg : Str → Option Value) (base : Heap) (k : Nat) (f : Addr) (fd : FuncData) (ps : List Str) (fs : Addr → Str → FSpec) : Prop where
  len : ∀ a x vs H Q E, spOf K mg (fs a x) vs H Q E → vs.length = ps.length
  run : ∀ (A : Around) (outer : List Env) (s : Shared) (H : Hp) (args : Args) (us : List Value) (vs : List V) (Q : VK) (E : XK) (a C : Addr) (oe : Obj) (x0 : Str), L2H.RoomH k A → L2H.Hot1 A (a, oe) → L2H.PinOk outer H s (a, oe) → mg x0 = some (.ref C) → ExcC K C → L2N.Zn (.ref C) none oe → A.guards = some [] →
    Env0 P w K mg base A outer s H → BindsTo s fd args (ps.zip us) → Vals vs us → spOf K mg (fs a x0) vs H Q E →
    codeAny (model P w) A (.call (.ref f) args) (CR (L2N.CX P w) outer P w H s Q E) s
section
variable {P : Program} {w : World} {K : PySem.W.Frag} {mg : Str → Option Value} {base : Heap}
theorem fnGH_of {x : Str} {st : Stmt} {f : Addr} {fd : FuncData} {N ps : List Str} {k n : Nat} {tb : Addr → Str → DS} (D : DefK K mg x st ps f fd) (S : FnScope N ps (defScope st)) (hn : ps.length = n)
    (hb : ∀ (cdv : Value) (A : Around) (outer : List Env) (s : Shared) (H : Hp) (E : XK) (a C : Addr) (oe : Obj) (x0 : Str), L2H.RoomH k (A.deeper (envOfC x (defScope st) s.heap.objs.size f cdv)) → L2H.Hot1 A (a, oe) → mg x0 = some (.ref C) → ExcC K C → L2N.Zn (.ref C) none oe → A.guards = some [] →
      SSs (L2H.cxH (L2N.CX P w) P w K mg base N x (defScope st) f cdv A outer s H E (a, oe)) ⟨E, []⟩ (defBody st) (tb a x0)) : FnGH P w K mg base (k + 1) f fd ps fun a x0 => fsOf n [] N.length (tb a x0) := by
  obtain ⟨oc, od, kV, doc, pm, an, cdv, ct, osl, efd, lk, hcd⟩ := D.fn.ex
  subst efd
  constructor
  · intro a x0 vs H Q E h
    exact h.1.trans hn.symm
  intro A outer s H args us vs Q E a C oe x0 room hot pin e1 e2 e3 hgd e0 hbd rel hsp
  have stay : ∀ b o, base.get? b = some o → s.heap.get? b = some o := fun b o e => (e0.bs b o e).1
  have inK : K.In s.heap := e0.mod.kin.keeps stay
  refine codeAny_call_function room.depth (inK _ _ lk) rfl S.co S.gen rfl (PySem.W.codeRec_of inK hcd) (hbd _ _ _ _ ?_)
  refine wpAny_newFunctionEnv_cells S.kind (fun y hy => ?_) fun env he s1 x => ?_
  · rcases S.par y.1 (List.of_mem_zip (show (y.1, y.2) ∈ ps.zip us from hy)).1 with q | q
    · exact .inl q
    · exact .inr ⟨q, PySem.W.cellsFrom_some _ _ _ (.inl q)⟩
  · subst he
    refine ⟨(e0.mod.nolimit.keeps stay).keeps x.toInCall.keep, codeAny_func ?_⟩
    have hlen : vs.length = ps.length := hsp.1.trans hn.symm
    obtain ⟨hl, fx, ds, B, col, Qd, Xd, rfl, rfl, io, hd, sr, _, wp, hQ, lk2⟩ := hsp
    obtain ⟨ts, pss, kk⟩ := (hb cdv A outer s fx.H0 E a C oe x0 (room.deeper _) hot e1 e2 e3 hgd).run
    have sr' := sr.start (N.length - n)
    have e : L2.start N vs = vs.map some ++ List.replicate (N.length - n) none := by unfold L2.start; rw [hl]; rfl
    have ht : ts { nx := fun _ H' => Q .non H', rt := Q } (L2.start N vs) fx.H0 := by
      rw [e]
      refine kk fx _ _ _ _ col _ Xd _ ⟨io, lk2⟩ sr' wp ⟨fun st r B' H' c h sb s1 => ?_, fun v d st r B' H' c h sb s1 => ?_, fun _ _ _ _ _ h => h.elim, fun _ _ _ _ _ h => h.elim⟩
      · obtain ⟨outs, e1, h⟩ := got_cases (show got (slotsAt r []) (Qd .non) from h)
        exact hQ .non .non outs st r B' H' c e1 h (SR.push (ts := []) s1 .non)
      · obtain ⟨outs, e1, h⟩ := got_cases (show got (slotsAt r []) (Qd d) from h)
        exact hQ v d outs st r B' H' c e1 h s1
    have I0 := L2H.inv_startH (CX := L2N.CX P w) (E := E) S pin e0 hlen rel x
    refine wpAny_mono (pss.run [] s1 _ fx.H0 _ I0 ht) (fun fl s' hs => ?_) fun e s' hs => hs
    cases fl with
    | next =>
      obtain ⟨st', H', J, q⟩ := hs
      exact ⟨V.non, H', J.os, J.bare, J.base, J.hok, rfl, q⟩
    | ret u =>
      obtain ⟨v, st', H', J, rv, q⟩ := hs
      exact ⟨v, H', J.os, J.bare, J.base, J.hok, rv, q⟩
    | brk => obtain ⟨_, _, _, q⟩ := hs; exact q.elim
    | cont => obtain ⟨_, _, _, q⟩ := hs; exact q.elim
end
end FM

set_option Elab.async false
set_option linter.all false
set_option maxRecDepth 100000
/-! calls while an error is handled -/
namespace FM
open PySem PySem.Spec PyProof.Rows L2
section
variable {X : Cx} {g : Gd}
/-- a call, by what stands for it beneath -/
theorem se_callCore {q : Bool} {fs : FSpec} {ce e : Expr} {es : List Expr} {u : DAk} (hlen : True) (hpe : ∀ ta : TA, PA X (e :: es) ta → PE X ce (fun st H Q => ta st H fun vs H1 => spOf X.K X.mg fs vs H1 Q g.E)) (ha : SK X g q (e :: es) u) :
    SE X g (q && fs.io.isEmpty) ce (dCall fs u) := by
  obtain ⟨ta, pa, ka⟩ := ha.run
  refine ⟨_, hpe ta pa, fun fx st r ts B H col Qd Xd Q ok s ht hQ => ?_⟩
  refine ka fx st r ts B H col _ Xd _ ok s ht fun vs as r1 B1 H1 c1 h1 sB sH s1 ao => ?_
  obtain ⟨ds, hd, hok, wp⟩ := got_cases h1
  unfold callOk at hok
  simp only [Bool.and_eq_true, decide_eq_true_eq, List.all_eq_true] at hok
  obtain ⟨hn, hio, nd, hbm⟩ := hok
  have hms : ∀ i ∈ msOf as, i < r1.length := fun i hi => by
    obtain ⟨k, hk⟩ := List.getElem?_of_mem hi
    have hkm : k < (mpOf 0 as).length := by rw [mp_len]; exact (List.getElem?_eq_some_iff.mp hk).1
    obtain ⟨_, i', ha, hk'⟩ := mp_ms (List.getElem?_eq_getElem hkm)
    rw [hk] at hk'; cases hk'
    obtain ⟨d, _, e2⟩ := (argDs_get hd).2 _ _ ha
    exact (List.getElem?_eq_some_iff.mp (slotAt_get (show slotAt r1 i = some d from e2))).1
  refine ⟨ao.len.trans hn, ⟨H1, cB c1 ts.length (buOf r1 as) B1 H1, cO c1 as, ioOf 0 vs as⟩, ds, _, cC c1 as, _, Xd, rfl, rfl, by rw [ioOf_fst ao, hio], (argDs_get hd).1.trans hn, call_in s1 ao hd nd hbm, fun a p z => by show (cO c1 as a).map Own.s = some (.s p); rw [show cO c1 as a = some p from z]; rfl, wp, fun v d outs st' r' B' H' col' ho hq c => ?_, fun x c d H' hx er hf hs => ?_⟩
  · rw [← hio] at ho
    obtain ⟨s2, sb2, hh⟩ := call_out s1 ao nd hbm c ho hq.1 hms
    exact hQ v d _ _ H' _ hq.2 (sB.trans sb2) (fun hqq => by
      simp only [Bool.and_eq_true] at hqq
      refine (sH hqq.1).trans (hh ?_)
      have : (mpOf 0 as).length = 0 := by
        rw [hio]
        have := hqq.2
        cases hfs : fs.io with
        | nil => rfl
        | cons _ _ => rw [hfs] at this; cases this
      rw [mp_len] at this
      exact List.length_eq_zero_iff.mp this) s2
  · refine ok.link x c d H' hx er (fun a o e n => ?_) (fun a o e => ?_)
    · have q := s1.frame a o e n
      refine hf a o q ?_
      show cO c1 as a = none
      cases h : cO c1 as a with
      | none => rfl
      | some p =>
        obtain ⟨i, c1', _, _⟩ := cO_some h
        rcases s1.new a _ c1' with z | ⟨p, _, z, _⟩
        · rw [e] at z; cases z
        · rw [n] at z; cases z
    · obtain ⟨o', q⟩ := s1.stay a o e
      exact hs a o' q
theorem pe_callGH {k : Nat} {f a C : Addr} {oe : Obj} {x0 : Str} {fd : FuncData} {ps : List Str} {fs : Addr → Str → FSpec} {E : XK} {x : Str} {p pos : Pos} {e : Expr} {es : List Expr} {t : TA} (F : FnGH X.prog X.w X.K X.mg X.base k f fd ps fs) (hr : L2H.RoomH k X.A) (hot : L2H.Hot1 X.A (a, oe)) (hp : (a, oe) ∈ X.pn) (e1 : X.mg x0 = some (.ref C)) (e2 : ExcC X.K C) (e3 : L2N.Zn (.ref C) none oe)
    (hgd : X.A.guards = some []) (hg : Gl X x) (hm : X.mg x = some (.ref f)) (hk : PySem.W.keepIn X.K (.ref f) = true) (hb : Binds X.K fd ps []) (hx : Passes (L2N.CX X.prog X.w) X E)
    (ha : PA X (e :: es) t) (hdb : (x == ("__debug__" : Str)) = false := by decide) (he : starEach (e :: es) X.env = (false, eval e X.env) :: starEach es X.env := by rfl) (hpl : (backTo pos (starEach es X.env)).any (·.1) = false := by rfl) :
    PE X (.Call (.Name x p) (e :: es) [] pos) (fun st H Q => t st H fun vs H1 => spOf X.K X.mg (fs a x0) vs H1 Q E) := by
  constructor
  intro pins s st H Q I h
  refine wpAny_Call_Name_kw (ld_glob I hg hm ?_ hdb)
  refine PySem.W.callWith_K (h₀ := X.base) I.ok.mod.kin hk (thn (ha.run pos pins s st H _ I h) fun us s1 ⟨vs, H1, I1, r, q⟩ => ⟨I1.kIn, ?_⟩) he hpl
  have hl : us.length = ps.length := by rw [← r.length]; exact F.len _ _ _ _ _ _ q
  have b := hb s1 us I1.kIn (by rw [List.append_nil]; exact hl)
  rw [List.append_nil] at b
  have P1 := I1.pin (a, oe) (List.mem_append_left _ hp)
  have pin : L2H.PinOk X.stack H1 s1 (a, oe) := ⟨P1.1, P1.2.1, fun hm => (List.mem_cons.mp (I1.stkSub a hm)).elim P1.2.2.1 P1.2.2.2.1, P1.2.2.2.2⟩
  refine wpAny_call (codeAny_mono (F.run X.A X.stack s1 H1 ⟨us, []⟩ us vs Q E a C oe x0 hr hot pin e1 e2 e3 hgd I1.env0 b r q) fun res s' hq => ?_)
  cases res with
  | error e => exact hx pins st H1 s1 e s' I1 hq
  | ok fl =>
    cases fl with
    | ret u => exact I1.after hq
    | next => exact False.elim hq
    | brk => exact False.elim hq
    | cont => exact False.elim hq
end
section
variable {X : Cx} {g : Gd}
theorem roomH_mark {k : Nat} {A : Around} {v : Option Value} (h : Room k A) : L2H.RoomH k (A.mark v) := ⟨h.dp, h.un⟩
theorem hot_mark {A : Around} {a : Addr} {oe : Obj} {cls : Value} {d : Option Addr} (hz : L2N.Zn cls d oe) (hf : ∃ vs, oe.data = .fields vs) : L2H.Hot1 (A.mark (some (.ref a))) (a, oe) := by
  obtain ⟨vs, hv⟩ := hf
  exact ⟨rfl, vs, hv, hz.2.2 vs hv⟩
/-- f(e, ..) in the suite of a clause -/
theorem se_callH {q : Bool} {k : Nat} {f a C : Addr} {oe : Obj} {x0 : Str} {pn : List (Addr × Obj)} {fd : FuncData} {ps : List Str} {fs : Addr → Str → FSpec} {x : Str} {p pos : Pos} {e : Expr} {es : List Expr} {u : DAk} (F : FnGH X.prog X.w X.K X.mg X.base k f fd ps fs) (hr : Room k X.A) (e1 : X.mg x0 = some (.ref C)) (e2 : ExcC X.K C) (e3 : L2N.Zn (.ref C) none oe) (hf : ∃ vs, oe.data = .fields vs)
    (hgd : X.A.guards = some []) (hg : Gl X x) (hm : X.mg x = some (.ref f)) (hk : PySem.W.keepIn X.K (.ref f) = true) (hb : Binds X.K fd ps [])
    (ha : SK (X.suite a ((a, oe) :: pn)) ⟨fun _ _ _ => False, []⟩ q (e :: es) u) (hdb : (x == ("__debug__" : Str)) = false := by decide) (he : starEach (e :: es) X.env = (false, eval e X.env) :: starEach es X.env := by rfl) (hpl : (backTo pos (starEach es X.env)).any (·.1) = false := by rfl) :
    SE (X.suite a ((a, oe) :: pn)) ⟨fun _ _ _ => False, []⟩ (q && (fs a x0).io.isEmpty) (.Call (.Name x p) (e :: es) [] pos) (dCall (fs a x0) u) :=
  se_callCore trivial (fun ta pa => pe_callGH (X := X.suite a ((a, oe) :: pn)) F (roomH_mark hr) (hot_mark e3 hf) (List.mem_cons_self ..) e1 e2 e3 hgd hg hm hk hb (passF rfl rfl) pa hdb he hpl) ha
end
end FM

set_option Elab.async false
set_option linter.all false
set_option maxRecDepth 100000
theorem L2H.RoomH.units {k : Nat} {A : PySem.Around} (h : L2H.RoomH k A) : A.units + 64 < PySem.cLine := by have := h.un; omega
namespace FM
open PySem PySem.Spec PyProof.Rows L2
section
variable {P : Program} {w : World} {K : PySem.W.Frag} {mg : Str → Option Value} {base : Heap}
theorem FnGH.mono {j k : Nat} {f : Addr} {fd : FuncData} {ps : List Str} {fs : Addr → Str → FSpec} (F : FnGH P w K mg base j f fd ps fs) (h : j ≤ k) : FnGH P w K mg base k f fd ps fs :=
  ⟨F.len, fun A outer s H args us vs Q E a C oe x0 hr => F.run A outer s H args us vs Q E a C oe x0 (hr.mono h)⟩
end
section
variable {X : Cx} {g : Gd}
def bitsL : D → Option (List Bool)
  | .lst _ xs => blsOf xs
  | _ => none
/-- sum([int(x) for x in bs]) -/
def dSumB (i : Nat) : DE := fun r Q _ => got (slotAt r i) fun c => got (bitsL c) fun bs => Q (.int (bs.map bI).sum) r
theorem se_sumIntH {i : Nat} {x y : Str} {p p1 p2 p3 p4 p5 pos lpos : Pos} {scope : Scope} (hc : L2H.HotC X) (po : PE X (.Name y p5) (tVar i)) (hg : Gl X "sum") (hm : X.mg "sum" = none) (hm2 : X.mg "int" = none)
    (hf : ∀ y ∈ scope.names, y.2 ≠ NameKind.free) (hcl : ∀ y ∈ scope.names, y.2 ≠ NameKind.cell) (hk : scope.kind = .function) (hl : ∀ y ∈ scope.names, y.2 = NameKind.local → scope.names.lookup y.1 = some .local) (hx : scope.names.lookup x = some .local) (hdb : (x == ("__debug__" : Str)) = false)
    (hi : ∀ C env, (compEnv scope C env).kindOf "int" = some .globalImplicit)
    (hs : ∀ v, foldedSetIterable (.Name y p5) X.env v = pure v := by intro _; rfl)
    (he : starEach [.ListComp (.Call (.Name "int" p1) [.Name x p2] [] p3) [⟨.Name x p4, .Name y p5, [], 0⟩] scope lpos] X.env = (false, eval (.ListComp (.Call (.Name "int" p1) [.Name x p2] [] p3) [⟨.Name x p4, .Name y p5, [], 0⟩] scope lpos) X.env) :: starEach [] X.env := by rfl)
    (hpl : (backTo pos (starEach [] X.env)).any (·.1) = false := by rfl) :
    SE X g true (.Call (.Name "sum" p) [.ListComp (.Call (.Name "int" p1) [.Name x p2] [] p3) [⟨.Name x p4, .Name y p5, [], 0⟩] scope lpos] [] pos) (dSumB i) := by
  refine ⟨_, pe_sumIntH hc po hg hm hm2 hf hcl hk hl hx hdb hi hs he hpl, fun fx st r ts B H col Qd Xd Q ok s ht hQ => ?_⟩
  obtain ⟨c, e1, h1⟩ := get_cases ht
  obtain ⟨bs, e2, h2⟩ := got_cases h1
  obtain ⟨v, e3, w⟩ := s.viewSlot e1
  unfold bitsL at e2
  split at e2
  · obtain ⟨a, vs, F, rfl, h, rr⟩ := w.lst s.bh
    have := rels_blsOf rr e2; subst this
    exact ⟨a, bs, e3, .inl (.inl h), hQ _ _ r B H col h2 (Same.refl B) (fun _ => Same.refl H) (s.push (.int _))⟩
  · cases e2
theorem e_sumB {i : Nat} {r : DEnv} {Q : D → DEnv → Prop} {Xp : XP} : dSumB i r Q Xp = got (slotAt r i) fun c => got (bitsL c) fun bs => Q (.int (bs.map bI).sum) r := nr rfl
end
section
variable {P : Program} {w : World} {K : PySem.W.Frag} {mg : Str → Option Value} {base : Heap} {N : List Str} {qual : Str} {scope : Scope} {f : Addr} {cd : Value} {A : Around} {outer : List Env} {s : Shared} {H : Hp} {E : XK} {p : Addr × Obj}
theorem hotD (h : L2H.Hot1 A p) : L2H.HotC (L2H.cxH (L2N.CX P w) P w K mg base N qual scope f cd A outer s H E p) := ⟨p, ⟨h.1, h.2⟩, List.mem_cons_self ..⟩
end
end FM

set_option Elab.async false
set_option linter.all false
set_option maxRecDepth 100000
/-! the least costs of ways, charts -/
namespace FM
abbrev Mv := List (List (List (Int × Int)))
/-- a number is the least of costs, or -1 where there is none -/
def IsLow (P : Int → Prop) (v : Int) : Prop := (v = -1 ∧ ∀ c, ¬ P c) ∨ (0 ≤ v ∧ P v ∧ ∀ c, P c → v ≤ c)
theorem IsLow.uniq {P : Int → Prop} {v w : Int} (h : IsLow P v) (h2 : IsLow P w) : v = w := by
  rcases h with ⟨a, b⟩ | ⟨a, b, c⟩
  · rcases h2 with ⟨d, e⟩ | ⟨d, e, f⟩
    · rw [a, d]
    · exact absurd e (b w)
  · rcases h2 with ⟨d, e⟩ | ⟨d, e, f⟩
    · exact absurd b (e v)
    · exact Int.le_antisymm (c w e) (f v b)
theorem IsLow.congr {P Q : Int → Prop} {v : Int} (h : IsLow P v) (e : ∀ c, P c ↔ Q c) : IsLow Q v := by
  have : P = Q := funext fun c => propext (e c)
  rw [← this]; exact h
theorem low_is_low {xs : List Int} (h : ∀ y ∈ xs, 0 ≤ y) : IsLow (fun c => c ∈ xs) (low xs) := by
  rcases low_cases xs with ⟨e1, e2⟩ | ⟨e1, e2⟩
  · refine .inl ⟨e2, fun c hc => ?_⟩
    rw [e1] at hc; cases hc
  · exact .inr ⟨h _ e1, e1, e2⟩
/-- what a vector of fares tells at a place -/
def vAt (f : List Int) (s : Nat) : Int := (f[s]?).getD (-1)
/-- a way's cost from state to state by letters -/
def path (S : Mv) : List Nat → Nat → Nat → Int → Prop
  | [], s, a, d => s = a ∧ d = 0
  | l :: ls, s, a, d => ∃ p ∈ rowAt S s l, ∃ e, path S ls p.1.toNat a e ∧ d = p.2 + e
theorem path_app {S : Mv} : ∀ {ls ms : List Nat} {s a : Nat} {d : Int}, path S (ls ++ ms) s a d ↔ ∃ b e e', path S ls s b e ∧ path S ms b a e' ∧ d = e + e'
  | [], ms, s, a, d => ⟨fun h => ⟨s, 0, d, ⟨rfl, rfl⟩, h, by omega⟩, fun ⟨b, e, e', ⟨h1, h2⟩, h3, h4⟩ => by
      subst h1 h2
      have : d = e' := by omega
      subst this; exact h3⟩
  | l :: ls, ms, s, a, d => by
    constructor
    · rintro ⟨p, hp, e, h1, h2⟩
      obtain ⟨b, e1, e2, g1, g2, g3⟩ := path_app.mp h1
      exact ⟨b, p.2 + e1, e2, ⟨p, hp, e1, g1, rfl⟩, g2, by omega⟩
    · rintro ⟨b, e, e', ⟨p, hp, e1, g1, rfl⟩, g2, g3⟩
      exact ⟨p, hp, e1 + e', path_app.mpr ⟨b, e1, e', g1, g2, rfl⟩, by omega⟩
theorem path_pos {n : Nat} {S : Mv} (hS : RowsB n S) : ∀ {ls : List Nat} {s a : Nat} {d : Int}, path S ls s a d → 0 ≤ d
  | [], s, a, d, ⟨_, h⟩ => by omega
  | l :: ls, s, a, d, ⟨p, hp, e, h1, h2⟩ => by
    have := path_pos hS h1
    have := (rowAt_mem hS p hp).2.2.1
    omega
theorem path_to {n : Nat} {S : Mv} (hS : RowsB n S) : ∀ {ls : List Nat} {s a : Nat} {d : Int}, s < n → path S ls s a d → a < n
  | [], s, a, d, hs, ⟨h, _⟩ => by omega
  | l :: ls, s, a, d, hs, ⟨p, hp, e, h1, h2⟩ => by
    have := rowAt_mem hS p hp
    exact path_to hS (by omega) h1
theorem mem_sumsTo {n : Nat} {S : Mv} (hS : RowsB n S) {f : List Int} {l a : Nat} {c : Int} : ∀ {k : Nat}, c ∈ sumsTo S f l a k ↔ ∃ s, s < k ∧ vAt f s ≠ -1 ∧ ∃ p ∈ rowAt S s l, p.1.toNat = a ∧ c = vAt f s + p.2
  | 0 => ⟨fun h => (nomatch h), fun ⟨s, h, _⟩ => by omega⟩
  | k + 1 => by
    constructor
    · intro h
      rcases List.mem_append.mp h with q | q
      · obtain ⟨s, h1, h2⟩ := (mem_sumsTo hS).mp q
        exact ⟨s, by omega, h2⟩
      · split at q
        · cases q
        · rename_i hv
          obtain ⟨p, hp, rfl⟩ := List.mem_map.mp q
          obtain ⟨h1, h2⟩ := List.mem_filter.mp hp
          have h2 := of_decide_eq_true h2
          exact ⟨k, by omega, hv, p, h1, by omega, rfl⟩
    · rintro ⟨s, h1, h2, p, hp, h3, rfl⟩
      by_cases e : s = k
      · subst e
        refine List.mem_append_right _ ?_
        have h2' : ¬ (f[s]?).getD (-1) = -1 := h2
        rw [if_neg h2']
        have := rowAt_mem hS p hp
        exact List.mem_map.mpr ⟨p, List.mem_filter.mpr ⟨hp, decide_eq_true (by omega)⟩, rfl⟩
      · exact List.mem_append_left _ ((mem_sumsTo hS).mpr ⟨s, by omega, h2, p, hp, h3, rfl⟩)
theorem vAt_lt {f : List Int} {s : Nat} (h : vAt f s ≠ -1) : s < f.length := by
  unfold vAt at h
  cases e : f[s]? with
  | none => rw [e] at h; exact absurd rfl h
  | some v => exact (List.getElem?_eq_some_iff.mp e).1
theorem vAt_pos {n : Nat} {b : Int} {f : List Int} (hf : IsV n b f) {s : Nat} (h : vAt f s ≠ -1) : 0 ≤ vAt f s := by
  have hl := vAt_lt h
  obtain ⟨v, e, h1, _⟩ := hf.at (s := s) (by rw [← hf.1]; exact hl)
  unfold vAt at h ⊢
  rw [e] at h ⊢
  simp only [Option.getD_some] at h ⊢
  omega
theorem vAt_step {S : Mv} {l : Nat} {f : List Int} {a : Nat} (h : a < f.length) : vAt (stepV S l f) a = low (sumsTo S f l a f.length) := by
  unfold vAt stepV
  rw [List.getElem?_map, List.getElem?_range h]; rfl
/-- the fares behind letters are the least costs -/
theorem run_low {n : Nat} {S : Mv} (hS : RowsB n S) : ∀ {ls : List Nat} {b : Int} {f : List Int} {a : Nat}, IsV n b f → -1 ≤ b → a < n →
    IsLow (fun c => ∃ s d, vAt f s ≠ -1 ∧ path S ls s a d ∧ c = vAt f s + d) (vAt (runV S ls f) a)
  | [], b, f, a, hf, hb, ha => by
    show IsLow _ (vAt f a)
    by_cases h : vAt f a = -1
    · refine .inl ⟨h, fun c ⟨s, d, h1, ⟨h2, _⟩, _⟩ => h1 (by rw [h2]; exact h)⟩
    · refine .inr ⟨vAt_pos hf h, ⟨a, 0, h, ⟨rfl, rfl⟩, by omega⟩, fun c ⟨s, d, h1, ⟨h2, h3⟩, h4⟩ => by rw [h4, h2, h3]; omega⟩
  | l :: ls, b, f, a, hf, hb, ha => by
    have ih := run_low hS (ls := ls) (stepV_is (l := l) hS hf hb) (by omega) ha
    rw [runV_cons]
    have hl : ∀ k, k < n → IsLow (fun c => c ∈ sumsTo S f l k f.length) (vAt (stepV S l f) k) := fun k hk => by
      rw [vAt_step (by rw [hf.1]; exact hk)]
      exact low_is_low fun y hy => (sumsTo_mem hS hf (by rw [hf.1]; exact Nat.le_refl _) y hy).1
    -- a cost by the step is a cost from the beginning
    have up : ∀ c, (∃ s d, vAt (stepV S l f) s ≠ -1 ∧ path S ls s a d ∧ c = vAt (stepV S l f) s + d) → ∃ s d, vAt f s ≠ -1 ∧ path S (l :: ls) s a d ∧ c = vAt f s + d := by
      rintro c ⟨s, d, h1, h2, rfl⟩
      have hs : s < n := by have := vAt_lt h1; rw [stepV_len, hf.1] at this; exact this
      rcases hl s hs with ⟨q, _⟩ | ⟨_, q, _⟩
      · exact absurd q h1
      · obtain ⟨s0, g1, g2, p, hp, g3, g4⟩ := (mem_sumsTo hS).mp q
        exact ⟨s0, p.2 + d, g2, ⟨p, hp, d, by rw [g3]; exact h2, rfl⟩, by rw [g4]; omega⟩
    have down : ∀ c, (∃ s d, vAt f s ≠ -1 ∧ path S (l :: ls) s a d ∧ c = vAt f s + d) → ∃ c', c' ≤ c ∧ ∃ s d, vAt (stepV S l f) s ≠ -1 ∧ path S ls s a d ∧ c' = vAt (stepV S l f) s + d := by
      rintro c ⟨s, d, h1, ⟨p, hp, e, h2, rfl⟩, rfl⟩
      have hp4 := rowAt_mem hS p hp
      have hm : vAt f s + p.2 ∈ sumsTo S f l p.1.toNat f.length := (mem_sumsTo hS).mpr ⟨s, vAt_lt h1, h1, p, hp, rfl, rfl⟩
      rcases hl p.1.toNat (by omega) with ⟨_, q⟩ | ⟨q0, q, q2⟩
      · exact absurd hm (q _)
      · refine ⟨vAt (stepV S l f) p.1.toNat + e, ?_, p.1.toNat, e, by omega, h2, rfl⟩
        have := q2 _ hm
        omega
    rcases ih with ⟨e, h⟩ | ⟨e, h, h2⟩
    · refine .inl ⟨e, fun c hc => ?_⟩
      obtain ⟨c', _, q⟩ := down c hc
      exact h c' q
    · refine .inr ⟨e, up _ h, fun c hc => ?_⟩
      obtain ⟨c', hle, q⟩ := down c hc
      have := h2 c' q
      omega
/-- a beginning in one state -/
def unitV (n i : Nat) : List Int := (List.range n).map fun j => if j = i then 0 else -1
theorem unit_is {n i : Nat} : IsV n 0 (unitV n i) := by
  refine ⟨by unfold unitV; rw [List.length_map, List.length_range], fun x hx => ?_⟩
  obtain ⟨j, _, rfl⟩ := List.mem_map.mp hx
  split <;> omega
theorem vAt_unit {n i s : Nat} (h : vAt (unitV n i) s ≠ -1) : s = i ∧ vAt (unitV n i) s = 0 := by
  have hs := vAt_lt h
  have hl : s < n := by have := (unit_is (n := n) (i := i)).1; omega
  unfold vAt unitV at h ⊢
  rw [List.getElem?_map, List.getElem?_range hl, Option.map_some, Option.getD_some] at h ⊢
  by_cases e : s = i
  · rw [if_pos e]; exact ⟨e, rfl⟩
  · rw [if_neg e] at h; exact absurd rfl h
theorem vAt_unit_self {n i : Nat} (h : i < n) : vAt (unitV n i) i = 0 := by
  unfold vAt unitV
  rw [List.getElem?_map, List.getElem?_range h, Option.map_some, Option.getD_some, if_pos rfl]
theorem run_unit {n : Nat} {S : Mv} (hS : RowsB n S) {ls : List Nat} {i a : Nat} (hi : i < n) (ha : a < n) : IsLow (path S ls i a) (vAt (runV S ls (unitV n i)) a) := by
  refine (run_low hS unit_is (by decide) ha).congr fun c => ⟨?_, fun h => ⟨i, c, by rw [vAt_unit_self hi]; decide, h, by rw [vAt_unit_self hi]; omega⟩⟩
  rintro ⟨s, d, h1, h2, rfl⟩
  obtain ⟨e1, e2⟩ := vAt_unit h1
  subst e1
  rw [e2, Int.zero_add]; exact h2
/-- the column of a chart -/
def colV (n : Nat) (S : Mv) (ls : List Nat) (a : Nat) : List Int := (List.range n).map fun i => vAt (runV S ls (unitV n i)) a
theorem col_at {n : Nat} {S : Mv} {ls : List Nat} {a i : Nat} {y : Int} (h : (colV n S ls a)[i]? = some y) : i < n ∧ y = vAt (runV S ls (unitV n i)) a := by
  unfold colV at h
  have hi := (List.getElem?_eq_some_iff.mp h).1
  rw [List.length_map, List.length_range] at hi
  rw [List.getElem?_map, List.getElem?_range hi] at h
  cases h
  exact ⟨hi, rfl⟩
/-- letters behind a row of fares are the row by the chart's columns -/
theorem run_by_chart {n : Nat} {S : Mv} (hS : RowsB n S) {ls : List Nat} {b : Int} {f : List Int} {a : Nat} (hf : IsV n b f) (hb : -1 ≤ b) (ha : a < n) : low (sums2 f (colV n S ls a)) = vAt (runV S ls f) a := by
  refine IsLow.uniq (P := fun c => ∃ s d, vAt f s ≠ -1 ∧ path S ls s a d ∧ c = vAt f s + d) ?_ (run_low hS hf hb ha)
  have pos : ∀ y ∈ sums2 f (colV n S ls a), 0 ≤ y := fun y hy => by
    obtain ⟨k, x, z, h1, h2, h3, h4, rfl⟩ := sums2_mem.mp hy
    obtain ⟨hk, rfl⟩ := col_at h2
    have hx := hf.2 x (List.mem_of_getElem? h1)
    rcases run_unit hS (ls := ls) hk ha with ⟨q, _⟩ | ⟨q, _⟩
    · exact absurd q h4
    · omega
  have up : ∀ c, c ∈ sums2 f (colV n S ls a) → ∃ s d, vAt f s ≠ -1 ∧ path S ls s a d ∧ c = vAt f s + d := fun c hc => by
    obtain ⟨k, x, z, h1, h2, h3, h4, rfl⟩ := sums2_mem.mp hc
    obtain ⟨hk, rfl⟩ := col_at h2
    have ex : vAt f k = x := by unfold vAt; rw [h1]; rfl
    rcases run_unit hS (ls := ls) hk ha with ⟨q, _⟩ | ⟨_, q, _⟩
    · exact absurd q h4
    · exact ⟨k, _, by rw [ex]; exact h3, q, by rw [ex]⟩
  have down : ∀ c, (∃ s d, vAt f s ≠ -1 ∧ path S ls s a d ∧ c = vAt f s + d) → ∃ c', c' ≤ c ∧ c' ∈ sums2 f (colV n S ls a) := by
    rintro c ⟨s, d, h1, h2, rfl⟩
    have hs := vAt_lt h1
    have hsn : s < n := by rw [← hf.1]; exact hs
    rcases run_unit hS (ls := ls) hsn ha with ⟨_, q⟩ | ⟨q0, _, q2⟩
    · exact absurd h2 (q d)
    · refine ⟨vAt f s + vAt (runV S ls (unitV n s)) a, by have := q2 d h2; omega, sums2_mem.mpr ⟨s, vAt f s, _, ?_, ?_, h1, by omega, rfl⟩⟩
      · unfold vAt; rw [List.getElem?_eq_getElem hs]; rfl
      · unfold colV; rw [List.getElem?_map, List.getElem?_range hsn]; rfl
  rcases low_is_low pos with ⟨e, h⟩ | ⟨e, h, h2⟩
  · refine .inl ⟨e, fun c hc => ?_⟩
    obtain ⟨c', _, q⟩ := down c hc
    exact h c' q
  · refine .inr ⟨e, up _ h, fun c hc => ?_⟩
    obtain ⟨c', hle, q⟩ := down c hc
    have := h2 c' q
    omega
end FM

set_option Elab.async false
set_option linter.all false
set_option maxRecDepth 100000
namespace FM
theorem sums2_vAt {f z : List Int} {c : Int} : c ∈ sums2 f z ↔ ∃ a, vAt f a ≠ -1 ∧ vAt z a ≠ -1 ∧ c = vAt f a + vAt z a := by
  constructor
  · intro h
    obtain ⟨k, x, y, h1, h2, h3, h4, rfl⟩ := sums2_mem.mp h
    have e1 : vAt f k = x := by unfold vAt; rw [h1]; rfl
    have e2 : vAt z k = y := by unfold vAt; rw [h2]; rfl
    exact ⟨k, by rw [e1]; exact h3, by rw [e2]; exact h4, by rw [e1, e2]⟩
  · rintro ⟨a, h1, h2, rfl⟩
    have l1 := vAt_lt h1
    have l2 := vAt_lt h2
    exact sums2_mem.mpr ⟨a, vAt f a, vAt z a, by unfold vAt; rw [List.getElem?_eq_getElem l1]; rfl, by unfold vAt; rw [List.getElem?_eq_getElem l2]; rfl, h1, h2, rfl⟩
theorem end_low {n : Nat} {b c : Int} {f z : List Int} (hf : IsV n b f) (hz : IsV n c z) : IsLow (fun x => ∃ a, vAt f a ≠ -1 ∧ vAt z a ≠ -1 ∧ x = vAt f a + vAt z a) (endV f z) := by
  refine (low_is_low (xs := sums2 f z) fun y hy => ?_).congr fun x => sums2_vAt
  obtain ⟨a, h1, h2, rfl⟩ := sums2_vAt.mp hy
  have := vAt_pos hf h1
  have := vAt_pos hz h2
  omega
/-- what is left from each state, by letters and the last fares -/
def endsV (n : Nat) (S : Mv) (ls : List Nat) (z : List Int) : List Int := (List.range n).map fun i => endV (runV S ls (unitV n i)) z
theorem ends_at {n : Nat} {S : Mv} {ls : List Nat} {z : List Int} {i : Nat} (h : i < n) : vAt (endsV n S ls z) i = endV (runV S ls (unitV n i)) z := by
  unfold vAt endsV
  rw [List.getElem?_map, List.getElem?_range h]; rfl
theorem ends_lt {n : Nat} {S : Mv} {ls : List Nat} {z : List Int} {i : Nat} (h : vAt (endsV n S ls z) i ≠ -1) : i < n := by
  have := vAt_lt h
  unfold endsV at this
  rw [List.length_map, List.length_range] at this
  exact this
theorem unit_end {n : Nat} {S : Mv} {c : Int} {ls : List Nat} {z : List Int} (hS : RowsB n S) (hz : IsV n c z) {i : Nat} (hi : i < n) : IsLow (fun x => ∃ a d, path S ls i a d ∧ vAt z a ≠ -1 ∧ x = d + vAt z a) (endV (runV S ls (unitV n i)) z) := by
  have hv := runV_is hS (ls := ls) (unit_is (n := n) (i := i)) (by decide)
  have hl : ∀ a, vAt z a ≠ -1 → a < n := fun a h => by have := vAt_lt h; rw [hz.1] at this; exact this
  rcases end_low hv hz with ⟨e, h⟩ | ⟨e, ⟨a, h1, h2, h3⟩, h4⟩
  · refine .inl ⟨e, fun x ⟨a, d, g1, g2, g3⟩ => ?_⟩
    have := vAt_pos hz g2
    rcases run_unit hS (ls := ls) hi (hl a g2) with ⟨_, q⟩ | ⟨q0, _, _⟩
    · exact q d g1
    · exact h _ ⟨a, by omega, g2, rfl⟩
  · refine .inr ⟨e, ?_, fun x ⟨a', d, g1, g2, g3⟩ => ?_⟩
    · rcases run_unit hS (ls := ls) hi (hl a h2) with ⟨q, _⟩ | ⟨_, q, _⟩
      · exact absurd q h1
      · exact ⟨a, _, q, h2, h3⟩
    · rcases run_unit hS (ls := ls) hi (hl a' g2) with ⟨_, q⟩ | ⟨q0, q, q2⟩
      · exact absurd g1 (q d)
      · have r1 := h4 _ ⟨a', by omega, g2, rfl⟩
        have r2 := q2 d g1
        omega
theorem end_by_chart {n : Nat} {S : Mv} {b c : Int} {ls : List Nat} {f z : List Int} (hS : RowsB n S) (hf : IsV n b f) (hb : -1 ≤ b) (hz : IsV n c z) : endV f (endsV n S ls z) = endV (runV S ls f) z := by
  refine IsLow.uniq (P := fun x => ∃ s a d, vAt f s ≠ -1 ∧ path S ls s a d ∧ vAt z a ≠ -1 ∧ x = vAt f s + d + vAt z a) ?_ ?_
  · have hn : ∀ s, vAt f s ≠ -1 → s < n := fun s h => by have := vAt_lt h; rw [hf.1] at this; exact this
    have pos : ∀ y ∈ sums2 f (endsV n S ls z), 0 ≤ y := fun y hy => by
      obtain ⟨a, h1, h2, rfl⟩ := sums2_vAt.mp hy
      have ha := ends_lt h2
      rw [ends_at ha] at h2 ⊢
      have := vAt_pos hf h1
      rcases unit_end (ls := ls) hS hz ha with ⟨q, _⟩ | ⟨q, _⟩
      · exact absurd q h2
      · omega
    rcases low_is_low pos with ⟨e, h⟩ | ⟨e, h, h2⟩
    · refine .inl ⟨e, fun x ⟨s, a, d, g1, g2, g3, g4⟩ => ?_⟩
      have hs := hn s g1
      rcases unit_end (ls := ls) hS hz hs with ⟨_, q⟩ | ⟨q0, _, _⟩
      · exact q _ ⟨a, d, g2, g3, rfl⟩
      · exact h _ (sums2_vAt.mpr ⟨s, g1, by rw [ends_at hs]; omega, rfl⟩)
    · refine .inr ⟨e, ?_, fun x ⟨s, a, d, g1, g2, g3, g4⟩ => ?_⟩
      · obtain ⟨s, g1, g2, g3⟩ := sums2_vAt.mp h
        have hs := ends_lt g2
        rw [ends_at hs] at g2 g3
        rcases unit_end (ls := ls) hS hz hs with ⟨q, _⟩ | ⟨_, ⟨a, d, q1, q2, q3⟩, _⟩
        · exact absurd q g2
        · exact ⟨s, a, d, g1, q1, q2, by show low (sums2 f (endsV n S ls z)) = _; omega⟩
      · have hs := hn s g1
        rcases unit_end (ls := ls) hS hz hs with ⟨_, q⟩ | ⟨q0, _, q2⟩
        · exact absurd ⟨a, d, g2, g3, rfl⟩ (q (d + vAt z a))
        · have r1 := h2 _ (sums2_vAt.mpr ⟨s, g1, by rw [ends_at hs]; omega, rfl⟩)
          rw [ends_at hs] at r1
          have r2 := q2 _ ⟨a, d, g2, g3, rfl⟩
          show low (sums2 f (endsV n S ls z)) ≤ x
          omega
  · have hv := runV_is hS (ls := ls) hf hb
    have hl : ∀ a, vAt z a ≠ -1 → a < n := fun a h => by have := vAt_lt h; rw [hz.1] at this; exact this
    rcases end_low hv hz with ⟨e, h⟩ | ⟨e, ⟨a, h1, h2, h3⟩, h4⟩
    · refine .inl ⟨e, fun x ⟨s, a, d, g1, g2, g3, g4⟩ => ?_⟩
      rcases run_low hS (ls := ls) hf hb (hl a g3) with ⟨_, q⟩ | ⟨q0, _, _⟩
      · exact q _ ⟨s, d, g1, g2, rfl⟩
      · exact h _ ⟨a, by omega, g3, rfl⟩
    · refine .inr ⟨e, ?_, fun x ⟨s, a', d, g1, g2, g3, g4⟩ => ?_⟩
      · rcases run_low hS (ls := ls) hf hb (hl a h2) with ⟨q, _⟩ | ⟨_, ⟨s, d, q1, q2, q3⟩, _⟩
        · exact absurd q h1
        · exact ⟨s, a, d, q1, q2, h2, by rw [h3, q3]⟩
      · rcases run_low hS (ls := ls) hf hb (hl a' g3) with ⟨_, q⟩ | ⟨q0, _, q2⟩
        · exact absurd ⟨s, d, g1, g2, rfl⟩ (q (vAt f s + d))
        · have r1 := h4 _ ⟨a', by omega, g3, rfl⟩
          have r2 := q2 _ ⟨s, d, g1, g2, rfl⟩
          omega
end FM

set_option Elab.async false
set_option linter.all false
set_option maxRecDepth 100000
/-! whether trees are equal -/
namespace FM
open PySem PySem.Spec PyProof.Rows L2
mutual
/-- what can be laid beside another one to compare -/
def layD : D → Bool
  | .int _ => true
  | .str s => s.cps.all fun c => decide (c < 0x110000)
  | .tup xs => layL xs
  | .lst _ xs => layL xs
  | .non => true
  | .bl _ => true
  | .cls _ => false
  | .scr _ => false
  | .exc _ _ => false
  | .txs ks => ks.all fun s => s.cps.all fun c => decide (c < 0x110000)
  | .rng _ _ => false
def layL : List D → Bool
  | [] => true
  | x :: xs => layD x && layL xs
end
def pyD (d : D) : PyData := (toPy d).getD .none
theorem can_strs : ∀ ks : List Str, (ks.all fun s => s.cps.all fun c => decide (c < 0x110000)) = true → PyData.canLayAll0 (ks.map PyData.str) = true ∧ PyData.depthAll (ks.map PyData.str) = 0
  | [], _ => ⟨rfl, rfl⟩
  | k :: ks, h => by
    rw [List.all_cons, Bool.and_eq_true] at h
    have o := can_strs ks h.2
    refine ⟨?_, ?_⟩
    · rw [List.map_cons]
      simp only [PyData.canLayAll0, PyData.canLay0, o.1, Bool.and_true]
      exact h.1
    · rw [List.map_cons]
      simp only [PyData.depthAll, PyData.depth, o.2]; rfl
mutual
theorem lay_ok : ∀ d : D, layD d = true → ∃ p, toPy d = some p ∧ p.canLay0 = true ∧ p.depth ≤ dpD d
  | .non, _ => ⟨_, rfl, rfl, Nat.le_refl _⟩
  | .bl _, _ => ⟨_, rfl, rfl, Nat.le_refl _⟩
  | .int i, h => ⟨_, rfl, by simp only [PyData.canLay0], Nat.le_refl _⟩
  | .str s, h => ⟨_, rfl, by simp only [layD] at h; simp only [PyData.canLay0]; exact h, Nat.le_refl _⟩
  | .tup xs, h => by
    obtain ⟨p, e, o, q⟩ := lays_ok xs (by simpa only [layD] using h)
    exact ⟨.tuple p, by simp only [toPy, e, Option.map_some], by simpa only [PyData.canLay0] using o, by simp only [PyData.depth, dpD]; omega⟩
  | .lst _ xs, h => by
    obtain ⟨p, e, o, q⟩ := lays_ok xs (by simpa only [layD] using h)
    exact ⟨.list p, by simp only [toPy, e, Option.map_some], by simpa only [PyData.canLay0] using o, by simp only [PyData.depth, dpD]; omega⟩
  | .cls _, h => by simp [layD] at h
  | .scr _, h => by simp [layD] at h
  | .exc _ _, h => by simp [layD] at h
  | .txs ks, h => by
    have o := can_strs ks (by simpa only [layD] using h)
    exact ⟨_, rfl, by simpa only [PyData.canLay0] using o.1, by simp only [PyData.depth, dpD, o.2]; omega⟩
  | .rng _ _, h => by simp [layD] at h
theorem lays_ok : ∀ xs : List D, layL xs = true → ∃ p, toPys xs = some p ∧ PyData.canLayAll0 p = true ∧ PyData.depthAll p ≤ dpL xs
  | [], _ => ⟨[], rfl, rfl, Nat.le_refl _⟩
  | x :: xs, h => by
    simp only [layL, Bool.and_eq_true] at h
    obtain ⟨p, e, o, q⟩ := lay_ok x h.1
    obtain ⟨ps, e2, o2, q2⟩ := lays_ok xs h.2
    exact ⟨p :: ps, by simp only [toPys, e, e2], by simp only [PyData.canLayAll0, o, o2, Bool.and_self], by simp only [PyData.depthAll, dpL]; omega⟩
end
theorem eqA_some {p : Bool → Bool} {d e z : D} (h : gEqA p d e = some z) : z = .bl (p (PyData.eqv (pyD d) (pyD e))) := by
  unfold gEqA at h
  split at h
  · cases h
    rename_i i j
    show D.bl (p (decide (i = j))) = .bl (p (i == j))
    rfl
  · cases h
    rename_i i j
    show D.bl (p (decide (i = j))) = .bl (p (i == j))
    by_cases q : i = j
    · subst q; simp
    · rw [decide_eq_false q, beq_eq_false_iff_ne.mpr q]
  · cases h
    rename_i i j
    show D.bl (p (decide (i = j))) = .bl (p (i == j))
    rfl
  · cases h
theorem eqD_lay {p : Bool → Bool} {d e : D} (h : layD d = true) (h2 : layD e = true) (hd : dpD d ≤ 64) (he : dpD e ≤ 64) : gEqD p d e = some (.bl (p (PyData.eqv (pyD d) (pyD e)))) := by
  obtain ⟨x, e1, o1, q1⟩ := lay_ok d h
  obtain ⟨y, e2, o2, q2⟩ := lay_ok e h2
  unfold gEqD pyD
  rw [e1, e2]
  have s1 : SeqAt.shaped x = true := by unfold SeqAt.shaped; rw [o1, decide_eq_true (by omega)]; rfl
  have s2 : SeqAt.shaped y = true := by unfold SeqAt.shaped; rw [o2, decide_eq_true (by omega)]; rfl
  show (if _ then _ else _) = _
  rw [if_pos ⟨s1, s2⟩]; rfl
theorem orEq {p : Bool → Bool} {d e : D} (h : layD d = true) (h2 : layD e = true) (hd : dpD d ≤ 64) (he : dpD e ≤ 64) : orG (gEqA p) (gEqD p) d e = some (.bl (p (PyData.eqv (pyD d) (pyD e)))) := by
  unfold orG
  cases ez : gEqA p d e with
  | some z => exact congrArg some (eqA_some ez)
  | none => exact eqD_lay h h2 hd he
theorem uEq_lay {d e : D} (h : layD d = true) (h2 : layD e = true) (hd : dpD d ≤ 64) (he : dpD e ≤ 64) : uEq d e = some (.bl (PyData.eqv (pyD d) (pyD e))) := orEq h h2 hd he
theorem uNe_lay {d e : D} (h : layD d = true) (h2 : layD e = true) (hd : dpD d ≤ 64) (he : dpD e ≤ 64) : uNe d e = some (.bl (!PyData.eqv (pyD d) (pyD e))) := orEq (p := not) h h2 hd he
/-- an encoding that keeps what differs apart -/
structure Enc {α : Type} [DecidableEq α] (f : α → D) (p : α → PyData) : Prop where
  e : ∀ x, toPy (f x) = some (p x)
  i : ∀ x y, PyData.eqv (p x) (p y) = decide (x = y)
theorem Enc.int : Enc D.int PyData.int := ⟨fun _ => rfl, fun x y => rfl⟩
theorem Enc.str : Enc D.str PyData.str := ⟨fun _ => rfl, fun x y => by
  show (x == y) = _
  by_cases q : x = y
  · subst q; simp
  · rw [decide_eq_false q, beq_eq_false_iff_ne.mpr q]⟩
theorem eqv_map {α : Type} [DecidableEq α] {p : α → PyData} (h : ∀ x y, PyData.eqv (p x) (p y) = decide (x = y)) : ∀ xs ys : List α, PyData.eqvAll (xs.map p) (ys.map p) = decide (xs = ys)
  | [], [] => by simp [PyData.eqvAll]
  | [], _ :: _ => by simp [PyData.eqvAll]
  | _ :: _, [] => by simp [PyData.eqvAll]
  | x :: xs, y :: ys => by
    rw [List.map_cons, List.map_cons]
    simp only [PyData.eqvAll, h x y, eqv_map h xs ys]
    by_cases q : x = y
    · subst q
      by_cases q2 : xs = ys
      · subst q2; simp
      · simp [q2]
    · simp [q]
theorem toPys_map {α : Type} {f : α → D} {p : α → PyData} (h : ∀ x, toPy (f x) = some (p x)) : ∀ xs : List α, toPys (xs.map f) = some (xs.map p)
  | [] => rfl
  | x :: xs => by
    rw [List.map_cons]
    simp only [toPys, h x, toPys_map h xs, List.map_cons]
theorem Enc.tup {α : Type} [DecidableEq α] {f : α → D} {p : α → PyData} (h : Enc f p) : Enc (fun xs : List α => D.tup (xs.map f)) (fun xs => .tuple (xs.map p)) :=
  ⟨fun xs => by simp only [toPy, toPys_map h.e, Option.map_some], fun xs ys => by simp only [PyData.eqv]; exact eqv_map h.i xs ys⟩
theorem Enc.lst {α : Type} [DecidableEq α] {f : α → D} {p : α → PyData} (h : Enc f p) (o : Bool) : Enc (fun xs : List α => D.lst o (xs.map f)) (fun xs => .list (xs.map p)) :=
  ⟨fun xs => by simp only [toPy, toPys_map h.e, Option.map_some], fun xs ys => by simp only [PyData.eqv]; exact eqv_map h.i xs ys⟩
theorem Enc.pair {α β : Type} [DecidableEq α] [DecidableEq β] {f : α → D} {p : α → PyData} {g : β → D} {q : β → PyData} (h : Enc f p) (h2 : Enc g q) : Enc (fun z : α × β => D.tup [f z.1, g z.2]) (fun z => .tuple [p z.1, q z.2]) :=
  ⟨fun z => by simp only [toPy, toPys, h.e, h2.e, Option.map_some], fun z w => by
    simp only [PyData.eqv, PyData.eqvAll, h.i, h2.i, Bool.and_true]
    by_cases e1 : z.1 = w.1
    · by_cases e2 : z.2 = w.2
      · have : z = w := Prod.ext e1 e2
        subst this; simp
      · rw [decide_eq_false e2, Bool.and_false, decide_eq_false (fun e => e2 (by rw [e]))]
    · rw [decide_eq_false e1, Bool.false_and, decide_eq_false (fun e => e1 (by rw [e]))]⟩
theorem Enc.tsD : Enc FM.tsD (fun ks => .tuple (ks.map .str)) := ⟨fun ks => by cases ks <;> rfl, fun xs ys => by simp only [PyData.eqv]; exact eqv_map Enc.str.i xs ys⟩
theorem Enc.eq {α : Type} [DecidableEq α] {f : α → D} {p : α → PyData} (h : Enc f p) {x y : α} (h1 : layD (f x) = true) (h2 : layD (f y) = true) (hd : dpD (f x) ≤ 64) (he : dpD (f y) ≤ 64) : uEq (f x) (f y) = some (.bl (decide (x = y))) := by
  rw [uEq_lay h1 h2 hd he]
  unfold pyD
  rw [h.e, h.e]
  exact congrArg (fun b => some (D.bl b)) (h.i x y)
theorem Enc.ne {α : Type} [DecidableEq α] {f : α → D} {p : α → PyData} (h : Enc f p) {x y : α} (h1 : layD (f x) = true) (h2 : layD (f y) = true) (hd : dpD (f x) ≤ 64) (he : dpD (f y) ≤ 64) : uNe (f x) (f y) = some (.bl (!decide (x = y))) := by
  rw [uNe_lay h1 h2 hd he]
  unfold pyD
  rw [h.e, h.e]
  exact congrArg (fun b => some (D.bl (!b))) (h.i x y)
theorem layL_iff {xs : List D} : layL xs = true ↔ ∀ x ∈ xs, layD x = true := by
  induction xs with
  | nil => simp [layL]
  | cons x xs ih => simp [layL, ih]
theorem layL_map {α : Type} {f : α → D} {xs : List α} (h : ∀ x ∈ xs, layD (f x) = true) : layL (xs.map f) = true := by
  rw [layL_iff]; intro x hx
  obtain ⟨y, hy, e⟩ := List.mem_map.mp hx
  rw [← e]; exact h y hy
mutual
theorem lay_of_ok : ∀ {d : D}, layD d = true → layD (frz d) = true
  | .tup xs, h => by simp only [layD, frz] at *; exact lays_of_ok h
  | .lst _ xs, h => by simp only [layD, frz] at *; exact lays_of_ok h
  | .non, _ => rfl
  | .bl _, _ => rfl
  | .int _, _ => rfl
  | .str _, h => h
  | .txs _, h => h
  | .cls _, h => by simp [layD] at h
  | .scr _, h => by simp [layD] at h
  | .exc _ _, h => by simp [layD] at h
  | .rng _ _, h => by simp [layD] at h
theorem lays_of_ok : ∀ {xs : List D}, layL xs = true → layL (frzL xs) = true
  | [], _ => rfl
  | x :: xs, h => by
    simp only [layL, frzL, Bool.and_eq_true] at *
    exact ⟨lay_of_ok h.1, lays_of_ok h.2⟩
end
/-- lists of texts -/
theorem neTx {o p : Bool} {xs ys : List Str} (h : (xs.all fun s => s.cps.all fun c => decide (c < 0x110000)) = true) (h2 : (ys.all fun s => s.cps.all fun c => decide (c < 0x110000)) = true) : uNe (.lst o (xs.map D.str)) (.lst p (ys.map D.str)) = some (.bl (!decide (xs = ys))) := by
  have lay : ∀ (o : Bool) (zs : List Str), (zs.all fun s => s.cps.all fun c => decide (c < 0x110000)) = true → layD (.lst o (zs.map D.str)) = true := fun o zs hz => by
    simp only [layD]
    exact layL_map fun s hs => by simp only [layD]; exact List.all_eq_true.mp hz s hs
  have dp : ∀ (o : Bool) (zs : List Str), dpD (.lst o (zs.map D.str)) ≤ 64 := fun o zs => by
    simp only [dpD]
    have := dpL_map (f := D.str) (B := 0) (xs := zs) fun x _ => Nat.le_refl _
    omega
  rw [uNe_lay (lay o xs h) (lay p ys h2) (dp o xs) (dp p ys)]
  unfold pyD
  rw [(Enc.str.lst o).e xs, (Enc.str.lst p).e ys]
  exact congrArg (fun b => some (D.bl (!b))) (by simp only [Option.getD_some, PyData.eqv]; exact eqv_map Enc.str.i xs ys)
end FM

set_option Elab.async false
set_option linter.all false
set_option maxRecDepth 100000
namespace K16
open PySem PySem.Spec PyProof.Rows L2 FM
def topS (i : Nat) : Stmt := PySem.Challenge.pw_faremachines_k16_charts_of_logs.main.body.getD i (.Pass ⟨0, 0, 0, 0⟩)
def isaTab : List (Str × List (Str × Bool)) := [(("FareError" : Str), [(("FareError" : Str), true), (("NotAllowed" : Str), false), (("TooLarge" : Str), false), (("Missing" : Str), false), (("BadPaper" : Str), false), (("BadForm" : Str), false)]), (("NotAllowed" : Str), [(("FareError" : Str), true), (("NotAllowed" : Str), true), (("TooLarge" : Str), false), (("Missing" : Str), false), (("BadPaper" : Str), false), (("BadForm" : Str), false)]), (("TooLarge" : Str), [(("FareError" : Str), true), (("NotAllowed" : Str), false), (("TooLarge" : Str), true), (("Missing" : Str), false), (("BadPaper" : Str), false), (("BadForm" : Str), false)]), (("Missing" : Str), [(("FareError" : Str), true), (("NotAllowed" : Str), false), (("TooLarge" : Str), false), (("Missing" : Str), true), (("BadPaper" : Str), false), (("BadForm" : Str), false)]), (("BadPaper" : Str), [(("FareError" : Str), true), (("NotAllowed" : Str), false), (("TooLarge" : Str), false), (("Missing" : Str), false), (("BadPaper" : Str), true), (("BadForm" : Str), false)])]
def isaT (x y : Str) : Option Bool := (isaTab.lookup x).bind fun l => l.lookup y
structure Fa (K : PySem.W.Frag) (mg : Str → Option Value) (fa : Nat → Addr) (fd : Nat → FuncData) : Prop where
  m_abs : mg "abs" = none
  m_all : mg "all" = none
  m_enumerate : mg "enumerate" = none
  m_int : mg "int" = none
  m_isinstance : mg "isinstance" = none
  m_len : mg "len" = none
  m_min : mg "min" = none
  m_range : mg "range" = none
  m_repr : mg "repr" = none
  m_sum : mg "sum" = none
  m_tuple : mg "tuple" = none
  m_zip : mg "zip" = none
  c_MAX_LOG : ∃ t, mg "MAX_LOG" = some (.int (400) t)
  c_NONE : ∃ t, mg "NONE" = some (.int (-1) t)
  isa : IsaK K mg isaT
  k_BadForm : ∃ C, mg "BadForm" = some (.ref C)
  k_BadPaper : ∃ C, mg "BadPaper" = some (.ref C)
  k_Missing : ∃ C, mg "Missing" = some (.ref C)
  k_NotAllowed : ∃ C, mg "NotAllowed" = some (.ref C)
  k_TooLarge : ∃ C, mg "TooLarge" = some (.ref C)
  y_FareError : ∃ C, mg "FareError" = some (.ref C) ∧ CatchK K mg (.ref C) (fun x => isaT x ("FareError" : Str))
  e_NotAllowed : ErrK K mg "NotAllowed"
  d9 : DefK K mg "is_log" (topS 9) ["letters", "log"] (fa 9) (fd 9)
  d10 : DefK K mg "check_log" (topS 10) ["letters", "log"] (fa 10) (fd 10)
  d13 : DefK K mg "row_by" (topS 13) ["machine", "state", "letter"] (fa 13) (fd 13)
  d14 : DefK K mg "least_of" (topS 14) ["sums"] (fa 14) (fd 14)
  d15 : DefK K mg "fares_after" (topS 15) ["machine", "fares", "letter"] (fa 15) (fd 15)
  d16 : DefK K mg "rows_behind" (topS 16) ["machine", "fares", "log"] (fa 16) (fd 16)
  d17 : DefK K mg "least_sum" (topS 17) ["fares", "others"] (fa 17) (fd 17)
  d19 : DefK K mg "chart_of" (topS 19) ["machine", "log"] (fa 19) (fd 19)
  d20 : DefK K mg "product" (topS 20) ["first", "second"] (fa 20) (fd 20)
  d21 : DefK K mg "fare_by_chart" (topS 21) ["machine", "chart"] (fa 21) (fd 21)
  d23 : DefK K mg "_law_same" (topS 23) ["told", "due"] (fa 23) (fd 23)
  d24 : DefK K mg "_law_stream" (topS 24) ["script"] (fa 24) (fd 24)
  d25 : DefK K mg "_law_next" (topS 25) ["state", "many"] (fa 25) (fd 25)
  d26 : DefK K mg "_law_word" (topS 26) ["state", "taken"] (fa 26) (fd 26)
  d27 : DefK K mg "_law_letters" (topS 27) ["state", "many"] (fa 27) (fd 27)
  d28 : DefK K mg "_law_fare" (topS 28) ["state", "most"] (fa 28) (fd 28)
  d29 : DefK K mg "_law_machine" (topS 29) ["state", "letters", "many", "most", "thick"] (fa 29) (fd 29)
  d30 : DefK K mg "_law_log" (topS 30) ["state", "letters", "many"] (fa 30) (fd 30)
  d31 : DefK K mg "_law_row" (topS 31) ["machine", "fares", "letter"] (fa 31) (fd 31)
  d32 : DefK K mg "_law_behind" (topS 32) ["machine", "log"] (fa 32) (fd 32)
  d33 : DefK K mg "_law_ended" (topS 33) ["machine", "fares"] (fa 33) (fd 33)
  d34 : DefK K mg "_law_fare_of" (topS 34) ["machine", "log"] (fa 34) (fd 34)
  d35 : DefK K mg "_law_error" (topS 35) ["e"] (fa 35) (fd 35)
  d36 : DefK K mg "_law_chart" (topS 36) ["machine", "log"] (fa 36) (fd 36)
  d37 : DefK K mg "_law_some_machine" (topS 37) ["state", "most"] (fa 37) (fd 37)
  d38 : DefK K mg "_law_told" (topS 38) ["way", "machine", "thing"] (fa 38) (fd 38)
  d39 : DefK K mg "law" (topS 39) ["script"] (fa 39) (fd 39)
section
variable {P : Program} {w : World} {K : PySem.W.Frag} {mg : Str → Option Value} {base : Heap} {fa : Nat → Addr} {fd : Nat → FuncData}
theorem sc_is_log : FnScope ["letters", "log", "letter"] ["letters", "log"] (defScope (topS 9)) := ⟨rfl, rfl, rfl, by decide +kernel, rfl, by decide +kernel, by decide +kernel⟩
def tb_is_log : DS := (dRet (deAnd (dOp uLe (dCl gLen (daCons (dWk (dVarB 1)) daNil)) (dC (.int (400)))) (dCl gAll (daCons (dComp (diAny (dVarU 1)) [2] (dgName 2) dtYes (dOp uIn (dVarB 2) (dWk (dVarB 0)))) daNil))))
def fs_is_log : FSpec := fsOf 2 [] 3 tb_is_log
set_option maxHeartbeats 4000000 in
theorem fn_is_log (h : Fa K mg fa fd) : FnG P w K mg base 1 (fa 9) (fd 9) ["letters", "log"] (spOf K mg fs_is_log) :=
  fnG_of h.d9 sc_is_log rfl fun cdv A outer s H E hr hgd =>
    (ss_one (s_ret (SE.toQ (se_and (SE.sb (se_cmp ou_le (SE.sb (se_callB oc_len (by rfl) h.m_len PySem.boot_len (sl_cons (SB.wk (sb_var (pv 1))) sl_nil))) (SE.sb (se_gIntE (by rfl) h.c_MAX_LOG)) (by rfl))) (se_one (se_callB oc_all (by rfl) h.m_all (by decide +kernel) (sl_cons (SE.sb (SE.toQ (se_compK rfl sc_is_log.nd (si_all (se_varU (pv 1) (show (1 : Nat) ∉ ([] : List Nat) by decide))) (blkOk_by (N := [("letters" : Str), ("log" : Str), ("letter" : Str)]) (sc := defScope (topS 9)) (own := [(("letter" : Str), 2)]) (by decide +kernel)) rfl (fun _ _ _ _ _ => (sg_name (i := 2) sc_is_log.nd rfl (by first | exact Or.inl rfl | exact Or.inr rfl) (show (2 : Nat) ∉ ([] : List Nat) by decide))) (fun _ _ _ _ _ => sts_nil) (fun _ _ _ _ _ => (se_cmp ou_in (sb_var (pv 2)) (SB.wk (sb_var (pv 0))) (by rfl))) (by decide) (show ∀ i ∈ ([2] : List Nat), i ∉ ([] : List Nat) by decide)) rfl)) sl_nil)))) rfl)))
theorem sc_check_log : FnScope ["letters", "log"] ["letters", "log"] (defScope (topS 10)) := ⟨rfl, rfl, rfl, by decide +kernel, rfl, by decide +kernel, by decide +kernel⟩
def tb_check_log : DS := (dIfS (dtNot (dtTru (dCall fs_is_log (dkB 0 (dkB 1 dkNil)))))
      (dRaise ("NotAllowed" : Str))
      dNext)
def fs_check_log : FSpec := fsOf 2 [] 2 tb_check_log
set_option maxHeartbeats 4000000 in
theorem fn_check_log (h : Fa K mg fa fd) : FnG P w K mg base 2 (fa 10) (fd 10) ["letters", "log"] (spOf K mg fs_check_log) :=
  fnG_of h.d10 sc_check_log rfl fun cdv A outer s H E hr hgd =>
    (ss_one (s_if (st_not (st_tru (SE.sb (SE.toQ (se_call ((fn_is_log h).mono (by decide)) hr hgd (by rfl) h.d9.gl h.d9.fn.kp h.d9.bi psD (sk_b (pv 0) (sk_b (pv 1) sk_nil))) rfl))))
      (ss_one (s_raiseK h.e_NotAllowed rfl tkD (by rfl)))
      ss_nil))
theorem sc_row_by : FnScope ["machine", "state", "letter"] ["machine", "state", "letter"] (defScope (topS 13)) := ⟨rfl, rfl, rfl, by decide +kernel, rfl, by decide +kernel, by decide +kernel⟩
def tb_row_by : DS := (dRet (dIx (dWk (dIxB (dWk (dIxB (dWk (dVarB 0)) (dC (.int (2))))) (dVarB 1))) (FM.orE (dMt isTx gIdxT (dIxB (dWk (dVarB 0)) (dC (.int (0)))) (daCons (dVarB 2) daNil)) (dMt isLs gIdxL (dIxB (dWk (dVarB 0)) (dC (.int (0)))) (daCons (dVarB 2) daNil)))))
def fs_row_by : FSpec := fsOf 3 [] 3 tb_row_by
set_option maxHeartbeats 4000000 in
theorem fn_row_by (h : Fa K mg fa fd) : FnG P w K mg base 1 (fa 13) (fd 13) ["machine", "state", "letter"] (spOf K mg fs_row_by) :=
  fnG_of h.d13 sc_row_by rfl fun cdv A outer s H E hr hgd =>
    (ss_one (s_ret (se_ix (SB.wk (sb_ix (SB.wk (sb_ix (SB.wk (sb_var (pv 0))) (SE.sb se_int) (fun _ _ => rfl))) (sb_var (pv 1)) (fun _ _ => rfl))) (SE.sb (SE.or (se_idxT (sb_ix (SB.wk (sb_var (pv 0))) (SE.sb se_int) (fun _ _ => rfl)) (sl_cons (sb_var (pv 2)) sl_nil)) (se_idxL (sb_ix (SB.wk (sb_var (pv 0))) (SE.sb se_int) (fun _ _ => rfl)) (sl_cons (sb_var (pv 2)) sl_nil)))) (fun _ _ => rfl))))
theorem sc_least_of : FnScope ["sums"] ["sums"] (defScope (topS 14)) := ⟨rfl, rfl, rfl, by decide +kernel, rfl, by decide +kernel, by decide +kernel⟩
def tb_least_of : DS := (dRet (dOp gMinD (dVarB 0) (dC (.int (-1)))))
def fs_least_of : FSpec := fsOf 1 [] 1 tb_least_of
set_option maxHeartbeats 4000000 in
theorem fn_least_of (h : Fa K mg fa fd) : FnG P w K mg base 1 (fa 14) (fd 14) ["sums"] (spOf K mg fs_least_of) :=
  fnG_of h.d14 sc_least_of rfl fun cdv A outer s H E hr hgd =>
    (ss_one (s_ret (se_minD (by rfl) (by rfl) h.m_min (sb_var (pv 0)) (SE.sb (se_gIntE (by rfl) h.c_NONE)))))
theorem sc_fares_after : FnScope ["machine", "fares", "letter", "sums", "state", "fare", "after", "cost", "found"] ["machine", "fares", "letter"] (defScope (topS 15)) := ⟨rfl, rfl, rfl, by decide +kernel, rfl, by decide +kernel, by decide +kernel⟩
def tb_fares_after : DS := (dSeq (dAsg (dComp (diAny (dVarU 1)) [5] (dgName 5) dtYes (dLst daNil)) (dgName 3))
    (dSeq (dFor (diEnum (dFrz (dWk (dVarU 1)))) (dgTup 2 (dgCons (dgName 4) (dgCons (dgName 5) dgNil)))
      (dSeq (dIfS (dtE (dOp uEq (dVarB 5) (dC (.int (-1)))))
      dCnt
      dNext)
    (dFor (diAny (dCall fs_row_by (dkB 0 (dkB 4 (dkB 2 dkNil))))) (dgTup 2 (dgCons (dgName 6) (dgCons (dgName 7) dgNil)))
      (dDrop (dAppIx 3 (dVarB 6) (dOp uAdd (dWk (dVarB 5)) (dWk (dVarB 7))))))))
    (dRet (dCl gTupU (daCons (dComp (diAny (dVarU 3)) [8] (dgName 8) dtYes (dCall fs_least_of (dkB 8 dkNil))) daNil)))))
def fs_fares_after : FSpec := fsOf 3 [] 9 tb_fares_after
set_option maxHeartbeats 4000000 in
theorem fn_fares_after (h : Fa K mg fa fd) : FnG P w K mg base 2 (fa 15) (fd 15) ["machine", "fares", "letter"] (spOf K mg fs_fares_after) :=
  fnG_of h.d15 sc_fares_after rfl fun cdv A outer s H E hr hgd =>
    (ss_cons (s_setCompK (i := 3) rfl sc_fares_after.nd rfl rfl (show (3 : Nat) ∉ ([] : List Nat) by decide) rfl (si_all (se_varU (pv 1) (show (1 : Nat) ∉ ([] : List Nat) by decide))) (blkOk_by (N := [("machine" : Str), ("fares" : Str), ("letter" : Str), ("sums" : Str), ("state" : Str), ("fare" : Str), ("after" : Str), ("cost" : Str), ("found" : Str)]) (sc := defScope (topS 15)) (own := [(("fare" : Str), 5)]) (by decide +kernel)) rfl (fun _ _ _ _ _ => (sg_name (i := 5) sc_fares_after.nd rfl (by first | exact Or.inl rfl | exact Or.inr rfl) (show (5 : Nat) ∉ ([] : List Nat) by decide))) (fun _ _ _ _ _ => sts_nil) (fun _ _ _ _ _ => (SE.toQ (se_lst sa_nil) rfl)) (by decide) (show ∀ i ∈ ([5] : List Nat), i ∉ ([] : List Nat) by decide))
    (ss_cons (s_for poD rfl (si_enum (by rfl) h.m_enumerate (SE.frz (SE.wk (se_varU (pv 1) (show (1 : Nat) ∉ ([] : List Nat) by decide))))) (sg_tup rfl (sgs_cons (sg_name (i := 4) sc_fares_after.nd rfl (by first | exact Or.inl rfl | exact Or.inr rfl) (show (4 : Nat) ∉ ([] : List Nat) by decide)) (sgs_cons (sg_name (i := 5) sc_fares_after.nd rfl (by first | exact Or.inl rfl | exact Or.inr rfl) (show (5 : Nat) ∉ ([] : List Nat) by decide)) (sgs_nil (gs := [])))))
      (ss_cons (s_if (st_cmp (ou_eq hr.units) (sb_var (pv 5)) (SE.sb (se_gIntE (by rfl) h.c_NONE)) (by rfl))
      (ss_one s_continue)
      ss_nil)
    (ss_one (s_for poD rfl (si_all (SE.toQ (se_call ((fn_row_by h).mono (by decide)) hr hgd (by rfl) h.d13.gl h.d13.fn.kp h.d13.bi psD (sk_b (pv 0) (sk_b (pv 4) (sk_b (pv 2) sk_nil)))) rfl)) (sg_tup rfl (sgs_cons (sg_name (i := 6) sc_fares_after.nd rfl (by first | exact Or.inl rfl | exact Or.inr rfl) (show (6 : Nat) ∉ ([] : List Nat) by decide)) (sgs_cons (sg_name (i := 7) sc_fares_after.nd rfl (by first | exact Or.inl rfl | exact Or.inr rfl) (show (7 : Nat) ∉ ([] : List Nat) by decide)) (sgs_nil (gs := [])))))
      (ss_one (s_expr (se_appIx (pv 3) (sb_var (pv 6)) (se_binN ou_add (SB.wk (sb_var (pv 5))) (SB.wk (sb_var (pv 7)))) (fun _ _ => rfl))))))))
    (ss_one (s_ret (se_callTupU (by rfl) h.m_tuple (by decide +kernel) (sl_cons (SE.sb (SE.toQ (se_compK rfl sc_fares_after.nd (si_all (se_varU (pv 3) (show (3 : Nat) ∉ ([] : List Nat) by decide))) (blkOk_by (N := [("machine" : Str), ("fares" : Str), ("letter" : Str), ("sums" : Str), ("state" : Str), ("fare" : Str), ("after" : Str), ("cost" : Str), ("found" : Str)]) (sc := defScope (topS 15)) (own := [(("found" : Str), 8)]) (by decide +kernel)) rfl (fun _ _ _ _ _ => (sg_name (i := 8) sc_fares_after.nd rfl (by first | exact Or.inl rfl | exact Or.inr rfl) (show (8 : Nat) ∉ ([] : List Nat) by decide))) (fun _ _ _ _ _ => sts_nil) (fun _ _ _ _ _ => (SE.toQ (se_call ((fn_least_of h).mono (by decide)) hr hgd (by rfl) h.d14.gl h.d14.fn.kp h.d14.bi (passF rfl rfl) (sk_b (pv 8) sk_nil)) rfl)) (by decide) (show ∀ i ∈ ([8] : List Nat), i ∉ ([] : List Nat) by decide)) rfl)) sl_nil))))))
theorem sc_rows_behind : FnScope ["machine", "fares", "log", "rows", "letter"] ["machine", "fares", "log"] (defScope (topS 16)) := ⟨rfl, rfl, rfl, by decide +kernel, rfl, by decide +kernel, by decide +kernel⟩
def tb_rows_behind : DS := (dSeq (dAsg (dLst (daCons (dVarU 1) daNil)) (dgName 3))
    (dSeq (dFor (diAny (dVarU 2)) (dgName 4)
      (dDrop (dApp 3 (dCall fs_fares_after (dkB 0 (dkC (dIx (dVarB 3) (dNeg (dC (.int (1))))) (dkB 4 dkNil)))))))
    (dRet (dMov 3))))
def fs_rows_behind : FSpec := fsOf 3 [] 5 tb_rows_behind
set_option maxHeartbeats 4000000 in
theorem fn_rows_behind (h : Fa K mg fa fd) : FnG P w K mg base 3 (fa 16) (fd 16) ["machine", "fares", "log"] (spOf K mg fs_rows_behind) :=
  fnG_of h.d16 sc_rows_behind rfl fun cdv A outer s H E hr hgd =>
    (ss_cons (s_set (i := 3) sc_rows_behind.nd rfl (by first | exact Or.inl rfl | exact Or.inr rfl) (show (3 : Nat) ∉ ([] : List Nat) by decide) (SE.toQ (se_lst (sa_cons (se_varU (pv 1) (show (1 : Nat) ∉ ([] : List Nat) by decide)) sa_nil)) rfl))
    (ss_cons (s_for poD rfl (si_all (se_varU (pv 2) (show (2 : Nat) ∉ ([] : List Nat) by decide))) (sg_name (i := 4) sc_rows_behind.nd rfl (by first | exact Or.inl rfl | exact Or.inr rfl) (show (4 : Nat) ∉ ([] : List Nat) by decide))
      (ss_one (s_expr (se_append (pv 3) (SE.toQ (se_call ((fn_fares_after h).mono (by decide)) hr hgd (by rfl) h.d15.gl h.d15.fn.kp h.d15.bi psD (sk_b (pv 0) (sk_c (se_ix (sb_var (pv 3)) (SE.sb (se_neg (SE.sb se_int))) (fun _ _ => rfl)) (sk_b (pv 4) sk_nil)))) rfl)))))
    (ss_one (s_ret (se_mov (pv 3) (show (3 : Nat) ∉ ([] : List Nat) by decide))))))
theorem sc_least_sum : FnScope ["fares", "others", "fare", "other"] ["fares", "others"] (defScope (topS 17)) := ⟨rfl, rfl, rfl, by decide +kernel, rfl, by decide +kernel, by decide +kernel⟩
def tb_least_sum : DS := (dRet (dCall fs_least_of (dkC (dComp (diZip (daCons (dFrz (dWk (dVarU 0))) (daCons (dFrz (dWk (dVarU 1))) daNil))) [2, 3] (dgTup 2 (dgCons (dgName 2) (dgCons (dgName 3) dgNil))) (dtE (dOp uNi (dC (.int (-1))) (dTup (daCons (dVarU 2) (daCons (dVarU 3) daNil))))) (dOp uAdd (dWk (dVarB 2)) (dWk (dVarB 3)))) dkNil)))
def fs_least_sum : FSpec := fsOf 2 [] 4 tb_least_sum
set_option maxHeartbeats 4000000 in
theorem fn_least_sum (h : Fa K mg fa fd) : FnG P w K mg base 2 (fa 17) (fd 17) ["fares", "others"] (spOf K mg fs_least_sum) :=
  fnG_of h.d17 sc_least_sum rfl fun cdv A outer s H E hr hgd =>
    (ss_one (s_ret (SE.toQ (se_call ((fn_least_of h).mono (by decide)) hr hgd (by rfl) h.d14.gl h.d14.fn.kp h.d14.bi psD (sk_c (SE.toQ (se_compK rfl sc_least_sum.nd (si_zip (by rfl) h.m_zip (sa_cons (SE.frz (SE.wk (se_varU (pv 0) (show (0 : Nat) ∉ ([] : List Nat) by decide)))) (sa_cons (SE.frz (SE.wk (se_varU (pv 1) (show (1 : Nat) ∉ ([] : List Nat) by decide)))) sa_nil))) (blkOk_by (N := [("fares" : Str), ("others" : Str), ("fare" : Str), ("other" : Str)]) (sc := defScope (topS 17)) (own := [(("fare" : Str), 2), (("other" : Str), 3)]) (by decide +kernel)) rfl (fun _ _ _ _ _ => (sg_tup rfl (sgs_cons (sg_name (i := 2) sc_least_sum.nd rfl (by first | exact Or.inl rfl | exact Or.inr rfl) (show (2 : Nat) ∉ ([] : List Nat) by decide)) (sgs_cons (sg_name (i := 3) sc_least_sum.nd rfl (by first | exact Or.inl rfl | exact Or.inr rfl) (show (3 : Nat) ∉ ([] : List Nat) by decide)) (sgs_nil (gs := [])))))) (fun _ _ _ _ _ => (sts_one (st_cmp ou_ni (SE.sb (se_gIntE (by rfl) h.c_NONE)) (SE.sb (SE.toQ (se_tup (sa_cons (se_varU (pv 2) (show (2 : Nat) ∉ ([] : List Nat) by decide)) (sa_cons (se_varU (pv 3) (show (3 : Nat) ∉ ([] : List Nat) by decide)) sa_nil))) rfl)) (by rfl)))) (fun _ _ _ _ _ => (se_binN ou_add (SB.wk (sb_var (pv 2))) (SB.wk (sb_var (pv 3))))) (by decide) (show ∀ i ∈ ([2, 3] : List Nat), i ∉ ([] : List Nat) by decide)) rfl) sk_nil)) rfl)))
theorem sc_chart_of : FnScope ["machine", "log", "states", "starts", "start", "state", "fares"] ["machine", "log"] (defScope (topS 19)) := ⟨rfl, rfl, rfl, by decide +kernel, rfl, by decide +kernel, by decide +kernel⟩
def tb_chart_of : DS := (dSeq (dDrop (dCall fs_check_log (dkC (dIx (dWk (dVarB 0)) (dC (.int (0)))) (dkB 1 dkNil))))
    (dSeq (dAsg (dCl gRng1 (daCons (dCl gLen (daCons (dWk (dIxB (dWk (dVarB 0)) (dC (.int (1))))) daNil)) daNil)) (dgName 2))
    (dSeq (dAsg (dComp (diAny (dVarU 2)) [4] (dgName 4) dtYes (dCl gTupU (daCons (dComp (diAny (dVarU 2)) [5] (dgName 5) dtYes (dIf (dtE (dOp uEq (dVarB 5) (dVarB 4))) (dC (.int (0))) (dC (.int (-1))))) daNil))) (dgName 3))
    (dRet (dCl gTupU (daCons (dComp (diAny (dVarU 3)) [6] (dgName 6) dtYes (dIx (dWk (dCall fs_rows_behind (dkB 0 (dkB 6 (dkB 1 dkNil))))) (dNeg (dC (.int (1)))))) daNil))))))
def fs_chart_of : FSpec := fsOf 2 [] 7 tb_chart_of
set_option maxHeartbeats 4000000 in
theorem fn_chart_of (h : Fa K mg fa fd) : FnG P w K mg base 4 (fa 19) (fd 19) ["machine", "log"] (spOf K mg fs_chart_of) :=
  fnG_of h.d19 sc_chart_of rfl fun cdv A outer s H E hr hgd =>
    (ss_cons (s_expr (SE.toQ (se_call ((fn_check_log h).mono (by decide)) hr hgd (by rfl) h.d10.gl h.d10.fn.kp h.d10.bi psD (sk_c (se_ix (SB.wk (sb_var (pv 0))) (SE.sb se_int) (fun _ _ => rfl)) (sk_b (pv 1) sk_nil))) rfl))
    (ss_cons (s_set (i := 2) sc_chart_of.nd rfl (by first | exact Or.inl rfl | exact Or.inr rfl) (show (2 : Nat) ∉ ([] : List Nat) by decide) (se_range1 (by rfl) h.m_range (sl_cons (SE.sb (se_callB oc_len (by rfl) h.m_len PySem.boot_len (sl_cons (SB.wk (sb_ix (SB.wk (sb_var (pv 0))) (SE.sb se_int) (fun _ _ => rfl))) sl_nil))) sl_nil)))
    (ss_cons (s_setCompK (i := 3) rfl sc_chart_of.nd rfl rfl (show (3 : Nat) ∉ ([] : List Nat) by decide) rfl (si_all (se_varU (pv 2) (show (2 : Nat) ∉ ([] : List Nat) by decide))) (blkOk_by (N := [("machine" : Str), ("log" : Str), ("states" : Str), ("starts" : Str), ("start" : Str), ("state" : Str), ("fares" : Str)]) (sc := defScope (topS 19)) (own := [(("start" : Str), 4)]) (by decide +kernel)) rfl (fun _ _ _ _ _ => (sg_name (i := 4) sc_chart_of.nd rfl (by first | exact Or.inl rfl | exact Or.inr rfl) (show (4 : Nat) ∉ ([] : List Nat) by decide))) (fun _ _ _ _ _ => sts_nil) (fun _ _ _ _ _ => (se_callTupU (by rfl) h.m_tuple (by decide +kernel) (sl_cons (SE.sb (SE.toQ (se_compK rfl sc_chart_of.nd (si_all (se_varU (pv 2) (show (2 : Nat) ∉ ([] : List Nat) by decide))) (blkOk_by (N := [("machine" : Str), ("log" : Str), ("states" : Str), ("starts" : Str), ("start" : Str), ("state" : Str), ("fares" : Str)]) (sc := relS _ (defScope (topS 19))) (own := [(("state" : Str), 5)]) (by decide +kernel)) rfl (fun _ _ _ _ _ => (sg_name (i := 5) sc_chart_of.nd rfl (by first | exact Or.inl rfl | exact Or.inr rfl) (show (5 : Nat) ∉ ([] : List Nat) by decide))) (fun _ _ _ _ _ => sts_nil) (fun _ _ _ _ _ => (SE.toQ (se_if (st_cmp (ou_eq hr.units) (sb_var (pv 5)) (sb_var (pv 4)) (by rfl)) se_int (se_gIntE (by rfl) h.c_NONE)) rfl)) (by decide) (show ∀ i ∈ ([5] : List Nat), i ∉ ([] : List Nat) by decide)) rfl)) sl_nil))) (by decide) (show ∀ i ∈ ([4] : List Nat), i ∉ ([] : List Nat) by decide))
    (ss_one (s_ret (se_callTupU (by rfl) h.m_tuple (by decide +kernel) (sl_cons (SE.sb (SE.toQ (se_compK rfl sc_chart_of.nd (si_all (se_varU (pv 3) (show (3 : Nat) ∉ ([] : List Nat) by decide))) (blkOk_by (N := [("machine" : Str), ("log" : Str), ("states" : Str), ("starts" : Str), ("start" : Str), ("state" : Str), ("fares" : Str)]) (sc := defScope (topS 19)) (own := [(("fares" : Str), 6)]) (by decide +kernel)) rfl (fun _ _ _ _ _ => (sg_name (i := 6) sc_chart_of.nd rfl (by first | exact Or.inl rfl | exact Or.inr rfl) (show (6 : Nat) ∉ ([] : List Nat) by decide))) (fun _ _ _ _ _ => sts_nil) (fun _ _ _ _ _ => (se_ix (SB.wk (SE.sb (SE.toQ (se_call ((fn_rows_behind h).mono (by decide)) hr hgd (by rfl) h.d16.gl h.d16.fn.kp h.d16.bi (passF rfl rfl) (sk_b (pv 0) (sk_b (pv 6) (sk_b (pv 1) sk_nil)))) rfl))) (SE.sb (se_neg (SE.sb se_int))) (fun _ _ => rfl))) (by decide) (show ∀ i ∈ ([6] : List Nat), i ∉ ([] : List Nat) by decide)) rfl)) sl_nil)))))))
theorem sc_product : FnScope ["first", "second", "columns", "state", "row", "column"] ["first", "second"] (defScope (topS 20)) := ⟨rfl, rfl, rfl, by decide +kernel, rfl, by decide +kernel, by decide +kernel⟩
def tb_product : DS := (dSeq (dAsg (dComp (diRng1 (daCons (dCl gLen (daCons (dWk (dVarB 1)) daNil)) daNil)) [3] (dgName 3) dtYes (dComp (diAny (dVarU 1)) [4] (dgName 4) dtYes (dIx (dWk (dVarB 4)) (dVarB 3)))) (dgName 2))
    (dRet (dCl gTupU (daCons (dComp (diAny (dVarU 0)) [4] (dgName 4) dtYes (dCl gTupU (daCons (dComp (diAny (dVarU 2)) [5] (dgName 5) dtYes (dCall fs_least_sum (dkB 4 (dkB 5 dkNil)))) daNil))) daNil))))
def fs_product : FSpec := fsOf 2 [] 6 tb_product
set_option maxHeartbeats 4000000 in
theorem fn_product (h : Fa K mg fa fd) : FnG P w K mg base 3 (fa 20) (fd 20) ["first", "second"] (spOf K mg fs_product) :=
  fnG_of h.d20 sc_product rfl fun cdv A outer s H E hr hgd =>
    (ss_cons (s_set (i := 2) sc_product.nd rfl (by first | exact Or.inl rfl | exact Or.inr rfl) (show (2 : Nat) ∉ ([] : List Nat) by decide) (SE.toQ (se_compK rfl sc_product.nd (si_rng1 (by rfl) h.m_range (sl_cons (SE.sb (se_callB oc_len (by rfl) h.m_len PySem.boot_len (sl_cons (SB.wk (sb_var (pv 1))) sl_nil))) sl_nil)) (blkOk_by (N := [("first" : Str), ("second" : Str), ("columns" : Str), ("state" : Str), ("row" : Str), ("column" : Str)]) (sc := defScope (topS 20)) (own := [(("state" : Str), 3)]) (by decide +kernel)) rfl (fun _ _ _ _ _ => (sg_name (i := 3) sc_product.nd rfl (by first | exact Or.inl rfl | exact Or.inr rfl) (show (3 : Nat) ∉ ([] : List Nat) by decide))) (fun _ _ _ _ _ => sts_nil) (fun _ _ _ _ _ => (SE.toQ (se_compK rfl sc_product.nd (si_all (se_varU (pv 1) (show (1 : Nat) ∉ ([] : List Nat) by decide))) (blkOk_by (N := [("first" : Str), ("second" : Str), ("columns" : Str), ("state" : Str), ("row" : Str), ("column" : Str)]) (sc := relS _ (defScope (topS 20))) (own := [(("row" : Str), 4)]) (by decide +kernel)) rfl (fun _ _ _ _ _ => (sg_name (i := 4) sc_product.nd rfl (by first | exact Or.inl rfl | exact Or.inr rfl) (show (4 : Nat) ∉ ([] : List Nat) by decide))) (fun _ _ _ _ _ => sts_nil) (fun _ _ _ _ _ => (se_ix (SB.wk (sb_var (pv 4))) (sb_var (pv 3)) (fun _ _ => rfl))) (by decide) (show ∀ i ∈ ([4] : List Nat), i ∉ ([] : List Nat) by decide)) rfl)) (by decide) (show ∀ i ∈ ([3] : List Nat), i ∉ ([] : List Nat) by decide)) rfl))
    (ss_one (s_ret (se_callTupU (by rfl) h.m_tuple (by decide +kernel) (sl_cons (SE.sb (SE.toQ (se_compK rfl sc_product.nd (si_all (se_varU (pv 0) (show (0 : Nat) ∉ ([] : List Nat) by decide))) (blkOk_by (N := [("first" : Str), ("second" : Str), ("columns" : Str), ("state" : Str), ("row" : Str), ("column" : Str)]) (sc := defScope (topS 20)) (own := [(("row" : Str), 4)]) (by decide +kernel)) rfl (fun _ _ _ _ _ => (sg_name (i := 4) sc_product.nd rfl (by first | exact Or.inl rfl | exact Or.inr rfl) (show (4 : Nat) ∉ ([] : List Nat) by decide))) (fun _ _ _ _ _ => sts_nil) (fun _ _ _ _ _ => (se_callTupU (by rfl) h.m_tuple (by decide +kernel) (sl_cons (SE.sb (SE.toQ (se_compK rfl sc_product.nd (si_all (se_varU (pv 2) (show (2 : Nat) ∉ ([] : List Nat) by decide))) (blkOk_by (N := [("first" : Str), ("second" : Str), ("columns" : Str), ("state" : Str), ("row" : Str), ("column" : Str)]) (sc := relS _ (defScope (topS 20))) (own := [(("column" : Str), 5)]) (by decide +kernel)) rfl (fun _ _ _ _ _ => (sg_name (i := 5) sc_product.nd rfl (by first | exact Or.inl rfl | exact Or.inr rfl) (show (5 : Nat) ∉ ([] : List Nat) by decide))) (fun _ _ _ _ _ => sts_nil) (fun _ _ _ _ _ => (SE.toQ (se_call ((fn_least_sum h).mono (by decide)) hr hgd (by rfl) h.d17.gl h.d17.fn.kp h.d17.bi (passF rfl rfl) (sk_b (pv 4) (sk_b (pv 5) sk_nil))) rfl)) (by decide) (show ∀ i ∈ ([5] : List Nat), i ∉ ([] : List Nat) by decide)) rfl)) sl_nil))) (by decide) (show ∀ i ∈ ([4] : List Nat), i ∉ ([] : List Nat) by decide)) rfl)) sl_nil)))))
theorem sc_fare_by_chart : FnScope ["machine", "chart", "rests", "row"] ["machine", "chart"] (defScope (topS 21)) := ⟨rfl, rfl, rfl, by decide +kernel, rfl, by decide +kernel, by decide +kernel⟩
def tb_fare_by_chart : DS := (dSeq (dAsg (dComp (diAny (dVarU 1)) [3] (dgName 3) dtYes (dCall fs_least_sum (dkB 3 (dkC (dIx (dWk (dVarB 0)) (dC (.int (3)))) dkNil)))) (dgName 2))
    (dRet (dCall fs_least_sum (dkC (dIx (dWk (dVarB 0)) (dC (.int (1)))) (dkB 2 dkNil)))))
def fs_fare_by_chart : FSpec := fsOf 2 [] 4 tb_fare_by_chart
set_option maxHeartbeats 4000000 in
theorem fn_fare_by_chart (h : Fa K mg fa fd) : FnG P w K mg base 3 (fa 21) (fd 21) ["machine", "chart"] (spOf K mg fs_fare_by_chart) :=
  fnG_of h.d21 sc_fare_by_chart rfl fun cdv A outer s H E hr hgd =>
    (ss_cons (s_setCompK (i := 2) rfl sc_fare_by_chart.nd rfl rfl (show (2 : Nat) ∉ ([] : List Nat) by decide) rfl (si_all (se_varU (pv 1) (show (1 : Nat) ∉ ([] : List Nat) by decide))) (blkOk_by (N := [("machine" : Str), ("chart" : Str), ("rests" : Str), ("row" : Str)]) (sc := defScope (topS 21)) (own := [(("row" : Str), 3)]) (by decide +kernel)) rfl (fun _ _ _ _ _ => (sg_name (i := 3) sc_fare_by_chart.nd rfl (by first | exact Or.inl rfl | exact Or.inr rfl) (show (3 : Nat) ∉ ([] : List Nat) by decide))) (fun _ _ _ _ _ => sts_nil) (fun _ _ _ _ _ => (SE.toQ (se_call ((fn_least_sum h).mono (by decide)) hr hgd (by rfl) h.d17.gl h.d17.fn.kp h.d17.bi (passF rfl rfl) (sk_b (pv 3) (sk_c (se_ix (SB.wk (sb_var (pv 0))) (SE.sb se_int) (fun _ _ => rfl)) sk_nil))) rfl)) (by decide) (show ∀ i ∈ ([3] : List Nat), i ∉ ([] : List Nat) by decide))
    (ss_one (s_ret (SE.toQ (se_call ((fn_least_sum h).mono (by decide)) hr hgd (by rfl) h.d17.gl h.d17.fn.kp h.d17.bi psD (sk_c (se_ix (SB.wk (sb_var (pv 0))) (SE.sb se_int) (fun _ _ => rfl)) (sk_b (pv 2) sk_nil))) rfl))))
theorem sc_law_same : FnScope ["told", "due"] ["told", "due"] (defScope (topS 23)) := ⟨rfl, rfl, rfl, by decide +kernel, rfl, by decide +kernel, by decide +kernel⟩
def tb_law_same : DS := (dRet (dOp uEq (dCl gRepr (daCons (dLst (daCons (dVarU 0) daNil)) daNil)) (dCl gRepr (daCons (dLst (daCons (dVarU 1) daNil)) daNil))))
def fs_law_same : FSpec := fsOf 2 [] 2 tb_law_same
set_option maxHeartbeats 4000000 in
theorem fn_law_same (h : Fa K mg fa fd) : FnG P w K mg base 1 (fa 23) (fd 23) ["told", "due"] (spOf K mg fs_law_same) :=
  fnG_of h.d23 sc_law_same rfl fun cdv A outer s H E hr hgd =>
    (ss_one (s_ret (se_cmp (ou_eq hr.units) (SE.sb (se_callB (oc_repr hgd (u100 hr)) (by rfl) h.m_repr (by decide +kernel) (sl_cons (SE.sb (SE.toQ (se_lst (sa_cons (se_varU (pv 0) (show (0 : Nat) ∉ ([] : List Nat) by decide)) sa_nil)) rfl)) sl_nil))) (SE.sb (se_callB (oc_repr hgd (u100 hr)) (by rfl) h.m_repr (by decide +kernel) (sl_cons (SE.sb (SE.toQ (se_lst (sa_cons (se_varU (pv 1) (show (1 : Nat) ∉ ([] : List Nat) by decide)) sa_nil)) rfl)) sl_nil))) (by rfl))))
theorem sc_law_stream : FnScope ["script", "numbers", "cell", "rest", "k", "mixed"] ["script"] (defScope (topS 24)) := ⟨rfl, rfl, rfl, by decide +kernel, rfl, by decide +kernel, by decide +kernel⟩
def tb_law_stream : DS := (dSeq (dAsg (dLst daNil) (dgName 1))
    (dSeq (dFor (diAny (dSl (dWk (dVarB 0)) doNone (doSome (dC (.int (63)))))) (dgName 2)
      (dSeq (dAsg (dCl gAbs (daCons (dCl gInt (daCons (dVarB 2) daNil)) daNil)) (dgName 3))
    (dIfS (dtE (dOp uGe (dVarB 3) (dOp gPow (dC (.int (10))) (dC (.int (18))))))
      (dFor (diRng1 (daCons (dC (.int (60))) daNil)) (dgName 4)
      (dSeq (dDrop (dApp 1 (dOp gMod (dCl gInt (daCons (dVarB 3) daNil)) (dC (.int (1009))))))
    (dSeq (dAsg (dOp gDiv (dVarB 3) (dC (.int (1009)))) (dgName 3))
    (dIfS (dtE (dOp uEq (dVarB 3) (dC (.int (0)))))
      dBrk
      dNext))))
      (dSeq (dAsg (dOp gMod (dCl gInt (daCons (dVarB 3) daNil)) (dC (.int (2147483647)))) (dgName 5))
    (dFor (diRng1 (daCons (dC (.int (10))) daNil)) (dgName 4)
      (dSeq (dAsg (dOp gMod (dCl gInt (daCons (dOp uAdd (dOp uAdd (dOp uMul (dVarB 5) (dC (.int (48271)))) (dOp uMul (dC (.int (7))) (dVarB 4))) (dC (.int (11)))) daNil)) (dC (.int (2147483647)))) (dgName 5))
    (dDrop (dApp 1 (dOp gMod (dOp gMod (dCl gInt (daCons (dOp uAdd (dOp uMul (dVarB 5) (dC (.int (69621)))) (dVarB 4)) daNil)) (dC (.int (2147483629)))) (dC (.int (1009))))))))))))
    (dSeq (dIfS (dtE (dOp uEq (dCl gLen (daCons (dVarB 1) daNil)) (dC (.int (0)))))
      (dDrop (dApp 1 (dC (.int (0)))))
      dNext)
    (dRet (dMov 1)))))
def fs_law_stream : FSpec := fsOf 1 [] 6 tb_law_stream
set_option maxHeartbeats 4000000 in
theorem fn_law_stream (h : Fa K mg fa fd) : FnG P w K mg base 1 (fa 24) (fd 24) ["script"] (spOf K mg fs_law_stream) :=
  fnG_of h.d24 sc_law_stream rfl fun cdv A outer s H E hr hgd =>
    (ss_cons (s_set (i := 1) sc_law_stream.nd rfl (by first | exact Or.inl rfl | exact Or.inr rfl) (show (1 : Nat) ∉ ([] : List Nat) by decide) (SE.toQ (se_lst sa_nil) rfl))
    (ss_cons (s_for poD rfl (si_all (se_slice (SB.wk (sb_var (pv 0))) so_none (so_some (SE.sb se_int)))) (sg_name (i := 2) sc_law_stream.nd rfl (by first | exact Or.inl rfl | exact Or.inr rfl) (show (2 : Nat) ∉ ([] : List Nat) by decide))
      (ss_cons (s_set (i := 3) sc_law_stream.nd rfl (by first | exact Or.inl rfl | exact Or.inr rfl) (show (3 : Nat) ∉ ([] : List Nat) by decide) (se_callB oc_abs (by rfl) h.m_abs (by decide +kernel) (sl_cons (SE.sb (se_callTy oc_int (by rfl) h.m_int (by decide +kernel) (sl_cons (sb_var (pv 2)) sl_nil))) sl_nil)))
    (ss_one (s_if (st_cmp ou_ge (sb_var (pv 3)) (SE.sb (se_bin oa_pow (SE.sb se_int) (SE.sb se_int))) (by rfl))
      (ss_one (s_for poD rfl (si_rng1 (by rfl) h.m_range (sl_cons (SE.sb se_int) sl_nil)) (sg_name (i := 4) sc_law_stream.nd rfl (by first | exact Or.inl rfl | exact Or.inr rfl) (show (4 : Nat) ∉ ([] : List Nat) by decide))
      (ss_cons (s_expr (se_append (pv 1) (se_bin oa_mod (SE.sb (se_callTy oc_int (by rfl) h.m_int (by decide +kernel) (sl_cons (sb_var (pv 3)) sl_nil))) (SE.sb se_int))))
    (ss_cons (s_set (i := 3) sc_law_stream.nd rfl (by first | exact Or.inl rfl | exact Or.inr rfl) (show (3 : Nat) ∉ ([] : List Nat) by decide) (se_bin oa_div (sb_var (pv 3)) (SE.sb se_int)))
    (ss_one (s_if (st_cmp (ou_eq hr.units) (sb_var (pv 3)) (SE.sb se_int) (by rfl))
      (ss_one s_break)
      ss_nil))))))
      (ss_cons (s_set (i := 5) sc_law_stream.nd rfl (by first | exact Or.inl rfl | exact Or.inr rfl) (show (5 : Nat) ∉ ([] : List Nat) by decide) (se_bin oa_mod (SE.sb (se_callTy oc_int (by rfl) h.m_int (by decide +kernel) (sl_cons (sb_var (pv 3)) sl_nil))) (SE.sb se_int)))
    (ss_one (s_for poD rfl (si_rng1 (by rfl) h.m_range (sl_cons (SE.sb se_int) sl_nil)) (sg_name (i := 4) sc_law_stream.nd rfl (by first | exact Or.inl rfl | exact Or.inr rfl) (show (4 : Nat) ∉ ([] : List Nat) by decide))
      (ss_cons (s_set (i := 5) sc_law_stream.nd rfl (by first | exact Or.inl rfl | exact Or.inr rfl) (show (5 : Nat) ∉ ([] : List Nat) by decide) (se_bin oa_mod (SE.sb (se_callTy oc_int (by rfl) h.m_int (by decide +kernel) (sl_cons (SE.sb (se_binN ou_add (SE.sb (se_binN ou_add (SE.sb (se_binN ou_mul (sb_var (pv 5)) (SE.sb se_int))) (SE.sb (se_binN ou_mul (SE.sb se_int) (sb_var (pv 4)))))) (SE.sb se_int))) sl_nil))) (SE.sb se_int)))
    (ss_one (s_expr (se_append (pv 1) (se_bin oa_mod (SE.sb (se_bin oa_mod (SE.sb (se_callTy oc_int (by rfl) h.m_int (by decide +kernel) (sl_cons (SE.sb (se_binN ou_add (SE.sb (se_binN ou_mul (sb_var (pv 5)) (SE.sb se_int))) (sb_var (pv 4)))) sl_nil))) (SE.sb se_int))) (SE.sb se_int)))))))))))))
    (ss_cons (s_if (st_cmp (ou_eq hr.units) (SE.sb (se_callB oc_len (by rfl) h.m_len PySem.boot_len (sl_cons (sb_var (pv 1)) sl_nil))) (SE.sb se_int) (by rfl))
      (ss_one (s_expr (se_append (pv 1) se_int)))
      ss_nil)
    (ss_one (s_ret (se_mov (pv 1) (show (1 : Nat) ∉ ([] : List Nat) by decide)))))))
theorem sc_law_next : FnScope ["state", "many", "turn"] ["state", "many"] (defScope (topS 25)) := ⟨rfl, rfl, rfl, by decide +kernel, rfl, by decide +kernel, by decide +kernel⟩
def tb_law_next : DS := (dSeq (dSetIx 0 (dC (.int (1))) (dOp uAdd (dIxB (dWk (dVarB 0)) (dC (.int (1)))) (dC (.int (1)))))
    (dSeq (dAsg (dOp gDiv (dIxB (dWk (dVarB 0)) (dC (.int (1)))) (dCl gLen (daCons (dWk (dIxB (dWk (dVarB 0)) (dC (.int (0))))) daNil))) (dgName 2))
    (dRet (dOp gMod (dCl gInt (daCons (dOp uAdd (dOp uAdd (dIxB (dWk (dIxB (dWk (dVarB 0)) (dC (.int (0))))) (dOp gMod (dIxB (dWk (dVarB 0)) (dC (.int (1)))) (dCl gLen (daCons (dWk (dIxB (dWk (dVarB 0)) (dC (.int (0))))) daNil)))) (dOp uMul (dVarB 2) (dC (.int (389))))) (dOp uMul (dOp uMul (dWk (dIxB (dWk (dVarB 0)) (dC (.int (1))))) (dWk (dVarB 2))) (dC (.int (17))))) daNil)) (dVarB 1)))))
def fs_law_next : FSpec := fsOf 2 [0] 3 tb_law_next
set_option maxHeartbeats 4000000 in
theorem fn_law_next (h : Fa K mg fa fd) : FnG P w K mg base 1 (fa 25) (fd 25) ["state", "many"] (spOf K mg fs_law_next) :=
  fnG_of h.d25 sc_law_next rfl fun cdv A outer s H E hr hgd =>
    (ss_cons (s_setIx (i := 0) (pv 0) (SE.sb se_int) (se_binN ou_add (sb_ix (SB.wk (sb_var (pv 0))) (SE.sb se_int) (fun _ _ => rfl)) (SE.sb se_int)))
    (ss_cons (s_set (i := 2) sc_law_next.nd rfl (by first | exact Or.inl rfl | exact Or.inr rfl) (show (2 : Nat) ∉ ([0] : List Nat) by decide) (se_bin oa_div (sb_ix (SB.wk (sb_var (pv 0))) (SE.sb se_int) (fun _ _ => rfl)) (SE.sb (se_callB oc_len (by rfl) h.m_len PySem.boot_len (sl_cons (SB.wk (sb_ix (SB.wk (sb_var (pv 0))) (SE.sb se_int) (fun _ _ => rfl))) sl_nil)))))
    (ss_one (s_ret (se_bin oa_mod (SE.sb (se_callTy oc_int (by rfl) h.m_int (by decide +kernel) (sl_cons (SE.sb (se_binN ou_add (SE.sb (se_binN ou_add (sb_ix (SB.wk (sb_ix (SB.wk (sb_var (pv 0))) (SE.sb se_int) (fun _ _ => rfl))) (SE.sb (se_bin oa_mod (sb_ix (SB.wk (sb_var (pv 0))) (SE.sb se_int) (fun _ _ => rfl)) (SE.sb (se_callB oc_len (by rfl) h.m_len PySem.boot_len (sl_cons (SB.wk (sb_ix (SB.wk (sb_var (pv 0))) (SE.sb se_int) (fun _ _ => rfl))) sl_nil))))) (fun _ _ => rfl)) (SE.sb (se_binN ou_mul (sb_var (pv 2)) (SE.sb se_int))))) (SE.sb (se_binN ou_mul (SE.sb (se_binN ou_mul (SB.wk (sb_ix (SB.wk (sb_var (pv 0))) (SE.sb se_int) (fun _ _ => rfl))) (SB.wk (sb_var (pv 2))))) (SE.sb se_int))))) sl_nil))) (sb_var (pv 1)))))))
theorem sc_law_word : FnScope ["state", "taken", "word", "k"] ["state", "taken"] (defScope (topS 26)) := ⟨rfl, rfl, rfl, by decide +kernel, rfl, by decide +kernel, by decide +kernel⟩
def tb_law_word : DS := (dSeq (dAsg (dC (.str ("" : Str))) (dgName 2))
    (dSeq (dFor (diRng1 (daCons (dPick (daCons (dC (.int (1))) (daCons (dC (.int (1))) (daCons (dC (.int (2))) (daCons (dC (.int (8))) daNil)))) (dCall fs_law_next (dkM 0 (dkC (dC (.int (4))) dkNil)))) daNil)) (dgName 3)
      (dAsg (dOp uAdd (dWk (dVarU 2)) (dWk (dIxS (dC (.str ("abcxyz" : Str))) (dCall fs_law_next (dkM 0 (dkC (dC (.int (6))) dkNil)))))) (dgName 2)))
    (dSeq (dIfS (dtE (dOp uIn (dVarB 2) (dWk (dVarB 1))))
      (dRet (dOp uAdd (dC (.str ("w" : Str))) (dIxB (dC (.str ("abcdefghijkl" : Str))) (dCl gLen (daCons (dWk (dVarB 1)) daNil)))))
      dNext)
    (dRet (dMov 2)))))
def fs_law_word : FSpec := fsOf 2 [0] 4 tb_law_word
set_option maxHeartbeats 4000000 in
theorem fn_law_word (h : Fa K mg fa fd) : FnG P w K mg base 2 (fa 26) (fd 26) ["state", "taken"] (spOf K mg fs_law_word) :=
  fnG_of h.d26 sc_law_word rfl fun cdv A outer s H E hr hgd =>
    (ss_cons (s_set (i := 2) sc_law_word.nd rfl (by first | exact Or.inl rfl | exact Or.inr rfl) (show (2 : Nat) ∉ ([0] : List Nat) by decide) se_str)
    (ss_cons (s_for poD rfl (si_rng1 (by rfl) h.m_range (sl_cons (SE.sb (SE.toQ (se_pick (sa_cons se_int (sa_cons se_int (sa_cons se_int (sa_cons se_int sa_nil)))) (SE.sb (SE.toQ (se_call ((fn_law_next h).mono (by decide)) hr hgd (by rfl) h.d25.gl h.d25.fn.kp h.d25.bi psD (sk_m (pv 0) (sk_c se_int sk_nil))) rfl)) (fun _ _ => rfl)) rfl)) sl_nil)) (sg_name (i := 3) sc_law_word.nd rfl (by first | exact Or.inl rfl | exact Or.inr rfl) (show (3 : Nat) ∉ ([0] : List Nat) by decide))
      (ss_one (s_set (i := 2) sc_law_word.nd rfl (by first | exact Or.inl rfl | exact Or.inr rfl) (show (2 : Nat) ∉ ([0] : List Nat) by decide) (SE.toQ (se_binNO ou_add (SE.wk (se_varU (pv 2) (show (2 : Nat) ∉ ([0] : List Nat) by decide))) (SB.wk (SE.sb (SE.toQ (se_ixS (SE.sb se_str) (SE.sb (SE.toQ (se_call ((fn_law_next h).mono (by decide)) hr hgd (by rfl) h.d25.gl h.d25.fn.kp h.d25.bi psD (sk_m (pv 0) (sk_c se_int sk_nil))) rfl)) (fun _ _ => rfl)) rfl)))) rfl))))
    (ss_cons (s_if (st_cmp ou_in (sb_var (pv 2)) (SB.wk (sb_var (pv 1))) (by rfl))
      (ss_one (s_ret (se_binN ou_add (SE.sb se_str) (sb_ix (SE.sb se_str) (SE.sb (se_callB oc_len (by rfl) h.m_len PySem.boot_len (sl_cons (SB.wk (sb_var (pv 1))) sl_nil))) (fun _ _ => rfl)))))
      ss_nil)
    (ss_one (s_ret (se_mov (pv 2) (show (2 : Nat) ∉ ([0] : List Nat) by decide)))))))
theorem sc_law_letters : FnScope ["state", "many", "found", "k"] ["state", "many"] (defScope (topS 27)) := ⟨rfl, rfl, rfl, by decide +kernel, rfl, by decide +kernel, by decide +kernel⟩
def tb_law_letters : DS := (dSeq (dAsg (dLst daNil) (dgName 2))
    (dSeq (dFor (diRng1 (daCons (dVarB 1) daNil)) (dgName 3)
      (dDrop (dApp 2 (dCall fs_law_word (dkM 0 (dkB 2 dkNil))))))
    (dRet (dCl gTupU (daCons (dVarB 2) daNil)))))
def fs_law_letters : FSpec := fsOf 2 [0] 4 tb_law_letters
set_option maxHeartbeats 4000000 in
theorem fn_law_letters (h : Fa K mg fa fd) : FnG P w K mg base 3 (fa 27) (fd 27) ["state", "many"] (spOf K mg fs_law_letters) :=
  fnG_of h.d27 sc_law_letters rfl fun cdv A outer s H E hr hgd =>
    (ss_cons (s_set (i := 2) sc_law_letters.nd rfl (by first | exact Or.inl rfl | exact Or.inr rfl) (show (2 : Nat) ∉ ([0] : List Nat) by decide) (SE.toQ (se_lst sa_nil) rfl))
    (ss_cons (s_for poD rfl (si_rng1 (by rfl) h.m_range (sl_cons (sb_var (pv 1)) sl_nil)) (sg_name (i := 3) sc_law_letters.nd rfl (by first | exact Or.inl rfl | exact Or.inr rfl) (show (3 : Nat) ∉ ([0] : List Nat) by decide))
      (ss_one (s_expr (se_append (pv 2) (SE.toQ (se_call ((fn_law_word h).mono (by decide)) hr hgd (by rfl) h.d26.gl h.d26.fn.kp h.d26.bi psD (sk_m (pv 0) (sk_b (pv 2) sk_nil))) rfl)))))
    (ss_one (s_ret (se_callTupU (by rfl) h.m_tuple (by decide +kernel) (sl_cons (sb_var (pv 2)) sl_nil))))))
theorem sc_law_fare : FnScope ["state", "most"] ["state", "most"] (defScope (topS 28)) := ⟨rfl, rfl, rfl, by decide +kernel, rfl, by decide +kernel, by decide +kernel⟩
def tb_law_fare : DS := (dRet (dPick (daCons (dCall fs_law_next (dkM 0 (dkC (dOp uAdd (dVarB 1) (dC (.int (1)))) dkNil))) (daCons (dCall fs_law_next (dkM 0 (dkC (dC (.int (3))) dkNil))) (daCons (dC (.int (0))) (daCons (dVarU 1) daNil)))) (dCall fs_law_next (dkM 0 (dkC (dC (.int (4))) dkNil)))))
def fs_law_fare : FSpec := fsOf 2 [0] 2 tb_law_fare
set_option maxHeartbeats 4000000 in
theorem fn_law_fare (h : Fa K mg fa fd) : FnG P w K mg base 2 (fa 28) (fd 28) ["state", "most"] (spOf K mg fs_law_fare) :=
  fnG_of h.d28 sc_law_fare rfl fun cdv A outer s H E hr hgd =>
    (ss_one (s_ret (SE.toQ (se_pick (sa_cons (SE.toQ (se_call ((fn_law_next h).mono (by decide)) hr hgd (by rfl) h.d25.gl h.d25.fn.kp h.d25.bi psD (sk_m (pv 0) (sk_c (se_binN ou_add (sb_var (pv 1)) (SE.sb se_int)) sk_nil))) rfl) (sa_cons (SE.toQ (se_call ((fn_law_next h).mono (by decide)) hr hgd (by rfl) h.d25.gl h.d25.fn.kp h.d25.bi psD (sk_m (pv 0) (sk_c se_int sk_nil))) rfl) (sa_cons se_int (sa_cons (se_varU (pv 1) (show (1 : Nat) ∉ ([0] : List Nat) by decide)) sa_nil)))) (SE.sb (SE.toQ (se_call ((fn_law_next h).mono (by decide)) hr hgd (by rfl) h.d25.gl h.d25.fn.kp h.d25.bi psD (sk_m (pv 0) (sk_c se_int sk_nil))) rfl)) (fun _ _ => rfl)) rfl)))
theorem sc_law_machine : FnScope ["state", "letters", "many", "most", "thick", "firsts", "lasts", "moves", "k", "rows", "letter", "after"] ["state", "letters", "many", "most", "thick"] (defScope (topS 29)) := ⟨rfl, rfl, rfl, by decide +kernel, rfl, by decide +kernel, by decide +kernel⟩
def tb_law_machine : DS := (dSeq (dAsg (dComp (diRng1 (daCons (dVarB 2) daNil)) [8] (dgName 8) dtYes (dPick (daCons (dNeg (dC (.int (1)))) (daCons (dCall fs_law_fare (dkM 0 (dkB 3 dkNil))) daNil)) (dCl gInt (daCons (dOp uEq (dCall fs_law_next (dkM 0 (dkC (dC (.int (3))) dkNil))) (dC (.int (0)))) daNil)))) (dgName 5))
    (dSeq (dAsg (dComp (diRng1 (daCons (dVarB 2) daNil)) [8] (dgName 8) dtYes (dPick (daCons (dNeg (dC (.int (1)))) (daCons (dCall fs_law_fare (dkM 0 (dkB 3 dkNil))) daNil)) (dCl gInt (daCons (dOp uEq (dCall fs_law_next (dkM 0 (dkC (dC (.int (2))) dkNil))) (dC (.int (0)))) daNil)))) (dgName 6))
    (dSeq (dIfS (dtE (dOp uGt (dCall fs_law_next (dkM 0 (dkC (dC (.int (8))) dkNil))) (dC (.int (0)))))
      (dSeq (dSetIx 5 (dC (.int (0))) (dCall fs_law_fare (dkM 0 (dkB 3 dkNil))))
    (dSetIx 6 (dCall fs_law_next (dkM 0 (dkB 2 dkNil))) (dCall fs_law_fare (dkM 0 (dkB 3 dkNil)))))
      dNext)
    (dSeq (dAsg (dLst daNil) (dgName 7))
    (dSeq (dFor (diRng1 (daCons (dVarB 2) daNil)) (dgName 8)
      (dSeq (dAsg (dLst daNil) (dgName 9))
    (dSeq (dFor (diAny (dVarU 1)) (dgName 10)
      (dDrop (dApp 9 (dCl gTupU (daCons (dComp (diRng1 (daCons (dVarB 2) daNil)) [11] (dgName 11) (dtE (dOp uLt (dCall fs_law_next (dkM 0 (dkC (dC (.int (6))) dkNil))) (dVarB 4))) (dTup (daCons (dVarU 11) (daCons (dCall fs_law_fare (dkM 0 (dkB 3 dkNil))) daNil)))) daNil)))))
    (dDrop (dApp 7 (dCl gTupU (daCons (dVarB 9) daNil)))))))
    (dRet (dTup (daCons (dVarU 1) (daCons (dCl gTupU (daCons (dVarB 5) daNil)) (daCons (dCl gTupU (daCons (dVarB 7) daNil)) (daCons (dCl gTupU (daCons (dVarB 6) daNil)) daNil)))))))))))
def fs_law_machine : FSpec := fsOf 5 [0] 12 tb_law_machine
set_option maxHeartbeats 4000000 in
theorem fn_law_machine (h : Fa K mg fa fd) : FnG P w K mg base 3 (fa 29) (fd 29) ["state", "letters", "many", "most", "thick"] (spOf K mg fs_law_machine) :=
  fnG_of h.d29 sc_law_machine rfl fun cdv A outer s H E hr hgd =>
    (ss_cons (s_setCompK (i := 5) rfl sc_law_machine.nd rfl rfl (show (5 : Nat) ∉ ([0] : List Nat) by decide) rfl (si_rng1 (by rfl) h.m_range (sl_cons (sb_var (pv 2)) sl_nil)) (blkOk_by (N := [("state" : Str), ("letters" : Str), ("many" : Str), ("most" : Str), ("thick" : Str), ("firsts" : Str), ("lasts" : Str), ("moves" : Str), ("k" : Str), ("rows" : Str), ("letter" : Str), ("after" : Str)]) (sc := defScope (topS 29)) (own := [(("k" : Str), 8)]) (by decide +kernel)) rfl (fun _ _ _ _ _ => (sg_name (i := 8) sc_law_machine.nd rfl (by first | exact Or.inl rfl | exact Or.inr rfl) (show (8 : Nat) ∉ ([0] : List Nat) by decide))) (fun _ _ _ _ _ => sts_nil) (fun _ _ _ _ _ => (SE.toQ (se_pick (sa_cons (se_neg (SE.sb se_int)) (sa_cons (SE.toQ (se_call ((fn_law_fare h).mono (by decide)) hr hgd (by rfl) h.d28.gl h.d28.fn.kp h.d28.bi (passF rfl rfl) (sk_m (pv 0) (sk_b (pv 3) sk_nil))) rfl) sa_nil)) (SE.sb (se_callTy oc_int (by rfl) h.m_int (by decide +kernel) (sl_cons (SE.sb (se_cmp (ou_eq hr.units) (SE.sb (SE.toQ (se_call ((fn_law_next h).mono (by decide)) hr hgd (by rfl) h.d25.gl h.d25.fn.kp h.d25.bi (passF rfl rfl) (sk_m (pv 0) (sk_c se_int sk_nil))) rfl)) (SE.sb se_int) (by rfl))) sl_nil))) (fun _ _ => rfl)) rfl)) (by decide) (show ∀ i ∈ ([8] : List Nat), i ∉ ([0] : List Nat) by decide))
    (ss_cons (s_setCompK (i := 6) rfl sc_law_machine.nd rfl rfl (show (6 : Nat) ∉ ([0] : List Nat) by decide) rfl (si_rng1 (by rfl) h.m_range (sl_cons (sb_var (pv 2)) sl_nil)) (blkOk_by (N := [("state" : Str), ("letters" : Str), ("many" : Str), ("most" : Str), ("thick" : Str), ("firsts" : Str), ("lasts" : Str), ("moves" : Str), ("k" : Str), ("rows" : Str), ("letter" : Str), ("after" : Str)]) (sc := defScope (topS 29)) (own := [(("k" : Str), 8)]) (by decide +kernel)) rfl (fun _ _ _ _ _ => (sg_name (i := 8) sc_law_machine.nd rfl (by first | exact Or.inl rfl | exact Or.inr rfl) (show (8 : Nat) ∉ ([0] : List Nat) by decide))) (fun _ _ _ _ _ => sts_nil) (fun _ _ _ _ _ => (SE.toQ (se_pick (sa_cons (se_neg (SE.sb se_int)) (sa_cons (SE.toQ (se_call ((fn_law_fare h).mono (by decide)) hr hgd (by rfl) h.d28.gl h.d28.fn.kp h.d28.bi (passF rfl rfl) (sk_m (pv 0) (sk_b (pv 3) sk_nil))) rfl) sa_nil)) (SE.sb (se_callTy oc_int (by rfl) h.m_int (by decide +kernel) (sl_cons (SE.sb (se_cmp (ou_eq hr.units) (SE.sb (SE.toQ (se_call ((fn_law_next h).mono (by decide)) hr hgd (by rfl) h.d25.gl h.d25.fn.kp h.d25.bi (passF rfl rfl) (sk_m (pv 0) (sk_c se_int sk_nil))) rfl)) (SE.sb se_int) (by rfl))) sl_nil))) (fun _ _ => rfl)) rfl)) (by decide) (show ∀ i ∈ ([8] : List Nat), i ∉ ([0] : List Nat) by decide))
    (ss_cons (s_if (st_cmp ou_gt (SE.sb (SE.toQ (se_call ((fn_law_next h).mono (by decide)) hr hgd (by rfl) h.d25.gl h.d25.fn.kp h.d25.bi psD (sk_m (pv 0) (sk_c se_int sk_nil))) rfl)) (SE.sb se_int) (by rfl))
      (ss_cons (s_setIx (i := 5) (pv 5) (SE.sb se_int) (SE.toQ (se_call ((fn_law_fare h).mono (by decide)) hr hgd (by rfl) h.d28.gl h.d28.fn.kp h.d28.bi psD (sk_m (pv 0) (sk_b (pv 3) sk_nil))) rfl))
    (ss_one (s_setIx (i := 6) (pv 6) (SE.sb (SE.toQ (se_call ((fn_law_next h).mono (by decide)) hr hgd (by rfl) h.d25.gl h.d25.fn.kp h.d25.bi psD (sk_m (pv 0) (sk_b (pv 2) sk_nil))) rfl)) (SE.toQ (se_call ((fn_law_fare h).mono (by decide)) hr hgd (by rfl) h.d28.gl h.d28.fn.kp h.d28.bi psD (sk_m (pv 0) (sk_b (pv 3) sk_nil))) rfl))))
      ss_nil)
    (ss_cons (s_set (i := 7) sc_law_machine.nd rfl (by first | exact Or.inl rfl | exact Or.inr rfl) (show (7 : Nat) ∉ ([0] : List Nat) by decide) (SE.toQ (se_lst sa_nil) rfl))
    (ss_cons (s_for poD rfl (si_rng1 (by rfl) h.m_range (sl_cons (sb_var (pv 2)) sl_nil)) (sg_name (i := 8) sc_law_machine.nd rfl (by first | exact Or.inl rfl | exact Or.inr rfl) (show (8 : Nat) ∉ ([0] : List Nat) by decide))
      (ss_cons (s_set (i := 9) sc_law_machine.nd rfl (by first | exact Or.inl rfl | exact Or.inr rfl) (show (9 : Nat) ∉ ([0] : List Nat) by decide) (SE.toQ (se_lst sa_nil) rfl))
    (ss_cons (s_for poD rfl (si_all (se_varU (pv 1) (show (1 : Nat) ∉ ([0] : List Nat) by decide))) (sg_name (i := 10) sc_law_machine.nd rfl (by first | exact Or.inl rfl | exact Or.inr rfl) (show (10 : Nat) ∉ ([0] : List Nat) by decide))
      (ss_one (s_expr (se_append (pv 9) (se_callTupU (by rfl) h.m_tuple (by decide +kernel) (sl_cons (SE.sb (SE.toQ (se_compK rfl sc_law_machine.nd (si_rng1 (by rfl) h.m_range (sl_cons (sb_var (pv 2)) sl_nil)) (blkOk_by (N := [("state" : Str), ("letters" : Str), ("many" : Str), ("most" : Str), ("thick" : Str), ("firsts" : Str), ("lasts" : Str), ("moves" : Str), ("k" : Str), ("rows" : Str), ("letter" : Str), ("after" : Str)]) (sc := defScope (topS 29)) (own := [(("after" : Str), 11)]) (by decide +kernel)) rfl (fun _ _ _ _ _ => (sg_name (i := 11) sc_law_machine.nd rfl (by first | exact Or.inl rfl | exact Or.inr rfl) (show (11 : Nat) ∉ ([0] : List Nat) by decide))) (fun _ _ _ _ _ => (sts_one (st_cmp ou_lt (SE.sb (SE.toQ (se_call ((fn_law_next h).mono (by decide)) hr hgd (by rfl) h.d25.gl h.d25.fn.kp h.d25.bi (passF rfl rfl) (sk_m (pv 0) (sk_c se_int sk_nil))) rfl)) (sb_var (pv 4)) (by rfl)))) (fun _ _ _ _ _ => (SE.toQ (se_tup (sa_cons (se_varU (pv 11) (show (11 : Nat) ∉ ([0] : List Nat) by decide)) (sa_cons (SE.toQ (se_call ((fn_law_fare h).mono (by decide)) hr hgd (by rfl) h.d28.gl h.d28.fn.kp h.d28.bi (passF rfl rfl) (sk_m (pv 0) (sk_b (pv 3) sk_nil))) rfl) sa_nil))) rfl)) (by decide) (show ∀ i ∈ ([11] : List Nat), i ∉ ([0] : List Nat) by decide)) rfl)) sl_nil))))))
    (ss_one (s_expr (se_append (pv 7) (se_callTupU (by rfl) h.m_tuple (by decide +kernel) (sl_cons (sb_var (pv 9)) sl_nil))))))))
    (ss_one (s_ret (SE.toQ (se_tup (sa_cons (se_varU (pv 1) (show (1 : Nat) ∉ ([0] : List Nat) by decide)) (sa_cons (se_callTupU (by rfl) h.m_tuple (by decide +kernel) (sl_cons (sb_var (pv 5)) sl_nil)) (sa_cons (se_callTupU (by rfl) h.m_tuple (by decide +kernel) (sl_cons (sb_var (pv 7)) sl_nil)) (sa_cons (se_callTupU (by rfl) h.m_tuple (by decide +kernel) (sl_cons (sb_var (pv 6)) sl_nil)) sa_nil))))) rfl))))))))
theorem sc_law_log : FnScope ["state", "letters", "many", "k"] ["state", "letters", "many"] (defScope (topS 30)) := ⟨rfl, rfl, rfl, by decide +kernel, rfl, by decide +kernel, by decide +kernel⟩
def tb_law_log : DS := (dRet (dCl gTupU (daCons (dComp (diRng1 (daCons (dVarB 2) daNil)) [3] (dgName 3) dtYes (dIxS (dWk (dVarB 1)) (dCall fs_law_next (dkM 0 (dkC (dCl gLen (daCons (dWk (dVarB 1)) daNil)) dkNil))))) daNil)))
def fs_law_log : FSpec := fsOf 3 [0] 4 tb_law_log
set_option maxHeartbeats 4000000 in
theorem fn_law_log (h : Fa K mg fa fd) : FnG P w K mg base 2 (fa 30) (fd 30) ["state", "letters", "many"] (spOf K mg fs_law_log) :=
  fnG_of h.d30 sc_law_log rfl fun cdv A outer s H E hr hgd =>
    (ss_one (s_ret (se_callTupU (by rfl) h.m_tuple (by decide +kernel) (sl_cons (SE.sb (SE.toQ (se_compK rfl sc_law_log.nd (si_rng1 (by rfl) h.m_range (sl_cons (sb_var (pv 2)) sl_nil)) (blkOk_by (N := [("state" : Str), ("letters" : Str), ("many" : Str), ("k" : Str)]) (sc := defScope (topS 30)) (own := [(("k" : Str), 3)]) (by decide +kernel)) rfl (fun _ _ _ _ _ => (sg_name (i := 3) sc_law_log.nd rfl (by first | exact Or.inl rfl | exact Or.inr rfl) (show (3 : Nat) ∉ ([0] : List Nat) by decide))) (fun _ _ _ _ _ => sts_nil) (fun _ _ _ _ _ => (SE.toQ (se_ixS (SB.wk (sb_var (pv 1))) (SE.sb (SE.toQ (se_call ((fn_law_next h).mono (by decide)) hr hgd (by rfl) h.d25.gl h.d25.fn.kp h.d25.bi (passF rfl rfl) (sk_m (pv 0) (sk_c (se_callB oc_len (by rfl) h.m_len PySem.boot_len (sl_cons (SB.wk (sb_var (pv 1))) sl_nil)) sk_nil))) rfl)) (fun _ _ => rfl)) rfl)) (by decide) (show ∀ i ∈ ([3] : List Nat), i ∉ ([0] : List Nat) by decide)) rfl)) sl_nil))))
theorem sc_law_row : FnScope ["machine", "fares", "letter", "letters", "firsts", "moves", "lasts", "index", "found", "after", "costs", "state", "other", "fare", "cost"] ["machine", "fares", "letter"] (defScope (topS 31)) := ⟨rfl, rfl, rfl, by decide +kernel, rfl, by decide +kernel, by decide +kernel⟩
def tb_law_row : DS := (dSeq (dAsg (dVarU 0) (dgTup 4 (dgCons (dgName 3) (dgCons (dgName 4) (dgCons (dgName 5) (dgCons (dgName 6) dgNil))))))
    (dSeq (dAsg (FM.orE (dMt isTx gIdxT (dVarB 3) (daCons (dVarB 2) daNil)) (dMt isLs gIdxL (dVarB 3) (daCons (dVarB 2) daNil))) (dgName 7))
    (dSeq (dAsg (dLst daNil) (dgName 8))
    (dSeq (dFor (diRng1 (daCons (dCl gLen (daCons (dWk (dVarB 5)) daNil)) daNil)) (dgName 9)
      (dSeq (dAsg (dLst daNil) (dgName 10))
    (dSeq (dFor (diRng1 (daCons (dCl gLen (daCons (dWk (dVarB 5)) daNil)) daNil)) (dgName 11)
      (dDrop (dExt 10 (dComp (diAny (dIx (dWk (dIxB (dWk (dVarB 5)) (dVarB 11))) (dVarB 7))) [12, 13] (dgTup 2 (dgCons (dgName 12) (dgCons (dgName 13) dgNil))) (dtAnd (dtE (dOp uEq (dVarB 12) (dVarB 9))) (dtE (dOp uGe (dIxB (dWk (dVarB 1)) (dVarB 11)) (dC (.int (0)))))) (dOp uAdd (dWk (dIxB (dWk (dVarB 1)) (dVarB 11))) (dWk (dVarB 13)))))))
    (dDrop (dApp 8 (dCl (orC gMinL gMin2) (daCons (dOp uAdd (dVarB 10) (dLst (daCons (dOp gPow (dC (.int (10))) (dC (.int (9)))) daNil))) daNil)))))))
    (dRet (dCl gTupU (daCons (dComp (diAny (dVarU 8)) [14] (dgName 14) dtYes (dPick (daCons (dVarU 14) (daCons (dNeg (dC (.int (1)))) daNil)) (dCl gInt (daCons (dOp uEq (dVarB 14) (dOp gPow (dC (.int (10))) (dC (.int (9))))) daNil)))) daNil)))))))
def fs_law_row : FSpec := fsOf 3 [] 15 tb_law_row
set_option maxHeartbeats 4000000 in
theorem fn_law_row (h : Fa K mg fa fd) : FnG P w K mg base 1 (fa 31) (fd 31) ["machine", "fares", "letter"] (spOf K mg fs_law_row) :=
  fnG_of h.d31 sc_law_row rfl fun cdv A outer s H E hr hgd =>
    (ss_cons (s_asg (se_varU (pv 0) (show (0 : Nat) ∉ ([] : List Nat) by decide)) (sg_tup rfl (sgs_cons (sg_name (i := 3) sc_law_row.nd rfl (by first | exact Or.inl rfl | exact Or.inr rfl) (show (3 : Nat) ∉ ([] : List Nat) by decide)) (sgs_cons (sg_name (i := 4) sc_law_row.nd rfl (by first | exact Or.inl rfl | exact Or.inr rfl) (show (4 : Nat) ∉ ([] : List Nat) by decide)) (sgs_cons (sg_name (i := 5) sc_law_row.nd rfl (by first | exact Or.inl rfl | exact Or.inr rfl) (show (5 : Nat) ∉ ([] : List Nat) by decide)) (sgs_cons (sg_name (i := 6) sc_law_row.nd rfl (by first | exact Or.inl rfl | exact Or.inr rfl) (show (6 : Nat) ∉ ([] : List Nat) by decide)) (sgs_nil (gs := []))))))))
    (ss_cons (s_set (i := 7) sc_law_row.nd rfl (by first | exact Or.inl rfl | exact Or.inr rfl) (show (7 : Nat) ∉ ([] : List Nat) by decide) (SE.or (se_idxT (sb_var (pv 3)) (sl_cons (sb_var (pv 2)) sl_nil)) (se_idxL (sb_var (pv 3)) (sl_cons (sb_var (pv 2)) sl_nil))))
    (ss_cons (s_set (i := 8) sc_law_row.nd rfl (by first | exact Or.inl rfl | exact Or.inr rfl) (show (8 : Nat) ∉ ([] : List Nat) by decide) (SE.toQ (se_lst sa_nil) rfl))
    (ss_cons (s_for poD rfl (si_rng1 (by rfl) h.m_range (sl_cons (SE.sb (se_callB oc_len (by rfl) h.m_len PySem.boot_len (sl_cons (SB.wk (sb_var (pv 5))) sl_nil))) sl_nil)) (sg_name (i := 9) sc_law_row.nd rfl (by first | exact Or.inl rfl | exact Or.inr rfl) (show (9 : Nat) ∉ ([] : List Nat) by decide))
      (ss_cons (s_set (i := 10) sc_law_row.nd rfl (by first | exact Or.inl rfl | exact Or.inr rfl) (show (10 : Nat) ∉ ([] : List Nat) by decide) (SE.toQ (se_lst sa_nil) rfl))
    (ss_cons (s_for poD rfl (si_rng1 (by rfl) h.m_range (sl_cons (SE.sb (se_callB oc_len (by rfl) h.m_len PySem.boot_len (sl_cons (SB.wk (sb_var (pv 5))) sl_nil))) sl_nil)) (sg_name (i := 11) sc_law_row.nd rfl (by first | exact Or.inl rfl | exact Or.inr rfl) (show (11 : Nat) ∉ ([] : List Nat) by decide))
      (ss_one (s_expr (se_extend (pv 10) (SE.toQ (se_compK rfl sc_law_row.nd (si_all (se_ix (SB.wk (sb_ix (SB.wk (sb_var (pv 5))) (sb_var (pv 11)) (fun _ _ => rfl))) (sb_var (pv 7)) (fun _ _ => rfl))) (blkOk_by (N := [("machine" : Str), ("fares" : Str), ("letter" : Str), ("letters" : Str), ("firsts" : Str), ("moves" : Str), ("lasts" : Str), ("index" : Str), ("found" : Str), ("after" : Str), ("costs" : Str), ("state" : Str), ("other" : Str), ("fare" : Str), ("cost" : Str)]) (sc := defScope (topS 31)) (own := [(("other" : Str), 12), (("fare" : Str), 13)]) (by decide +kernel)) rfl (fun _ _ _ _ _ => (sg_tup rfl (sgs_cons (sg_name (i := 12) sc_law_row.nd rfl (by first | exact Or.inl rfl | exact Or.inr rfl) (show (12 : Nat) ∉ ([] : List Nat) by decide)) (sgs_cons (sg_name (i := 13) sc_law_row.nd rfl (by first | exact Or.inl rfl | exact Or.inr rfl) (show (13 : Nat) ∉ ([] : List Nat) by decide)) (sgs_nil (gs := [])))))) (fun _ _ _ _ _ => (sts_one (SW.st (sw_and (st_cmp (ou_eq hr.units) (sb_var (pv 12)) (sb_var (pv 9)) (by rfl)) (sw_and1 (st_cmp ou_ge (sb_ix (SB.wk (sb_var (pv 1))) (sb_var (pv 11)) (fun _ _ => rfl)) (SE.sb se_int) (by rfl))))))) (fun _ _ _ _ _ => (se_binN ou_add (SB.wk (sb_ix (SB.wk (sb_var (pv 1))) (sb_var (pv 11)) (fun _ _ => rfl))) (SB.wk (sb_var (pv 13))))) (by decide) (show ∀ i ∈ ([12, 13] : List Nat), i ∉ ([] : List Nat) by decide)) rfl)))))
    (ss_one (s_expr (se_append (pv 8) (se_callB oc_minU (by rfl) h.m_min (by decide +kernel) (sl_cons (SE.sb (se_binN ou_add (sb_var (pv 10)) (SE.sb (SE.toQ (se_lst (sa_cons (se_bin oa_pow (SE.sb se_int) (SE.sb se_int)) sa_nil)) rfl)))) sl_nil))))))))
    (ss_one (s_ret (se_callTupU (by rfl) h.m_tuple (by decide +kernel) (sl_cons (SE.sb (SE.toQ (se_compK rfl sc_law_row.nd (si_all (se_varU (pv 8) (show (8 : Nat) ∉ ([] : List Nat) by decide))) (blkOk_by (N := [("machine" : Str), ("fares" : Str), ("letter" : Str), ("letters" : Str), ("firsts" : Str), ("moves" : Str), ("lasts" : Str), ("index" : Str), ("found" : Str), ("after" : Str), ("costs" : Str), ("state" : Str), ("other" : Str), ("fare" : Str), ("cost" : Str)]) (sc := defScope (topS 31)) (own := [(("cost" : Str), 14)]) (by decide +kernel)) rfl (fun _ _ _ _ _ => (sg_name (i := 14) sc_law_row.nd rfl (by first | exact Or.inl rfl | exact Or.inr rfl) (show (14 : Nat) ∉ ([] : List Nat) by decide))) (fun _ _ _ _ _ => sts_nil) (fun _ _ _ _ _ => (SE.toQ (se_pick (sa_cons (se_varU (pv 14) (show (14 : Nat) ∉ ([] : List Nat) by decide)) (sa_cons (se_neg (SE.sb se_int)) sa_nil)) (SE.sb (se_callTy oc_int (by rfl) h.m_int (by decide +kernel) (sl_cons (SE.sb (se_cmp (ou_eq hr.units) (sb_var (pv 14)) (SE.sb (se_bin oa_pow (SE.sb se_int) (SE.sb se_int))) (by rfl))) sl_nil))) (fun _ _ => rfl)) rfl)) (by decide) (show ∀ i ∈ ([14] : List Nat), i ∉ ([] : List Nat) by decide)) rfl)) sl_nil))))))))
theorem sc_law_behind : FnScope ["machine", "log", "fares", "letter"] ["machine", "log"] (defScope (topS 32)) := ⟨rfl, rfl, rfl, by decide +kernel, rfl, by decide +kernel, by decide +kernel⟩
def tb_law_behind : DS := (dSeq (dAsg (dIx (dWk (dVarB 0)) (dC (.int (1)))) (dgName 2))
    (dSeq (dFor (diAny (dVarU 1)) (dgName 3)
      (dAsg (dCall fs_law_row (dkB 0 (dkB 2 (dkB 3 dkNil)))) (dgName 2)))
    (dRet (dMov 2))))
def fs_law_behind : FSpec := fsOf 2 [] 4 tb_law_behind
set_option maxHeartbeats 4000000 in
theorem fn_law_behind (h : Fa K mg fa fd) : FnG P w K mg base 2 (fa 32) (fd 32) ["machine", "log"] (spOf K mg fs_law_behind) :=
  fnG_of h.d32 sc_law_behind rfl fun cdv A outer s H E hr hgd =>
    (ss_cons (s_set (i := 2) sc_law_behind.nd rfl (by first | exact Or.inl rfl | exact Or.inr rfl) (show (2 : Nat) ∉ ([] : List Nat) by decide) (se_ix (SB.wk (sb_var (pv 0))) (SE.sb se_int) (fun _ _ => rfl)))
    (ss_cons (s_for poD rfl (si_all (se_varU (pv 1) (show (1 : Nat) ∉ ([] : List Nat) by decide))) (sg_name (i := 3) sc_law_behind.nd rfl (by first | exact Or.inl rfl | exact Or.inr rfl) (show (3 : Nat) ∉ ([] : List Nat) by decide))
      (ss_one (s_set (i := 2) sc_law_behind.nd rfl (by first | exact Or.inl rfl | exact Or.inr rfl) (show (2 : Nat) ∉ ([] : List Nat) by decide) (SE.toQ (se_call ((fn_law_row h).mono (by decide)) hr hgd (by rfl) h.d31.gl h.d31.fn.kp h.d31.bi psD (sk_b (pv 0) (sk_b (pv 2) (sk_b (pv 3) sk_nil)))) rfl))))
    (ss_one (s_ret (se_mov (pv 2) (show (2 : Nat) ∉ ([] : List Nat) by decide))))))
theorem sc_law_ended : FnScope ["machine", "fares", "costs", "k"] ["machine", "fares"] (defScope (topS 33)) := ⟨rfl, rfl, rfl, by decide +kernel, rfl, by decide +kernel, by decide +kernel⟩
def tb_law_ended : DS := (dSeq (dAsg (dComp (diRng1 (daCons (dCl gLen (daCons (dWk (dVarB 1)) daNil)) daNil)) [3] (dgName 3) (dtAnd (dtE (dOp uGe (dIxB (dWk (dVarB 1)) (dVarB 3)) (dC (.int (0))))) (dtE (dOp uGe (dIxB (dWk (dIxB (dWk (dVarB 0)) (dC (.int (3))))) (dVarB 3)) (dC (.int (0)))))) (dOp uAdd (dWk (dIxB (dWk (dVarB 1)) (dVarB 3))) (dWk (dIxB (dWk (dIxB (dWk (dVarB 0)) (dC (.int (3))))) (dVarB 3))))) (dgName 2))
    (dRet (dPick (daCons (dNeg (dC (.int (1)))) (daCons (dCl (orC gMinL gMin2) (daCons (dOp uAdd (dVarB 2) (dLst (daCons (dOp gPow (dC (.int (10))) (dC (.int (9)))) daNil))) daNil)) daNil)) (dCl gInt (daCons (dOp uGt (dCl gLen (daCons (dVarB 2) daNil)) (dC (.int (0)))) daNil)))))
def fs_law_ended : FSpec := fsOf 2 [] 4 tb_law_ended
set_option maxHeartbeats 4000000 in
theorem fn_law_ended (h : Fa K mg fa fd) : FnG P w K mg base 1 (fa 33) (fd 33) ["machine", "fares"] (spOf K mg fs_law_ended) :=
  fnG_of h.d33 sc_law_ended rfl fun cdv A outer s H E hr hgd =>
    (ss_cons (s_setCompK (i := 2) rfl sc_law_ended.nd rfl rfl (show (2 : Nat) ∉ ([] : List Nat) by decide) rfl (si_rng1 (by rfl) h.m_range (sl_cons (SE.sb (se_callB oc_len (by rfl) h.m_len PySem.boot_len (sl_cons (SB.wk (sb_var (pv 1))) sl_nil))) sl_nil)) (blkOk_by (N := [("machine" : Str), ("fares" : Str), ("costs" : Str), ("k" : Str)]) (sc := defScope (topS 33)) (own := [(("k" : Str), 3)]) (by decide +kernel)) rfl (fun _ _ _ _ _ => (sg_name (i := 3) sc_law_ended.nd rfl (by first | exact Or.inl rfl | exact Or.inr rfl) (show (3 : Nat) ∉ ([] : List Nat) by decide))) (fun _ _ _ _ _ => (sts_one (SW.st (sw_and (st_cmp ou_ge (sb_ix (SB.wk (sb_var (pv 1))) (sb_var (pv 3)) (fun _ _ => rfl)) (SE.sb se_int) (by rfl)) (sw_and1 (st_cmp ou_ge (sb_ix (SB.wk (sb_ix (SB.wk (sb_var (pv 0))) (SE.sb se_int) (fun _ _ => rfl))) (sb_var (pv 3)) (fun _ _ => rfl)) (SE.sb se_int) (by rfl))))))) (fun _ _ _ _ _ => (se_binN ou_add (SB.wk (sb_ix (SB.wk (sb_var (pv 1))) (sb_var (pv 3)) (fun _ _ => rfl))) (SB.wk (sb_ix (SB.wk (sb_ix (SB.wk (sb_var (pv 0))) (SE.sb se_int) (fun _ _ => rfl))) (sb_var (pv 3)) (fun _ _ => rfl))))) (by decide) (show ∀ i ∈ ([3] : List Nat), i ∉ ([] : List Nat) by decide))
    (ss_one (s_ret (SE.toQ (se_pick (sa_cons (se_neg (SE.sb se_int)) (sa_cons (se_callB oc_minU (by rfl) h.m_min (by decide +kernel) (sl_cons (SE.sb (se_binN ou_add (sb_var (pv 2)) (SE.sb (SE.toQ (se_lst (sa_cons (se_bin oa_pow (SE.sb se_int) (SE.sb se_int)) sa_nil)) rfl)))) sl_nil)) sa_nil)) (SE.sb (se_callTy oc_int (by rfl) h.m_int (by decide +kernel) (sl_cons (SE.sb (se_cmp ou_gt (SE.sb (se_callB oc_len (by rfl) h.m_len PySem.boot_len (sl_cons (sb_var (pv 2)) sl_nil))) (SE.sb se_int) (by rfl))) sl_nil))) (fun _ _ => rfl)) rfl))))
theorem sc_law_fare_of : FnScope ["machine", "log"] ["machine", "log"] (defScope (topS 34)) := ⟨rfl, rfl, rfl, by decide +kernel, rfl, by decide +kernel, by decide +kernel⟩
def tb_law_fare_of : DS := (dRet (dCall fs_law_ended (dkB 0 (dkC (dCall fs_law_behind (dkB 0 (dkB 1 dkNil))) dkNil))))
def fs_law_fare_of : FSpec := fsOf 2 [] 2 tb_law_fare_of
set_option maxHeartbeats 4000000 in
theorem fn_law_fare_of (h : Fa K mg fa fd) : FnG P w K mg base 3 (fa 34) (fd 34) ["machine", "log"] (spOf K mg fs_law_fare_of) :=
  fnG_of h.d34 sc_law_fare_of rfl fun cdv A outer s H E hr hgd =>
    (ss_one (s_ret (SE.toQ (se_call ((fn_law_ended h).mono (by decide)) hr hgd (by rfl) h.d33.gl h.d33.fn.kp h.d33.bi psD (sk_b (pv 0) (sk_c (SE.toQ (se_call ((fn_law_behind h).mono (by decide)) hr hgd (by rfl) h.d32.gl h.d32.fn.kp h.d32.bi psD (sk_b (pv 0) (sk_b (pv 1) sk_nil))) rfl) sk_nil))) rfl)))
theorem sc_law_error : FnScope ["e", "names", "one"] ["e"] (defScope (topS 35)) := ⟨rfl, rfl, rfl, by decide +kernel, rfl, by decide +kernel, by decide +kernel⟩
def tb_law_error (a : Addr) (x0 : Str) : DS := (dSeq (dAsg (dLst (daCons (dCl (gIsa isaT a x0) (daCons (dVarB 0) (daCons (dC (.cls ("NotAllowed" : Str))) daNil))) (daCons (dCl (gIsa isaT a x0) (daCons (dVarB 0) (daCons (dC (.cls ("TooLarge" : Str))) daNil))) (daCons (dCl (gIsa isaT a x0) (daCons (dVarB 0) (daCons (dC (.cls ("Missing" : Str))) daNil))) (daCons (dCl (gIsa isaT a x0) (daCons (dVarB 0) (daCons (dTup (daCons (dC (.cls ("BadPaper" : Str))) (daCons (dC (.cls ("BadForm" : Str))) daNil))) daNil))) daNil))))) (dgName 1))
    (dSeq (dIfS (dtE (dOp uNe (dSumB 1) (dC (.int (1)))))
      (dRet (dC (.str ("odd" : Str))))
      dNext)
    (dRet (dPick (daCons (dC (.str ("refused" : Str))) (daCons (dC (.str ("large" : Str))) (daCons (dC (.str ("missing" : Str))) (daCons (dC (.str ("odd" : Str))) daNil)))) (FM.orE (dMt isTx gIdxT (dVarB 1) (daCons (dC (.bl true)) daNil)) (dMt isLs gIdxL (dVarB 1) (daCons (dC (.bl true)) daNil)))))))
def fs_law_error (a : Addr) (x0 : Str) : FSpec := fsOf 1 [] 3 (tb_law_error a x0)
set_option maxHeartbeats 4000000 in
theorem fn_law_error (h : Fa K mg fa fd) : FnGH P w K mg base 1 (fa 35) (fd 35) ["e"] fs_law_error :=
  fnGH_of h.d35 sc_law_error rfl fun cdv A outer s H E a C oe x0 hr hot hx hC hz hgd =>
    (ss_cons (s_set (i := 1) sc_law_error.nd rfl (by first | exact Or.inl rfl | exact Or.inr rfl) (show (1 : Nat) ∉ ([] : List Nat) by decide) (SE.toQ (se_lst (sa_cons (se_callB (oc_isaP (List.mem_cons_self ..) h.isa hx hC hz (hot.2.imp fun _ q => q.1)) (by rfl) h.m_isinstance boot_isinstance (sl_cons (sb_var (pv 0)) (sl_cons (SE.sb (se_cls (by rfl) h.k_NotAllowed)) sl_nil))) (sa_cons (se_callB (oc_isaP (List.mem_cons_self ..) h.isa hx hC hz (hot.2.imp fun _ q => q.1)) (by rfl) h.m_isinstance boot_isinstance (sl_cons (sb_var (pv 0)) (sl_cons (SE.sb (se_cls (by rfl) h.k_TooLarge)) sl_nil))) (sa_cons (se_callB (oc_isaP (List.mem_cons_self ..) h.isa hx hC hz (hot.2.imp fun _ q => q.1)) (by rfl) h.m_isinstance boot_isinstance (sl_cons (sb_var (pv 0)) (sl_cons (SE.sb (se_cls (by rfl) h.k_Missing)) sl_nil))) (sa_cons (se_callB (oc_isaP (List.mem_cons_self ..) h.isa hx hC hz (hot.2.imp fun _ q => q.1)) (by rfl) h.m_isinstance boot_isinstance (sl_cons (sb_var (pv 0)) (sl_cons (SE.sb (SE.toQ (se_tup (sa_cons (se_cls (by rfl) h.k_BadPaper) (sa_cons (se_cls (by rfl) h.k_BadForm) sa_nil))) rfl)) sl_nil))) sa_nil))))) rfl))
    (ss_cons (s_if (st_cmp (ou_ne hr.units) (SE.sb (se_sumIntH (hotD hot) (pv 1) (by rfl) h.m_sum h.m_int (by decide +kernel) (by decide +kernel) rfl (by decide +kernel) rfl (by decide) (fun _ _ => rfl))) (SE.sb se_int) (by rfl))
      (ss_one (s_ret se_str))
      ss_nil)
    (ss_one (s_ret (SE.toQ (se_pick (sa_cons se_str (sa_cons se_str (sa_cons se_str (sa_cons se_str sa_nil)))) (SE.sb (SE.or (se_idxT (sb_var (pv 1)) (sl_cons (SE.sb se_bl) sl_nil)) (se_idxL (sb_var (pv 1)) (sl_cons (SE.sb se_bl) sl_nil)))) (fun _ _ => rfl)) rfl)))))
theorem sc_law_chart : FnScope ["machine", "log", "rows", "state", "fares", "letter", "other"] ["machine", "log"] (defScope (topS 36)) := ⟨rfl, rfl, rfl, by decide +kernel, rfl, by decide +kernel, by decide +kernel⟩
def tb_law_chart : DS := (dSeq (dAsg (dLst daNil) (dgName 2))
    (dSeq (dFor (diRng1 (daCons (dCl gLen (daCons (dWk (dIxB (dWk (dVarB 0)) (dC (.int (2))))) daNil)) daNil)) (dgName 3)
      (dSeq (dAsg (dCl gTupU (daCons (dComp (diRng1 (daCons (dCl gLen (daCons (dWk (dIxB (dWk (dVarB 0)) (dC (.int (2))))) daNil)) daNil)) [6] (dgName 6) dtYes (dPick (daCons (dNeg (dC (.int (1)))) (daCons (dC (.int (0))) daNil)) (dCl gInt (daCons (dOp uEq (dVarB 6) (dVarB 3)) daNil)))) daNil)) (dgName 4))
    (dSeq (dFor (diAny (dVarU 1)) (dgName 5)
      (dAsg (dCall fs_law_row (dkB 0 (dkB 4 (dkB 5 dkNil)))) (dgName 4)))
    (dDrop (dApp 2 (dVarU 4))))))
    (dRet (dCl gTupU (daCons (dVarB 2) daNil)))))
def fs_law_chart : FSpec := fsOf 2 [] 7 tb_law_chart
set_option maxHeartbeats 4000000 in
theorem fn_law_chart (h : Fa K mg fa fd) : FnG P w K mg base 2 (fa 36) (fd 36) ["machine", "log"] (spOf K mg fs_law_chart) :=
  fnG_of h.d36 sc_law_chart rfl fun cdv A outer s H E hr hgd =>
    (ss_cons (s_set (i := 2) sc_law_chart.nd rfl (by first | exact Or.inl rfl | exact Or.inr rfl) (show (2 : Nat) ∉ ([] : List Nat) by decide) (SE.toQ (se_lst sa_nil) rfl))
    (ss_cons (s_for poD rfl (si_rng1 (by rfl) h.m_range (sl_cons (SE.sb (se_callB oc_len (by rfl) h.m_len PySem.boot_len (sl_cons (SB.wk (sb_ix (SB.wk (sb_var (pv 0))) (SE.sb se_int) (fun _ _ => rfl))) sl_nil))) sl_nil)) (sg_name (i := 3) sc_law_chart.nd rfl (by first | exact Or.inl rfl | exact Or.inr rfl) (show (3 : Nat) ∉ ([] : List Nat) by decide))
      (ss_cons (s_set (i := 4) sc_law_chart.nd rfl (by first | exact Or.inl rfl | exact Or.inr rfl) (show (4 : Nat) ∉ ([] : List Nat) by decide) (se_callTupU (by rfl) h.m_tuple (by decide +kernel) (sl_cons (SE.sb (SE.toQ (se_compK rfl sc_law_chart.nd (si_rng1 (by rfl) h.m_range (sl_cons (SE.sb (se_callB oc_len (by rfl) h.m_len PySem.boot_len (sl_cons (SB.wk (sb_ix (SB.wk (sb_var (pv 0))) (SE.sb se_int) (fun _ _ => rfl))) sl_nil))) sl_nil)) (blkOk_by (N := [("machine" : Str), ("log" : Str), ("rows" : Str), ("state" : Str), ("fares" : Str), ("letter" : Str), ("other" : Str)]) (sc := defScope (topS 36)) (own := [(("other" : Str), 6)]) (by decide +kernel)) rfl (fun _ _ _ _ _ => (sg_name (i := 6) sc_law_chart.nd rfl (by first | exact Or.inl rfl | exact Or.inr rfl) (show (6 : Nat) ∉ ([] : List Nat) by decide))) (fun _ _ _ _ _ => sts_nil) (fun _ _ _ _ _ => (SE.toQ (se_pick (sa_cons (se_neg (SE.sb se_int)) (sa_cons se_int sa_nil)) (SE.sb (se_callTy oc_int (by rfl) h.m_int (by decide +kernel) (sl_cons (SE.sb (se_cmp (ou_eq hr.units) (sb_var (pv 6)) (sb_var (pv 3)) (by rfl))) sl_nil))) (fun _ _ => rfl)) rfl)) (by decide) (show ∀ i ∈ ([6] : List Nat), i ∉ ([] : List Nat) by decide)) rfl)) sl_nil)))
    (ss_cons (s_for poD rfl (si_all (se_varU (pv 1) (show (1 : Nat) ∉ ([] : List Nat) by decide))) (sg_name (i := 5) sc_law_chart.nd rfl (by first | exact Or.inl rfl | exact Or.inr rfl) (show (5 : Nat) ∉ ([] : List Nat) by decide))
      (ss_one (s_set (i := 4) sc_law_chart.nd rfl (by first | exact Or.inl rfl | exact Or.inr rfl) (show (4 : Nat) ∉ ([] : List Nat) by decide) (SE.toQ (se_call ((fn_law_row h).mono (by decide)) hr hgd (by rfl) h.d31.gl h.d31.fn.kp h.d31.bi psD (sk_b (pv 0) (sk_b (pv 4) (sk_b (pv 5) sk_nil)))) rfl))))
    (ss_one (s_expr (se_append (pv 2) (se_varU (pv 4) (show (4 : Nat) ∉ ([] : List Nat) by decide))))))))
    (ss_one (s_ret (se_callTupU (by rfl) h.m_tuple (by decide +kernel) (sl_cons (sb_var (pv 2)) sl_nil))))))
theorem sc_law_some_machine : FnScope ["state", "most", "letters"] ["state", "most"] (defScope (topS 37)) := ⟨rfl, rfl, rfl, by decide +kernel, rfl, by decide +kernel, by decide +kernel⟩
def tb_law_some_machine : DS := (dSeq (dAsg (dCall fs_law_letters (dkM 0 (dkC (dOp uAdd (dC (.int (1))) (dCall fs_law_next (dkM 0 (dkC (dC (.int (3))) dkNil)))) dkNil))) (dgName 2))
    (dRet (dCall fs_law_machine (dkM 0 (dkB 2 (dkC (dOp uAdd (dC (.int (1))) (dCall fs_law_next (dkM 0 (dkB 1 dkNil)))) (dkC (dPick (daCons (dC (.int (9))) (daCons (dC (.int (99))) (daCons (dC (.int (2))) daNil))) (dCall fs_law_next (dkM 0 (dkC (dC (.int (3))) dkNil)))) (dkC (dOp uAdd (dC (.int (1))) (dCall fs_law_next (dkM 0 (dkC (dC (.int (6))) dkNil)))) dkNil))))))))
def fs_law_some_machine : FSpec := fsOf 2 [0] 3 tb_law_some_machine
set_option maxHeartbeats 4000000 in
theorem fn_law_some_machine (h : Fa K mg fa fd) : FnG P w K mg base 4 (fa 37) (fd 37) ["state", "most"] (spOf K mg fs_law_some_machine) :=
  fnG_of h.d37 sc_law_some_machine rfl fun cdv A outer s H E hr hgd =>
    (ss_cons (s_set (i := 2) sc_law_some_machine.nd rfl (by first | exact Or.inl rfl | exact Or.inr rfl) (show (2 : Nat) ∉ ([0] : List Nat) by decide) (SE.toQ (se_call ((fn_law_letters h).mono (by decide)) hr hgd (by rfl) h.d27.gl h.d27.fn.kp h.d27.bi psD (sk_m (pv 0) (sk_c (SE.toQ (se_binNO ou_add se_int (SE.sb (SE.toQ (se_call ((fn_law_next h).mono (by decide)) hr hgd (by rfl) h.d25.gl h.d25.fn.kp h.d25.bi psD (sk_m (pv 0) (sk_c se_int sk_nil))) rfl))) rfl) sk_nil))) rfl))
    (ss_one (s_ret (SE.toQ (se_call ((fn_law_machine h).mono (by decide)) hr hgd (by rfl) h.d29.gl h.d29.fn.kp h.d29.bi psD (sk_m (pv 0) (sk_b (pv 2) (sk_c (SE.toQ (se_binNO ou_add se_int (SE.sb (SE.toQ (se_call ((fn_law_next h).mono (by decide)) hr hgd (by rfl) h.d25.gl h.d25.fn.kp h.d25.bi psD (sk_m (pv 0) (sk_b (pv 1) sk_nil))) rfl))) rfl) (sk_c (SE.toQ (se_pick (sa_cons se_int (sa_cons se_int (sa_cons se_int sa_nil))) (SE.sb (SE.toQ (se_call ((fn_law_next h).mono (by decide)) hr hgd (by rfl) h.d25.gl h.d25.fn.kp h.d25.bi psD (sk_m (pv 0) (sk_c se_int sk_nil))) rfl)) (fun _ _ => rfl)) rfl) (sk_c (SE.toQ (se_binNO ou_add se_int (SE.sb (SE.toQ (se_call ((fn_law_next h).mono (by decide)) hr hgd (by rfl) h.d25.gl h.d25.fn.kp h.d25.bi psD (sk_m (pv 0) (sk_c se_int sk_nil))) rfl))) rfl) sk_nil)))))) rfl))))
def tab_law_told_0 (x : Str) : Option FSpec := if x = ("chart_of" : Str) then some fs_chart_of else if x = ("fare_by_chart" : Str) then some fs_fare_by_chart else none
theorem tab_law_told_0_ok {X : Cx} (h : Fa X.K X.mg fa fd) : TabK X 4 tab_law_told_0 := by
  intro x fs e
  unfold tab_law_told_0 at e
  split at e
  · rename_i hx
    subst hx
    cases e
    exact ⟨_, _, _, h.d19.gl, (fn_chart_of h).mono (by decide), h.d19.fn.kp, h.d19.bi⟩
  split at e
  · rename_i hx
    subst hx
    cases e
    exact ⟨_, _, _, h.d21.gl, (fn_fare_by_chart h).mono (by decide), h.d21.fn.kp, h.d21.bi⟩
  cases e
theorem sc_law_told : FnScope ["way", "machine", "thing", "e"] ["way", "machine", "thing"] (defScope (topS 38)) := ⟨rfl, rfl, rfl, by decide +kernel, rfl, by decide +kernel, by decide +kernel⟩
def tb_law_told : DS := (dRet (dTup (daCons (dC (.str ("told" : Str))) (daCons (dCallX tab_law_told_0 (dPick (daCons (dC (.cls ("chart_of" : Str))) (daCons (dC (.cls ("fare_by_chart" : Str))) daNil)) (dVarB 0)) (dkB 1 (dkB 2 dkNil))) daNil))))
def th_law_told (a : Addr) (x0 : Str) : DS := (dRet (dCall (fs_law_error a x0) (dkB 3 dkNil)))
def fs_law_told : FSpec := fsTry 3 4 3 (fun x => isaT x ("FareError" : Str)) tb_law_told th_law_told
set_option maxHeartbeats 4000000 in
theorem fn_law_told (h : Fa K mg fa fd) : FnG P w K mg base 5 (fa 38) (fd 38) ["way", "machine", "thing"] (spOf K mg fs_law_told) := by
  obtain ⟨CC, hc, hT⟩ := h.y_FareError
  exact fnG_try h.d38 sc_law_told rfl rfl rfl rfl hc (by first | exact .inl rfl | exact .inr rfl) (by decide) hT (fun cdv A outer s H E => by rfl)
    (fun cdv A outer s H E E' pn xe hr hgd tk po => (ss_one (s_ret (SE.toQ (se_tup (sa_cons se_str (sa_cons (SE.toQ (se_callX (tab_law_told_0_ok h) (SE.sb (SE.toQ (se_pick (sa_cons (se_cls (by rfl) ⟨_, h.d19.gl⟩) (sa_cons (se_cls (by rfl) ⟨_, h.d21.gl⟩) sa_nil)) (sb_var (pv 0)) (fun _ _ => rfl)) rfl)) hr hgd (L2N.passes_call tk fun _ _ _ _ h => h) (sk_b (pv 1) (sk_b (pv 2) sk_nil))) rfl) sa_nil))) rfl))))
    (fun cdv A outer s H E a C oe pn x0 hr hx hC hz hf hgd => (ss_one (s_ret (SE.toQ (se_callH ((fn_law_error h).mono (by decide)) hr hx hC hz hf hgd (by rfl) h.d35.gl h.d35.fn.kp h.d35.bi (sk_b (pv 3) sk_nil)) rfl))))
theorem sc_law : FnScope ["script", "state", "turn", "machine", "log", "kept", "one", "other", "charts", "part", "bad"] ["script"] (defScope (topS 39)) := ⟨rfl, rfl, rfl, by decide +kernel, rfl, by decide +kernel, by decide +kernel⟩
def tb_law : DS := (dSeq (dAsg (dLst (daCons (dCall fs_law_stream (dkB 0 dkNil)) (daCons (dC (.int (0))) daNil))) (dgName 1))
    (dSeq (dFor (diRng1 (daCons (dC (.int (3))) daNil)) (dgName 2)
      (dSeq (dAsg (dCall fs_law_some_machine (dkM 1 (dkC (dPick (daCons (dC (.int (3))) (daCons (dC (.int (5))) (daCons (dC (.int (8))) daNil))) (dVarB 2)) dkNil))) (dgName 3))
    (dSeq (dAsg (dCall fs_law_log (dkM 1 (dkC (dIx (dWk (dVarB 3)) (dC (.int (0)))) (dkC (dCall fs_law_next (dkM 1 (dkC (dC (.int (31))) dkNil))) dkNil)))) (dgName 4))
    (dSeq (dAsg (dCl gRepr (daCons (dTup (daCons (dVarU 3) (daCons (dVarU 4) daNil))) daNil)) (dgName 5))
    (dSeq (dAsg (dCall fs_law_next (dkM 1 (dkC (dOp uAdd (dCl gLen (daCons (dWk (dVarB 4)) daNil)) (dC (.int (1)))) dkNil))) (dgName 6))
    (dSeq (dAsg (dOp uAdd (dVarU 6) (dCall fs_law_next (dkM 1 (dkC (dOp uAdd (dOp gSub (dCl gLen (daCons (dWk (dVarB 4)) daNil)) (dVarB 6)) (dC (.int (1)))) dkNil)))) (dgName 7))
    (dSeq (dAsg (dComp (diAny (dLst (daCons (dSl (dWk (dVarB 4)) doNone (doSome (dVarB 6))) (daCons (dSl (dWk (dVarB 4)) (doSome (dVarB 6)) (doSome (dVarB 7))) (daCons (dSl (dWk (dVarB 4)) (doSome (dVarB 7)) doNone) (daCons (dVarU 4) daNil)))))) [9] (dgName 9) dtYes (dCall fs_law_chart (dkB 3 (dkB 9 dkNil)))) (dgName 8))
    (dSeq (dIfS (dtOr (dtNot (dtTru (dCall fs_law_same (dkC (dCall fs_law_told (dkC (dC (.int (0))) (dkB 3 (dkB 4 dkNil)))) (dkC (dTup (daCons (dC (.str ("told" : Str))) (daCons (dIx (dVarB 8) (dC (.int (3)))) daNil))) dkNil))))) (dtNot (dtTru (dCall fs_law_same (dkC (dCall fs_law_told (dkC (dC (.int (1))) (dkB 3 (dkC (dIx (dVarB 8) (dC (.int (3)))) dkNil)))) (dkC (dTup (daCons (dC (.str ("told" : Str))) (daCons (dCall fs_law_fare_of (dkB 3 (dkB 4 dkNil))) daNil))) dkNil))))))
      (dRet (dC (.bl false)))
      dNext)
    (dSeq (dIfS (dtOr (dtNot (dtTru (dCall fs_law_same (dkC (dCall fs_product (dkC (dCall fs_product (dkC (dIx (dVarB 8) (dC (.int (0)))) (dkC (dIx (dVarB 8) (dC (.int (1)))) dkNil))) (dkC (dIx (dVarB 8) (dC (.int (2)))) dkNil))) (dkC (dIx (dVarB 8) (dC (.int (3)))) dkNil))))) (dtNot (dtTru (dCall fs_law_same (dkC (dCall fs_product (dkC (dIx (dVarB 8) (dC (.int (0)))) (dkC (dCall fs_product (dkC (dIx (dVarB 8) (dC (.int (1)))) (dkC (dIx (dVarB 8) (dC (.int (2)))) dkNil))) dkNil))) (dkC (dIx (dVarB 8) (dC (.int (3)))) dkNil))))))
      (dRet (dC (.bl false)))
      dNext)
    (dSeq (dIfS (dtNot (dtTru (dCall fs_law_same (dkC (dCall fs_law_told (dkC (dC (.int (0))) (dkB 3 (dkC (dTup daNil) dkNil)))) (dkC (dTup (daCons (dC (.str ("told" : Str))) (daCons (dCall fs_law_chart (dkB 3 (dkC (dTup daNil) dkNil))) daNil))) dkNil)))))
      (dRet (dC (.bl false)))
      dNext)
    (dIfS (dtOr (dtE (dOp uNe (dComp (diAny (dLst (daCons (dOp uAdd (dWk (dVarB 4)) (dTup (daCons (dC (.str ("q" : Str))) daNil))) (daCons (dOp uMul (dTup (daCons (dIx (dWk (dIxB (dWk (dVarB 3)) (dC (.int (0))))) (dC (.int (0)))) daNil)) (dC (.int (401)))) daNil)))) [10] (dgName 10) dtYes (dCall fs_law_told (dkC (dC (.int (0))) (dkB 3 (dkB 10 dkNil))))) (dOp uMul (dLst (daCons (dC (.str ("refused" : Str))) daNil)) (dC (.int (2)))))) (dtE (dOp uNe (dCl gRepr (daCons (dTup (daCons (dVarU 3) (daCons (dVarU 4) daNil))) daNil)) (dVarB 5))))
      (dRet (dC (.bl false)))
      dNext)))))))))))
    (dRet (dC (.bl true)))))
def fs_law : FSpec := fsOf 1 [] 11 tb_law
set_option maxHeartbeats 4000000 in
theorem fn_law (h : Fa K mg fa fd) : FnG P w K mg base 6 (fa 39) (fd 39) ["script"] (spOf K mg fs_law) :=
  fnG_of h.d39 sc_law rfl fun cdv A outer s H E hr hgd =>
    (ss_cons (s_set (i := 1) sc_law.nd rfl (by first | exact Or.inl rfl | exact Or.inr rfl) (show (1 : Nat) ∉ ([] : List Nat) by decide) (SE.toQ (se_lst (sa_cons (SE.toQ (se_call ((fn_law_stream h).mono (by decide)) hr hgd (by rfl) h.d24.gl h.d24.fn.kp h.d24.bi psD (sk_b (pv 0) sk_nil)) rfl) (sa_cons se_int sa_nil))) rfl))
    (ss_cons (s_for poD rfl (si_rng1 (by rfl) h.m_range (sl_cons (SE.sb se_int) sl_nil)) (sg_name (i := 2) sc_law.nd rfl (by first | exact Or.inl rfl | exact Or.inr rfl) (show (2 : Nat) ∉ ([] : List Nat) by decide))
      (ss_cons (s_set (i := 3) sc_law.nd rfl (by first | exact Or.inl rfl | exact Or.inr rfl) (show (3 : Nat) ∉ ([] : List Nat) by decide) (SE.toQ (se_call ((fn_law_some_machine h).mono (by decide)) hr hgd (by rfl) h.d37.gl h.d37.fn.kp h.d37.bi psD (sk_m (pv 1) (sk_c (SE.toQ (se_pick (sa_cons se_int (sa_cons se_int (sa_cons se_int sa_nil))) (sb_var (pv 2)) (fun _ _ => rfl)) rfl) sk_nil))) rfl))
    (ss_cons (s_set (i := 4) sc_law.nd rfl (by first | exact Or.inl rfl | exact Or.inr rfl) (show (4 : Nat) ∉ ([] : List Nat) by decide) (SE.toQ (se_call ((fn_law_log h).mono (by decide)) hr hgd (by rfl) h.d30.gl h.d30.fn.kp h.d30.bi psD (sk_m (pv 1) (sk_c (se_ix (SB.wk (sb_var (pv 3))) (SE.sb se_int) (fun _ _ => rfl)) (sk_c (SE.toQ (se_call ((fn_law_next h).mono (by decide)) hr hgd (by rfl) h.d25.gl h.d25.fn.kp h.d25.bi psD (sk_m (pv 1) (sk_c se_int sk_nil))) rfl) sk_nil)))) rfl))
    (ss_cons (s_set (i := 5) sc_law.nd rfl (by first | exact Or.inl rfl | exact Or.inr rfl) (show (5 : Nat) ∉ ([] : List Nat) by decide) (se_callB (oc_repr hgd (u100 hr)) (by rfl) h.m_repr (by decide +kernel) (sl_cons (SE.sb (SE.toQ (se_tup (sa_cons (se_varU (pv 3) (show (3 : Nat) ∉ ([] : List Nat) by decide)) (sa_cons (se_varU (pv 4) (show (4 : Nat) ∉ ([] : List Nat) by decide)) sa_nil))) rfl)) sl_nil)))
    (ss_cons (s_set (i := 6) sc_law.nd rfl (by first | exact Or.inl rfl | exact Or.inr rfl) (show (6 : Nat) ∉ ([] : List Nat) by decide) (SE.toQ (se_call ((fn_law_next h).mono (by decide)) hr hgd (by rfl) h.d25.gl h.d25.fn.kp h.d25.bi psD (sk_m (pv 1) (sk_c (se_binN ou_add (SE.sb (se_callB oc_len (by rfl) h.m_len PySem.boot_len (sl_cons (SB.wk (sb_var (pv 4))) sl_nil))) (SE.sb se_int)) sk_nil))) rfl))
    (ss_cons (s_set (i := 7) sc_law.nd rfl (by first | exact Or.inl rfl | exact Or.inr rfl) (show (7 : Nat) ∉ ([] : List Nat) by decide) (SE.toQ (se_binNO ou_add (se_varU (pv 6) (show (6 : Nat) ∉ ([] : List Nat) by decide)) (SE.sb (SE.toQ (se_call ((fn_law_next h).mono (by decide)) hr hgd (by rfl) h.d25.gl h.d25.fn.kp h.d25.bi psD (sk_m (pv 1) (sk_c (se_binN ou_add (SE.sb (se_bin oa_sub (SE.sb (se_callB oc_len (by rfl) h.m_len PySem.boot_len (sl_cons (SB.wk (sb_var (pv 4))) sl_nil))) (sb_var (pv 6)))) (SE.sb se_int)) sk_nil))) rfl))) rfl))
    (ss_cons (s_setCompK (i := 8) rfl sc_law.nd rfl rfl (show (8 : Nat) ∉ ([] : List Nat) by decide) rfl (si_all (SE.toQ (se_lst (sa_cons (se_slice (SB.wk (sb_var (pv 4))) so_none (so_some (sb_var (pv 6)))) (sa_cons (se_slice (SB.wk (sb_var (pv 4))) (so_some (sb_var (pv 6))) (so_some (sb_var (pv 7)))) (sa_cons (se_slice (SB.wk (sb_var (pv 4))) (so_some (sb_var (pv 7))) so_none) (sa_cons (se_varU (pv 4) (show (4 : Nat) ∉ ([] : List Nat) by decide)) sa_nil))))) rfl)) (blkOk_by (N := [("script" : Str), ("state" : Str), ("turn" : Str), ("machine" : Str), ("log" : Str), ("kept" : Str), ("one" : Str), ("other" : Str), ("charts" : Str), ("part" : Str), ("bad" : Str)]) (sc := defScope (topS 39)) (own := [(("part" : Str), 9)]) (by decide +kernel)) rfl (fun _ _ _ _ _ => (sg_name (i := 9) sc_law.nd rfl (by first | exact Or.inl rfl | exact Or.inr rfl) (show (9 : Nat) ∉ ([] : List Nat) by decide))) (fun _ _ _ _ _ => sts_nil) (fun _ _ _ _ _ => (SE.toQ (se_call ((fn_law_chart h).mono (by decide)) hr hgd (by rfl) h.d36.gl h.d36.fn.kp h.d36.bi (passF rfl rfl) (sk_b (pv 3) (sk_b (pv 9) sk_nil))) rfl)) (by decide) (show ∀ i ∈ ([9] : List Nat), i ∉ ([] : List Nat) by decide))
    (ss_cons (s_if (SW.st (sw_or (st_not (st_tru (SE.sb (SE.toQ (se_call ((fn_law_same h).mono (by decide)) hr hgd (by rfl) h.d23.gl h.d23.fn.kp h.d23.bi psD (sk_c (SE.toQ (se_call ((fn_law_told h).mono (by decide)) hr hgd (by rfl) h.d38.gl h.d38.fn.kp h.d38.bi psD (sk_c se_int (sk_b (pv 3) (sk_b (pv 4) sk_nil)))) rfl) (sk_c (SE.toQ (se_tup (sa_cons se_str (sa_cons (se_ix (sb_var (pv 8)) (SE.sb se_int) (fun _ _ => rfl)) sa_nil))) rfl) sk_nil))) rfl)))) (sw_or1 (st_not (st_tru (SE.sb (SE.toQ (se_call ((fn_law_same h).mono (by decide)) hr hgd (by rfl) h.d23.gl h.d23.fn.kp h.d23.bi psD (sk_c (SE.toQ (se_call ((fn_law_told h).mono (by decide)) hr hgd (by rfl) h.d38.gl h.d38.fn.kp h.d38.bi psD (sk_c se_int (sk_b (pv 3) (sk_c (se_ix (sb_var (pv 8)) (SE.sb se_int) (fun _ _ => rfl)) sk_nil)))) rfl) (sk_c (SE.toQ (se_tup (sa_cons se_str (sa_cons (SE.toQ (se_call ((fn_law_fare_of h).mono (by decide)) hr hgd (by rfl) h.d34.gl h.d34.fn.kp h.d34.bi psD (sk_b (pv 3) (sk_b (pv 4) sk_nil))) rfl) sa_nil))) rfl) sk_nil))) rfl)))))))
      (ss_one (s_ret se_bl))
      ss_nil)
    (ss_cons (s_if (SW.st (sw_or (st_not (st_tru (SE.sb (SE.toQ (se_call ((fn_law_same h).mono (by decide)) hr hgd (by rfl) h.d23.gl h.d23.fn.kp h.d23.bi psD (sk_c (SE.toQ (se_call ((fn_product h).mono (by decide)) hr hgd (by rfl) h.d20.gl h.d20.fn.kp h.d20.bi psD (sk_c (SE.toQ (se_call ((fn_product h).mono (by decide)) hr hgd (by rfl) h.d20.gl h.d20.fn.kp h.d20.bi psD (sk_c (se_ix (sb_var (pv 8)) (SE.sb se_int) (fun _ _ => rfl)) (sk_c (se_ix (sb_var (pv 8)) (SE.sb se_int) (fun _ _ => rfl)) sk_nil))) rfl) (sk_c (se_ix (sb_var (pv 8)) (SE.sb se_int) (fun _ _ => rfl)) sk_nil))) rfl) (sk_c (se_ix (sb_var (pv 8)) (SE.sb se_int) (fun _ _ => rfl)) sk_nil))) rfl)))) (sw_or1 (st_not (st_tru (SE.sb (SE.toQ (se_call ((fn_law_same h).mono (by decide)) hr hgd (by rfl) h.d23.gl h.d23.fn.kp h.d23.bi psD (sk_c (SE.toQ (se_call ((fn_product h).mono (by decide)) hr hgd (by rfl) h.d20.gl h.d20.fn.kp h.d20.bi psD (sk_c (se_ix (sb_var (pv 8)) (SE.sb se_int) (fun _ _ => rfl)) (sk_c (SE.toQ (se_call ((fn_product h).mono (by decide)) hr hgd (by rfl) h.d20.gl h.d20.fn.kp h.d20.bi psD (sk_c (se_ix (sb_var (pv 8)) (SE.sb se_int) (fun _ _ => rfl)) (sk_c (se_ix (sb_var (pv 8)) (SE.sb se_int) (fun _ _ => rfl)) sk_nil))) rfl) sk_nil))) rfl) (sk_c (se_ix (sb_var (pv 8)) (SE.sb se_int) (fun _ _ => rfl)) sk_nil))) rfl)))))))
      (ss_one (s_ret se_bl))
      ss_nil)
    (ss_cons (s_if (st_not (st_tru (SE.sb (SE.toQ (se_call ((fn_law_same h).mono (by decide)) hr hgd (by rfl) h.d23.gl h.d23.fn.kp h.d23.bi psD (sk_c (SE.toQ (se_call ((fn_law_told h).mono (by decide)) hr hgd (by rfl) h.d38.gl h.d38.fn.kp h.d38.bi psD (sk_c se_int (sk_b (pv 3) (sk_c (SE.toQ (se_tup sa_nil) rfl) sk_nil)))) rfl) (sk_c (SE.toQ (se_tup (sa_cons se_str (sa_cons (SE.toQ (se_call ((fn_law_chart h).mono (by decide)) hr hgd (by rfl) h.d36.gl h.d36.fn.kp h.d36.bi psD (sk_b (pv 3) (sk_c (SE.toQ (se_tup sa_nil) rfl) sk_nil))) rfl) sa_nil))) rfl) sk_nil))) rfl))))
      (ss_one (s_ret se_bl))
      ss_nil)
    (ss_one (s_if (SW.st (sw_or (st_cmp (ou_ne hr.units) (SE.sb (SE.toQ (se_compK rfl sc_law.nd (si_all (SE.toQ (se_lst (sa_cons (se_binN ou_add (SB.wk (sb_var (pv 4))) (SE.sb (SE.toQ (se_tup (sa_cons se_str sa_nil)) rfl))) (sa_cons (se_binN ou_mul (SE.sb (SE.toQ (se_tup (sa_cons (se_ix (SB.wk (sb_ix (SB.wk (sb_var (pv 3))) (SE.sb se_int) (fun _ _ => rfl))) (SE.sb se_int) (fun _ _ => rfl)) sa_nil)) rfl)) (SE.sb se_int)) sa_nil))) rfl)) (blkOk_by (N := [("script" : Str), ("state" : Str), ("turn" : Str), ("machine" : Str), ("log" : Str), ("kept" : Str), ("one" : Str), ("other" : Str), ("charts" : Str), ("part" : Str), ("bad" : Str)]) (sc := defScope (topS 39)) (own := [(("bad" : Str), 10)]) (by decide +kernel)) rfl (fun _ _ _ _ _ => (sg_name (i := 10) sc_law.nd rfl (by first | exact Or.inl rfl | exact Or.inr rfl) (show (10 : Nat) ∉ ([] : List Nat) by decide))) (fun _ _ _ _ _ => sts_nil) (fun _ _ _ _ _ => (SE.toQ (se_call ((fn_law_told h).mono (by decide)) hr hgd (by rfl) h.d38.gl h.d38.fn.kp h.d38.bi (passF rfl rfl) (sk_c se_int (sk_b (pv 3) (sk_b (pv 10) sk_nil)))) rfl)) (by decide) (show ∀ i ∈ ([10] : List Nat), i ∉ ([] : List Nat) by decide)) rfl)) (SE.sb (se_binN ou_mul (SE.sb (SE.toQ (se_lst (sa_cons se_str sa_nil)) rfl)) (SE.sb se_int))) (by rfl)) (sw_or1 (st_cmp (ou_ne hr.units) (SE.sb (se_callB (oc_repr hgd (u100 hr)) (by rfl) h.m_repr (by decide +kernel) (sl_cons (SE.sb (SE.toQ (se_tup (sa_cons (se_varU (pv 3) (show (3 : Nat) ∉ ([] : List Nat) by decide)) (sa_cons (se_varU (pv 4) (show (4 : Nat) ∉ ([] : List Nat) by decide)) sa_nil))) rfl)) sl_nil))) (sb_var (pv 5)) (by rfl)))))
      (ss_one (s_ret se_bl))
      ss_nil))))))))))))
    (ss_one (s_ret se_bl))))

set_option maxHeartbeats 8000000 in
theorem all_mk {P : Program} {w : World} {K : PySem.W.Frag} {h : Heap} {mg : Str → Option Value} {fa0 : Addr} {f9 : Addr} {od9 an9 : Option Addr} {sl9 : Array (Option Value)} {oc9 kV9 dc9 pm9 cd9 ct9 : Value} {f10 : Addr} {od10 an10 : Option Addr} {sl10 : Array (Option Value)} {oc10 kV10 dc10 pm10 cd10 ct10 : Value} {f13 : Addr} {od13 an13 : Option Addr} {sl13 : Array (Option Value)} {oc13 kV13 dc13 pm13 cd13 ct13 : Value} {f14 : Addr} {od14 an14 : Option Addr} {sl14 : Array (Option Value)} {oc14 kV14 dc14 pm14 cd14 ct14 : Value} {f15 : Addr} {od15 an15 : Option Addr} {sl15 : Array (Option Value)} {oc15 kV15 dc15 pm15 cd15 ct15 : Value} {f16 : Addr} {od16 an16 : Option Addr} {sl16 : Array (Option Value)} {oc16 kV16 dc16 pm16 cd16 ct16 : Value} {f17 : Addr} {od17 an17 : Option Addr} {sl17 : Array (Option Value)} {oc17 kV17 dc17 pm17 cd17 ct17 : Value} {f19 : Addr} {od19 an19 : Option Addr} {sl19 : Array (Option Value)} {oc19 kV19 dc19 pm19 cd19 ct19 : Value} {f20 : Addr} {od20 an20 : Option Addr} {sl20 : Array (Option Value)} {oc20 kV20 dc20 pm20 cd20 ct20 : Value} {f21 : Addr} {od21 an21 : Option Addr} {sl21 : Array (Option Value)} {oc21 kV21 dc21 pm21 cd21 ct21 : Value} {f23 : Addr} {od23 an23 : Option Addr} {sl23 : Array (Option Value)} {oc23 kV23 dc23 pm23 cd23 ct23 : Value} {f24 : Addr} {od24 an24 : Option Addr} {sl24 : Array (Option Value)} {oc24 kV24 dc24 pm24 cd24 ct24 : Value} {f25 : Addr} {od25 an25 : Option Addr} {sl25 : Array (Option Value)} {oc25 kV25 dc25 pm25 cd25 ct25 : Value} {f26 : Addr} {od26 an26 : Option Addr} {sl26 : Array (Option Value)} {oc26 kV26 dc26 pm26 cd26 ct26 : Value} {f27 : Addr} {od27 an27 : Option Addr} {sl27 : Array (Option Value)} {oc27 kV27 dc27 pm27 cd27 ct27 : Value} {f28 : Addr} {od28 an28 : Option Addr} {sl28 : Array (Option Value)} {oc28 kV28 dc28 pm28 cd28 ct28 : Value} {f29 : Addr} {od29 an29 : Option Addr} {sl29 : Array (Option Value)} {oc29 kV29 dc29 pm29 cd29 ct29 : Value} {f30 : Addr} {od30 an30 : Option Addr} {sl30 : Array (Option Value)} {oc30 kV30 dc30 pm30 cd30 ct30 : Value} {f31 : Addr} {od31 an31 : Option Addr} {sl31 : Array (Option Value)} {oc31 kV31 dc31 pm31 cd31 ct31 : Value} {f32 : Addr} {od32 an32 : Option Addr} {sl32 : Array (Option Value)} {oc32 kV32 dc32 pm32 cd32 ct32 : Value} {f33 : Addr} {od33 an33 : Option Addr} {sl33 : Array (Option Value)} {oc33 kV33 dc33 pm33 cd33 ct33 : Value} {f34 : Addr} {od34 an34 : Option Addr} {sl34 : Array (Option Value)} {oc34 kV34 dc34 pm34 cd34 ct34 : Value} {f35 : Addr} {od35 an35 : Option Addr} {sl35 : Array (Option Value)} {oc35 kV35 dc35 pm35 cd35 ct35 : Value} {f36 : Addr} {od36 an36 : Option Addr} {sl36 : Array (Option Value)} {oc36 kV36 dc36 pm36 cd36 ct36 : Value} {f37 : Addr} {od37 an37 : Option Addr} {sl37 : Array (Option Value)} {oc37 kV37 dc37 pm37 cd37 ct37 : Value} {f38 : Addr} {od38 an38 : Option Addr} {sl38 : Array (Option Value)} {oc38 kV38 dc38 pm38 cd38 ct38 : Value} {f39 : Addr} {od39 an39 : Option Addr} {sl39 : Array (Option Value)} {oc39 kV39 dc39 pm39 cd39 ct39 : Value} {t_MAX_LOG : Tok} {t_NONE : Tok} {C_FareError : Addr} {C_NotAllowed : Addr} {C_TooLarge : Addr} {C_Missing : Addr} {C_BadPaper : Addr} {C_BadForm : Addr} (X : K.In h) (G : h.Ns mainGlobals mg) (hfa : mg "law" = some (.ref fa0))
    (a9 : PySem.W.nsIn K mainGlobals "is_log" = some (some (.ref f9)))
    (l9 : K.lookup f9 = some ⟨oc9, od9, .func (PySem.W.fnOf "is_log" "is_log" (defArgs (topS 9)) (defBody (topS 9)) (defScope (topS 9)) .none kV9 dc9 pm9 an9 cd9 ct9), sl9⟩)
    (c9 : PySem.W.codeIn K cd9 "is_log" = true)
    (k9 : PySem.W.keepIn K (.ref f9) = true)
    (a10 : PySem.W.nsIn K mainGlobals "check_log" = some (some (.ref f10)))
    (l10 : K.lookup f10 = some ⟨oc10, od10, .func (PySem.W.fnOf "check_log" "check_log" (defArgs (topS 10)) (defBody (topS 10)) (defScope (topS 10)) .none kV10 dc10 pm10 an10 cd10 ct10), sl10⟩)
    (c10 : PySem.W.codeIn K cd10 "check_log" = true)
    (k10 : PySem.W.keepIn K (.ref f10) = true)
    (a13 : PySem.W.nsIn K mainGlobals "row_by" = some (some (.ref f13)))
    (l13 : K.lookup f13 = some ⟨oc13, od13, .func (PySem.W.fnOf "row_by" "row_by" (defArgs (topS 13)) (defBody (topS 13)) (defScope (topS 13)) .none kV13 dc13 pm13 an13 cd13 ct13), sl13⟩)
    (c13 : PySem.W.codeIn K cd13 "row_by" = true)
    (k13 : PySem.W.keepIn K (.ref f13) = true)
    (a14 : PySem.W.nsIn K mainGlobals "least_of" = some (some (.ref f14)))
    (l14 : K.lookup f14 = some ⟨oc14, od14, .func (PySem.W.fnOf "least_of" "least_of" (defArgs (topS 14)) (defBody (topS 14)) (defScope (topS 14)) .none kV14 dc14 pm14 an14 cd14 ct14), sl14⟩)
    (c14 : PySem.W.codeIn K cd14 "least_of" = true)
    (k14 : PySem.W.keepIn K (.ref f14) = true)
    (a15 : PySem.W.nsIn K mainGlobals "fares_after" = some (some (.ref f15)))
    (l15 : K.lookup f15 = some ⟨oc15, od15, .func (PySem.W.fnOf "fares_after" "fares_after" (defArgs (topS 15)) (defBody (topS 15)) (defScope (topS 15)) .none kV15 dc15 pm15 an15 cd15 ct15), sl15⟩)
    (c15 : PySem.W.codeIn K cd15 "fares_after" = true)
    (k15 : PySem.W.keepIn K (.ref f15) = true)
    (a16 : PySem.W.nsIn K mainGlobals "rows_behind" = some (some (.ref f16)))
    (l16 : K.lookup f16 = some ⟨oc16, od16, .func (PySem.W.fnOf "rows_behind" "rows_behind" (defArgs (topS 16)) (defBody (topS 16)) (defScope (topS 16)) .none kV16 dc16 pm16 an16 cd16 ct16), sl16⟩)
    (c16 : PySem.W.codeIn K cd16 "rows_behind" = true)
    (k16 : PySem.W.keepIn K (.ref f16) = true)
    (a17 : PySem.W.nsIn K mainGlobals "least_sum" = some (some (.ref f17)))
    (l17 : K.lookup f17 = some ⟨oc17, od17, .func (PySem.W.fnOf "least_sum" "least_sum" (defArgs (topS 17)) (defBody (topS 17)) (defScope (topS 17)) .none kV17 dc17 pm17 an17 cd17 ct17), sl17⟩)
    (c17 : PySem.W.codeIn K cd17 "least_sum" = true)
    (k17 : PySem.W.keepIn K (.ref f17) = true)
    (a19 : PySem.W.nsIn K mainGlobals "chart_of" = some (some (.ref f19)))
    (l19 : K.lookup f19 = some ⟨oc19, od19, .func (PySem.W.fnOf "chart_of" "chart_of" (defArgs (topS 19)) (defBody (topS 19)) (defScope (topS 19)) .none kV19 dc19 pm19 an19 cd19 ct19), sl19⟩)
    (c19 : PySem.W.codeIn K cd19 "chart_of" = true)
    (k19 : PySem.W.keepIn K (.ref f19) = true)
    (a20 : PySem.W.nsIn K mainGlobals "product" = some (some (.ref f20)))
    (l20 : K.lookup f20 = some ⟨oc20, od20, .func (PySem.W.fnOf "product" "product" (defArgs (topS 20)) (defBody (topS 20)) (defScope (topS 20)) .none kV20 dc20 pm20 an20 cd20 ct20), sl20⟩)
    (c20 : PySem.W.codeIn K cd20 "product" = true)
    (k20 : PySem.W.keepIn K (.ref f20) = true)
    (a21 : PySem.W.nsIn K mainGlobals "fare_by_chart" = some (some (.ref f21)))
    (l21 : K.lookup f21 = some ⟨oc21, od21, .func (PySem.W.fnOf "fare_by_chart" "fare_by_chart" (defArgs (topS 21)) (defBody (topS 21)) (defScope (topS 21)) .none kV21 dc21 pm21 an21 cd21 ct21), sl21⟩)
    (c21 : PySem.W.codeIn K cd21 "fare_by_chart" = true)
    (k21 : PySem.W.keepIn K (.ref f21) = true)
    (a23 : PySem.W.nsIn K mainGlobals "_law_same" = some (some (.ref f23)))
    (l23 : K.lookup f23 = some ⟨oc23, od23, .func (PySem.W.fnOf "_law_same" "_law_same" (defArgs (topS 23)) (defBody (topS 23)) (defScope (topS 23)) .none kV23 dc23 pm23 an23 cd23 ct23), sl23⟩)
    (c23 : PySem.W.codeIn K cd23 "_law_same" = true)
    (k23 : PySem.W.keepIn K (.ref f23) = true)
    (a24 : PySem.W.nsIn K mainGlobals "_law_stream" = some (some (.ref f24)))
    (l24 : K.lookup f24 = some ⟨oc24, od24, .func (PySem.W.fnOf "_law_stream" "_law_stream" (defArgs (topS 24)) (defBody (topS 24)) (defScope (topS 24)) .none kV24 dc24 pm24 an24 cd24 ct24), sl24⟩)
    (c24 : PySem.W.codeIn K cd24 "_law_stream" = true)
    (k24 : PySem.W.keepIn K (.ref f24) = true)
    (a25 : PySem.W.nsIn K mainGlobals "_law_next" = some (some (.ref f25)))
    (l25 : K.lookup f25 = some ⟨oc25, od25, .func (PySem.W.fnOf "_law_next" "_law_next" (defArgs (topS 25)) (defBody (topS 25)) (defScope (topS 25)) .none kV25 dc25 pm25 an25 cd25 ct25), sl25⟩)
    (c25 : PySem.W.codeIn K cd25 "_law_next" = true)
    (k25 : PySem.W.keepIn K (.ref f25) = true)
    (a26 : PySem.W.nsIn K mainGlobals "_law_word" = some (some (.ref f26)))
    (l26 : K.lookup f26 = some ⟨oc26, od26, .func (PySem.W.fnOf "_law_word" "_law_word" (defArgs (topS 26)) (defBody (topS 26)) (defScope (topS 26)) .none kV26 dc26 pm26 an26 cd26 ct26), sl26⟩)
    (c26 : PySem.W.codeIn K cd26 "_law_word" = true)
    (k26 : PySem.W.keepIn K (.ref f26) = true)
    (a27 : PySem.W.nsIn K mainGlobals "_law_letters" = some (some (.ref f27)))
    (l27 : K.lookup f27 = some ⟨oc27, od27, .func (PySem.W.fnOf "_law_letters" "_law_letters" (defArgs (topS 27)) (defBody (topS 27)) (defScope (topS 27)) .none kV27 dc27 pm27 an27 cd27 ct27), sl27⟩)
    (c27 : PySem.W.codeIn K cd27 "_law_letters" = true)
    (k27 : PySem.W.keepIn K (.ref f27) = true)
    (a28 : PySem.W.nsIn K mainGlobals "_law_fare" = some (some (.ref f28)))
    (l28 : K.lookup f28 = some ⟨oc28, od28, .func (PySem.W.fnOf "_law_fare" "_law_fare" (defArgs (topS 28)) (defBody (topS 28)) (defScope (topS 28)) .none kV28 dc28 pm28 an28 cd28 ct28), sl28⟩)
    (c28 : PySem.W.codeIn K cd28 "_law_fare" = true)
    (k28 : PySem.W.keepIn K (.ref f28) = true)
    (a29 : PySem.W.nsIn K mainGlobals "_law_machine" = some (some (.ref f29)))
    (l29 : K.lookup f29 = some ⟨oc29, od29, .func (PySem.W.fnOf "_law_machine" "_law_machine" (defArgs (topS 29)) (defBody (topS 29)) (defScope (topS 29)) .none kV29 dc29 pm29 an29 cd29 ct29), sl29⟩)
    (c29 : PySem.W.codeIn K cd29 "_law_machine" = true)
    (k29 : PySem.W.keepIn K (.ref f29) = true)
    (a30 : PySem.W.nsIn K mainGlobals "_law_log" = some (some (.ref f30)))
    (l30 : K.lookup f30 = some ⟨oc30, od30, .func (PySem.W.fnOf "_law_log" "_law_log" (defArgs (topS 30)) (defBody (topS 30)) (defScope (topS 30)) .none kV30 dc30 pm30 an30 cd30 ct30), sl30⟩)
    (c30 : PySem.W.codeIn K cd30 "_law_log" = true)
    (k30 : PySem.W.keepIn K (.ref f30) = true)
    (a31 : PySem.W.nsIn K mainGlobals "_law_row" = some (some (.ref f31)))
    (l31 : K.lookup f31 = some ⟨oc31, od31, .func (PySem.W.fnOf "_law_row" "_law_row" (defArgs (topS 31)) (defBody (topS 31)) (defScope (topS 31)) .none kV31 dc31 pm31 an31 cd31 ct31), sl31⟩)
    (c31 : PySem.W.codeIn K cd31 "_law_row" = true)
    (k31 : PySem.W.keepIn K (.ref f31) = true)
    (a32 : PySem.W.nsIn K mainGlobals "_law_behind" = some (some (.ref f32)))
    (l32 : K.lookup f32 = some ⟨oc32, od32, .func (PySem.W.fnOf "_law_behind" "_law_behind" (defArgs (topS 32)) (defBody (topS 32)) (defScope (topS 32)) .none kV32 dc32 pm32 an32 cd32 ct32), sl32⟩)
    (c32 : PySem.W.codeIn K cd32 "_law_behind" = true)
    (k32 : PySem.W.keepIn K (.ref f32) = true)
    (a33 : PySem.W.nsIn K mainGlobals "_law_ended" = some (some (.ref f33)))
    (l33 : K.lookup f33 = some ⟨oc33, od33, .func (PySem.W.fnOf "_law_ended" "_law_ended" (defArgs (topS 33)) (defBody (topS 33)) (defScope (topS 33)) .none kV33 dc33 pm33 an33 cd33 ct33), sl33⟩)
    (c33 : PySem.W.codeIn K cd33 "_law_ended" = true)
    (k33 : PySem.W.keepIn K (.ref f33) = true)
    (a34 : PySem.W.nsIn K mainGlobals "_law_fare_of" = some (some (.ref f34)))
    (l34 : K.lookup f34 = some ⟨oc34, od34, .func (PySem.W.fnOf "_law_fare_of" "_law_fare_of" (defArgs (topS 34)) (defBody (topS 34)) (defScope (topS 34)) .none kV34 dc34 pm34 an34 cd34 ct34), sl34⟩)
    (c34 : PySem.W.codeIn K cd34 "_law_fare_of" = true)
    (k34 : PySem.W.keepIn K (.ref f34) = true)
    (a35 : PySem.W.nsIn K mainGlobals "_law_error" = some (some (.ref f35)))
    (l35 : K.lookup f35 = some ⟨oc35, od35, .func (PySem.W.fnOf "_law_error" "_law_error" (defArgs (topS 35)) (defBody (topS 35)) (defScope (topS 35)) .none kV35 dc35 pm35 an35 cd35 ct35), sl35⟩)
    (c35 : PySem.W.codeIn K cd35 "_law_error" = true)
    (k35 : PySem.W.keepIn K (.ref f35) = true)
    (a36 : PySem.W.nsIn K mainGlobals "_law_chart" = some (some (.ref f36)))
    (l36 : K.lookup f36 = some ⟨oc36, od36, .func (PySem.W.fnOf "_law_chart" "_law_chart" (defArgs (topS 36)) (defBody (topS 36)) (defScope (topS 36)) .none kV36 dc36 pm36 an36 cd36 ct36), sl36⟩)
    (c36 : PySem.W.codeIn K cd36 "_law_chart" = true)
    (k36 : PySem.W.keepIn K (.ref f36) = true)
    (a37 : PySem.W.nsIn K mainGlobals "_law_some_machine" = some (some (.ref f37)))
    (l37 : K.lookup f37 = some ⟨oc37, od37, .func (PySem.W.fnOf "_law_some_machine" "_law_some_machine" (defArgs (topS 37)) (defBody (topS 37)) (defScope (topS 37)) .none kV37 dc37 pm37 an37 cd37 ct37), sl37⟩)
    (c37 : PySem.W.codeIn K cd37 "_law_some_machine" = true)
    (k37 : PySem.W.keepIn K (.ref f37) = true)
    (a38 : PySem.W.nsIn K mainGlobals "_law_told" = some (some (.ref f38)))
    (l38 : K.lookup f38 = some ⟨oc38, od38, .func (PySem.W.fnOf "_law_told" "_law_told" (defArgs (topS 38)) (defBody (topS 38)) (defScope (topS 38)) .none kV38 dc38 pm38 an38 cd38 ct38), sl38⟩)
    (c38 : PySem.W.codeIn K cd38 "_law_told" = true)
    (k38 : PySem.W.keepIn K (.ref f38) = true)
    (a39 : PySem.W.nsIn K mainGlobals "law" = some (some (.ref f39)))
    (l39 : K.lookup f39 = some ⟨oc39, od39, .func (PySem.W.fnOf "law" "law" (defArgs (topS 39)) (defBody (topS 39)) (defScope (topS 39)) .none kV39 dc39 pm39 an39 cd39 ct39), sl39⟩)
    (c39 : PySem.W.codeIn K cd39 "law" = true)
    (k39 : PySem.W.keepIn K (.ref f39) = true)
    (z_abs : PySem.W.nsIn K mainGlobals "abs" = some none)
    (z_all : PySem.W.nsIn K mainGlobals "all" = some none)
    (z_enumerate : PySem.W.nsIn K mainGlobals "enumerate" = some none)
    (z_int : PySem.W.nsIn K mainGlobals "int" = some none)
    (z_isinstance : PySem.W.nsIn K mainGlobals "isinstance" = some none)
    (z_len : PySem.W.nsIn K mainGlobals "len" = some none)
    (z_min : PySem.W.nsIn K mainGlobals "min" = some none)
    (z_range : PySem.W.nsIn K mainGlobals "range" = some none)
    (z_repr : PySem.W.nsIn K mainGlobals "repr" = some none)
    (z_sum : PySem.W.nsIn K mainGlobals "sum" = some none)
    (z_tuple : PySem.W.nsIn K mainGlobals "tuple" = some none)
    (z_zip : PySem.W.nsIn K mainGlobals "zip" = some none)
    (n_MAX_LOG : PySem.W.nsIn K mainGlobals "MAX_LOG" = some (some (.int (400) t_MAX_LOG)))
    (n_NONE : PySem.W.nsIn K mainGlobals "NONE" = some (some (.int (-1) t_NONE)))
    (q_FareError : PySem.W.nsIn K mainGlobals "FareError" = some (some (.ref C_FareError)))
    (b_FareError : PySem.W.subIn K (.ref C_FareError) (.type "BaseException") = some true)
    (t_FareError : PySem.W.typeIn K (.ref C_FareError) = some (.type "type"))
    (i_FareError : PySem.W.isClsIn K C_FareError = true)
    (s_FareError : PySem.W.subIn K (.ref C_FareError) (.ref C_FareError) = some true)
    (q_NotAllowed : PySem.W.nsIn K mainGlobals "NotAllowed" = some (some (.ref C_NotAllowed)))
    (b_NotAllowed : PySem.W.subIn K (.ref C_NotAllowed) (.type "BaseException") = some true)
    (t_NotAllowed : PySem.W.typeIn K (.ref C_NotAllowed) = some (.type "type"))
    (i_NotAllowed : PySem.W.isClsIn K C_NotAllowed = true)
    (s_NotAllowed : PySem.W.subIn K (.ref C_NotAllowed) (.ref C_NotAllowed) = some true)
    (q_TooLarge : PySem.W.nsIn K mainGlobals "TooLarge" = some (some (.ref C_TooLarge)))
    (b_TooLarge : PySem.W.subIn K (.ref C_TooLarge) (.type "BaseException") = some true)
    (t_TooLarge : PySem.W.typeIn K (.ref C_TooLarge) = some (.type "type"))
    (i_TooLarge : PySem.W.isClsIn K C_TooLarge = true)
    (s_TooLarge : PySem.W.subIn K (.ref C_TooLarge) (.ref C_TooLarge) = some true)
    (q_Missing : PySem.W.nsIn K mainGlobals "Missing" = some (some (.ref C_Missing)))
    (b_Missing : PySem.W.subIn K (.ref C_Missing) (.type "BaseException") = some true)
    (t_Missing : PySem.W.typeIn K (.ref C_Missing) = some (.type "type"))
    (i_Missing : PySem.W.isClsIn K C_Missing = true)
    (s_Missing : PySem.W.subIn K (.ref C_Missing) (.ref C_Missing) = some true)
    (q_BadPaper : PySem.W.nsIn K mainGlobals "BadPaper" = some (some (.ref C_BadPaper)))
    (b_BadPaper : PySem.W.subIn K (.ref C_BadPaper) (.type "BaseException") = some true)
    (t_BadPaper : PySem.W.typeIn K (.ref C_BadPaper) = some (.type "type"))
    (i_BadPaper : PySem.W.isClsIn K C_BadPaper = true)
    (s_BadPaper : PySem.W.subIn K (.ref C_BadPaper) (.ref C_BadPaper) = some true)
    (q_BadForm : PySem.W.nsIn K mainGlobals "BadForm" = some (some (.ref C_BadForm)))
    (b_BadForm : PySem.W.subIn K (.ref C_BadForm) (.type "BaseException") = some true)
    (t_BadForm : PySem.W.typeIn K (.ref C_BadForm) = some (.type "type"))
    (i_BadForm : PySem.W.isClsIn K C_BadForm = true)
    (s_BadForm : PySem.W.subIn K (.ref C_BadForm) (.ref C_BadForm) = some true)
    (x_NotAllowed : PySem.W.excIn K C_NotAllowed [.type "ValueError", .type "Exception", .type "BaseException", .type "object"] "ValueError.__new__" = true)
    (w_NotAllowed : PySem.W.keepIn K (.ref C_NotAllowed) = true)
    (ob1 : PySem.W.specialIn K (.builtin "object.__class__") "__get__" = some (some (.builtin "getset_descriptor.__get__")))
    (ob2 : PySem.W.takesIn K (.builtin "object.__class__") = some true)
    (e1_FareError : PySem.W.findIn K (.ref C_FareError) "__getattribute__" = some (some (.builtin "BaseException.__getattribute__")))
    (e2_FareError : PySem.W.findIn K (.ref C_FareError) "__getattr__" = some none)
    (e3_FareError : PySem.W.hasDictIn K C_FareError = true)
    (e4_FareError : PySem.W.findIn K (.ref C_FareError) "__class__" = some (some (.builtin "object.__class__")))
    (e5_FareError : PySem.W.mroIn K C_FareError (.type "object") = some true)
    (u_FareError_NotAllowed : PySem.W.subIn K (.ref C_FareError) (.ref C_NotAllowed) = some false)
    (u_FareError_TooLarge : PySem.W.subIn K (.ref C_FareError) (.ref C_TooLarge) = some false)
    (u_FareError_Missing : PySem.W.subIn K (.ref C_FareError) (.ref C_Missing) = some false)
    (u_FareError_BadPaper : PySem.W.subIn K (.ref C_FareError) (.ref C_BadPaper) = some false)
    (u_FareError_BadForm : PySem.W.subIn K (.ref C_FareError) (.ref C_BadForm) = some false)
    (e1_NotAllowed : PySem.W.findIn K (.ref C_NotAllowed) "__getattribute__" = some (some (.builtin "BaseException.__getattribute__")))
    (e2_NotAllowed : PySem.W.findIn K (.ref C_NotAllowed) "__getattr__" = some none)
    (e3_NotAllowed : PySem.W.hasDictIn K C_NotAllowed = true)
    (e4_NotAllowed : PySem.W.findIn K (.ref C_NotAllowed) "__class__" = some (some (.builtin "object.__class__")))
    (e5_NotAllowed : PySem.W.mroIn K C_NotAllowed (.type "object") = some true)
    (u_NotAllowed_FareError : PySem.W.subIn K (.ref C_NotAllowed) (.ref C_FareError) = some true)
    (u_NotAllowed_TooLarge : PySem.W.subIn K (.ref C_NotAllowed) (.ref C_TooLarge) = some false)
    (u_NotAllowed_Missing : PySem.W.subIn K (.ref C_NotAllowed) (.ref C_Missing) = some false)
    (u_NotAllowed_BadPaper : PySem.W.subIn K (.ref C_NotAllowed) (.ref C_BadPaper) = some false)
    (u_NotAllowed_BadForm : PySem.W.subIn K (.ref C_NotAllowed) (.ref C_BadForm) = some false)
    (e1_TooLarge : PySem.W.findIn K (.ref C_TooLarge) "__getattribute__" = some (some (.builtin "BaseException.__getattribute__")))
    (e2_TooLarge : PySem.W.findIn K (.ref C_TooLarge) "__getattr__" = some none)
    (e3_TooLarge : PySem.W.hasDictIn K C_TooLarge = true)
    (e4_TooLarge : PySem.W.findIn K (.ref C_TooLarge) "__class__" = some (some (.builtin "object.__class__")))
    (e5_TooLarge : PySem.W.mroIn K C_TooLarge (.type "object") = some true)
    (u_TooLarge_FareError : PySem.W.subIn K (.ref C_TooLarge) (.ref C_FareError) = some true)
    (u_TooLarge_NotAllowed : PySem.W.subIn K (.ref C_TooLarge) (.ref C_NotAllowed) = some false)
    (u_TooLarge_Missing : PySem.W.subIn K (.ref C_TooLarge) (.ref C_Missing) = some false)
    (u_TooLarge_BadPaper : PySem.W.subIn K (.ref C_TooLarge) (.ref C_BadPaper) = some false)
    (u_TooLarge_BadForm : PySem.W.subIn K (.ref C_TooLarge) (.ref C_BadForm) = some false)
    (e1_Missing : PySem.W.findIn K (.ref C_Missing) "__getattribute__" = some (some (.builtin "BaseException.__getattribute__")))
    (e2_Missing : PySem.W.findIn K (.ref C_Missing) "__getattr__" = some none)
    (e3_Missing : PySem.W.hasDictIn K C_Missing = true)
    (e4_Missing : PySem.W.findIn K (.ref C_Missing) "__class__" = some (some (.builtin "object.__class__")))
    (e5_Missing : PySem.W.mroIn K C_Missing (.type "object") = some true)
    (u_Missing_FareError : PySem.W.subIn K (.ref C_Missing) (.ref C_FareError) = some true)
    (u_Missing_NotAllowed : PySem.W.subIn K (.ref C_Missing) (.ref C_NotAllowed) = some false)
    (u_Missing_TooLarge : PySem.W.subIn K (.ref C_Missing) (.ref C_TooLarge) = some false)
    (u_Missing_BadPaper : PySem.W.subIn K (.ref C_Missing) (.ref C_BadPaper) = some false)
    (u_Missing_BadForm : PySem.W.subIn K (.ref C_Missing) (.ref C_BadForm) = some false)
    (e1_BadPaper : PySem.W.findIn K (.ref C_BadPaper) "__getattribute__" = some (some (.builtin "BaseException.__getattribute__")))
    (e2_BadPaper : PySem.W.findIn K (.ref C_BadPaper) "__getattr__" = some none)
    (e3_BadPaper : PySem.W.hasDictIn K C_BadPaper = true)
    (e4_BadPaper : PySem.W.findIn K (.ref C_BadPaper) "__class__" = some (some (.builtin "object.__class__")))
    (e5_BadPaper : PySem.W.mroIn K C_BadPaper (.type "object") = some true)
    (u_BadPaper_FareError : PySem.W.subIn K (.ref C_BadPaper) (.ref C_FareError) = some true)
    (u_BadPaper_NotAllowed : PySem.W.subIn K (.ref C_BadPaper) (.ref C_NotAllowed) = some false)
    (u_BadPaper_TooLarge : PySem.W.subIn K (.ref C_BadPaper) (.ref C_TooLarge) = some false)
    (u_BadPaper_Missing : PySem.W.subIn K (.ref C_BadPaper) (.ref C_Missing) = some false)
    (u_BadPaper_BadForm : PySem.W.subIn K (.ref C_BadPaper) (.ref C_BadForm) = some false)
    : ∃ fd : FuncData, (∀ (s : Shared) (u : Value), BindsTo s fd ⟨[u], []⟩ [("script", u)]) ∧ ∀ base : Heap, K.In base → base.Ns mainGlobals mg → FnG P w K mg base 6 fa0 fd ["script"] (spOf K mg fs_law) := by
  have e0 := hfa.symm.trans (PySem.W.mg_of X G a39)
  cases e0
  have F9 := fun_mk (st := topS 9) l9 c9 k9
  have B9 := F9.binds (ps := ["letters", "log"]) fun _ _ _ _ _ _ us hl => match us, hl with | [_, _], _ => rfl
  have F10 := fun_mk (st := topS 10) l10 c10 k10
  have B10 := F10.binds (ps := ["letters", "log"]) fun _ _ _ _ _ _ us hl => match us, hl with | [_, _], _ => rfl
  have F13 := fun_mk (st := topS 13) l13 c13 k13
  have B13 := F13.binds (ps := ["machine", "state", "letter"]) fun _ _ _ _ _ _ us hl => match us, hl with | [_, _, _], _ => rfl
  have F14 := fun_mk (st := topS 14) l14 c14 k14
  have B14 := F14.binds (ps := ["sums"]) fun _ _ _ _ _ _ us hl => match us, hl with | [_], _ => rfl
  have F15 := fun_mk (st := topS 15) l15 c15 k15
  have B15 := F15.binds (ps := ["machine", "fares", "letter"]) fun _ _ _ _ _ _ us hl => match us, hl with | [_, _, _], _ => rfl
  have F16 := fun_mk (st := topS 16) l16 c16 k16
  have B16 := F16.binds (ps := ["machine", "fares", "log"]) fun _ _ _ _ _ _ us hl => match us, hl with | [_, _, _], _ => rfl
  have F17 := fun_mk (st := topS 17) l17 c17 k17
  have B17 := F17.binds (ps := ["fares", "others"]) fun _ _ _ _ _ _ us hl => match us, hl with | [_, _], _ => rfl
  have F19 := fun_mk (st := topS 19) l19 c19 k19
  have B19 := F19.binds (ps := ["machine", "log"]) fun _ _ _ _ _ _ us hl => match us, hl with | [_, _], _ => rfl
  have F20 := fun_mk (st := topS 20) l20 c20 k20
  have B20 := F20.binds (ps := ["first", "second"]) fun _ _ _ _ _ _ us hl => match us, hl with | [_, _], _ => rfl
  have F21 := fun_mk (st := topS 21) l21 c21 k21
  have B21 := F21.binds (ps := ["machine", "chart"]) fun _ _ _ _ _ _ us hl => match us, hl with | [_, _], _ => rfl
  have F23 := fun_mk (st := topS 23) l23 c23 k23
  have B23 := F23.binds (ps := ["told", "due"]) fun _ _ _ _ _ _ us hl => match us, hl with | [_, _], _ => rfl
  have F24 := fun_mk (st := topS 24) l24 c24 k24
  have B24 := F24.binds (ps := ["script"]) fun _ _ _ _ _ _ us hl => match us, hl with | [_], _ => rfl
  have F25 := fun_mk (st := topS 25) l25 c25 k25
  have B25 := F25.binds (ps := ["state", "many"]) fun _ _ _ _ _ _ us hl => match us, hl with | [_, _], _ => rfl
  have F26 := fun_mk (st := topS 26) l26 c26 k26
  have B26 := F26.binds (ps := ["state", "taken"]) fun _ _ _ _ _ _ us hl => match us, hl with | [_, _], _ => rfl
  have F27 := fun_mk (st := topS 27) l27 c27 k27
  have B27 := F27.binds (ps := ["state", "many"]) fun _ _ _ _ _ _ us hl => match us, hl with | [_, _], _ => rfl
  have F28 := fun_mk (st := topS 28) l28 c28 k28
  have B28 := F28.binds (ps := ["state", "most"]) fun _ _ _ _ _ _ us hl => match us, hl with | [_, _], _ => rfl
  have F29 := fun_mk (st := topS 29) l29 c29 k29
  have B29 := F29.binds (ps := ["state", "letters", "many", "most", "thick"]) fun _ _ _ _ _ _ us hl => match us, hl with | [_, _, _, _, _], _ => rfl
  have F30 := fun_mk (st := topS 30) l30 c30 k30
  have B30 := F30.binds (ps := ["state", "letters", "many"]) fun _ _ _ _ _ _ us hl => match us, hl with | [_, _, _], _ => rfl
  have F31 := fun_mk (st := topS 31) l31 c31 k31
  have B31 := F31.binds (ps := ["machine", "fares", "letter"]) fun _ _ _ _ _ _ us hl => match us, hl with | [_, _, _], _ => rfl
  have F32 := fun_mk (st := topS 32) l32 c32 k32
  have B32 := F32.binds (ps := ["machine", "log"]) fun _ _ _ _ _ _ us hl => match us, hl with | [_, _], _ => rfl
  have F33 := fun_mk (st := topS 33) l33 c33 k33
  have B33 := F33.binds (ps := ["machine", "fares"]) fun _ _ _ _ _ _ us hl => match us, hl with | [_, _], _ => rfl
  have F34 := fun_mk (st := topS 34) l34 c34 k34
  have B34 := F34.binds (ps := ["machine", "log"]) fun _ _ _ _ _ _ us hl => match us, hl with | [_, _], _ => rfl
  have F35 := fun_mk (st := topS 35) l35 c35 k35
  have B35 := F35.binds (ps := ["e"]) fun _ _ _ _ _ _ us hl => match us, hl with | [_], _ => rfl
  have F36 := fun_mk (st := topS 36) l36 c36 k36
  have B36 := F36.binds (ps := ["machine", "log"]) fun _ _ _ _ _ _ us hl => match us, hl with | [_, _], _ => rfl
  have F37 := fun_mk (st := topS 37) l37 c37 k37
  have B37 := F37.binds (ps := ["state", "most"]) fun _ _ _ _ _ _ us hl => match us, hl with | [_, _], _ => rfl
  have F38 := fun_mk (st := topS 38) l38 c38 k38
  have B38 := F38.binds (ps := ["way", "machine", "thing"]) fun _ _ _ _ _ _ us hl => match us, hl with | [_, _, _], _ => rfl
  have F39 := fun_mk (st := topS 39) l39 c39 k39
  have B39 := F39.binds (ps := ["script"]) fun _ _ _ _ _ _ us hl => match us, hl with | [_], _ => rfl
  have E_FareError : ErrF K C_FareError := ⟨b_FareError, t_FareError, i_FareError, s_FareError⟩
  have E_NotAllowed : ErrF K C_NotAllowed := ⟨b_NotAllowed, t_NotAllowed, i_NotAllowed, s_NotAllowed⟩
  have E_TooLarge : ErrF K C_TooLarge := ⟨b_TooLarge, t_TooLarge, i_TooLarge, s_TooLarge⟩
  have E_Missing : ErrF K C_Missing := ⟨b_Missing, t_Missing, i_Missing, s_Missing⟩
  have E_BadPaper : ErrF K C_BadPaper := ⟨b_BadPaper, t_BadPaper, i_BadPaper, s_BadPaper⟩
  have E_BadForm : ErrF K C_BadForm := ⟨b_BadForm, t_BadForm, i_BadForm, s_BadForm⟩
  have Z_FareError : ExcC K C_FareError := excC_of E_FareError ob1 ob2 e1_FareError e2_FareError e3_FareError e4_FareError e5_FareError
  have Z_NotAllowed : ExcC K C_NotAllowed := excC_of E_NotAllowed ob1 ob2 e1_NotAllowed e2_NotAllowed e3_NotAllowed e4_NotAllowed e5_NotAllowed
  have Z_TooLarge : ExcC K C_TooLarge := excC_of E_TooLarge ob1 ob2 e1_TooLarge e2_TooLarge e3_TooLarge e4_TooLarge e5_TooLarge
  have Z_Missing : ExcC K C_Missing := excC_of E_Missing ob1 ob2 e1_Missing e2_Missing e3_Missing e4_Missing e5_Missing
  have Z_BadPaper : ExcC K C_BadPaper := excC_of E_BadPaper ob1 ob2 e1_BadPaper e2_BadPaper e3_BadPaper e4_BadPaper e5_BadPaper
  have IA : IsaK K mg isaT := isa_of (tab := isaTab) (And.intro (And.intro ⟨C_FareError, C_FareError, PySem.W.mg_of X G q_FareError, PySem.W.mg_of X G q_FareError, Z_FareError, kit_of_sub E_FareError E_FareError s_FareError⟩ (And.intro ⟨C_FareError, C_NotAllowed, PySem.W.mg_of X G q_FareError, PySem.W.mg_of X G q_NotAllowed, Z_FareError, kit_of_sub E_FareError E_NotAllowed u_FareError_NotAllowed⟩ (And.intro ⟨C_FareError, C_TooLarge, PySem.W.mg_of X G q_FareError, PySem.W.mg_of X G q_TooLarge, Z_FareError, kit_of_sub E_FareError E_TooLarge u_FareError_TooLarge⟩ (And.intro ⟨C_FareError, C_Missing, PySem.W.mg_of X G q_FareError, PySem.W.mg_of X G q_Missing, Z_FareError, kit_of_sub E_FareError E_Missing u_FareError_Missing⟩ (And.intro ⟨C_FareError, C_BadPaper, PySem.W.mg_of X G q_FareError, PySem.W.mg_of X G q_BadPaper, Z_FareError, kit_of_sub E_FareError E_BadPaper u_FareError_BadPaper⟩ (And.intro ⟨C_FareError, C_BadForm, PySem.W.mg_of X G q_FareError, PySem.W.mg_of X G q_BadForm, Z_FareError, kit_of_sub E_FareError E_BadForm u_FareError_BadForm⟩ trivial))))))
    (And.intro (And.intro ⟨C_NotAllowed, C_FareError, PySem.W.mg_of X G q_NotAllowed, PySem.W.mg_of X G q_FareError, Z_NotAllowed, kit_of_sub E_NotAllowed E_FareError u_NotAllowed_FareError⟩ (And.intro ⟨C_NotAllowed, C_NotAllowed, PySem.W.mg_of X G q_NotAllowed, PySem.W.mg_of X G q_NotAllowed, Z_NotAllowed, kit_of_sub E_NotAllowed E_NotAllowed s_NotAllowed⟩ (And.intro ⟨C_NotAllowed, C_TooLarge, PySem.W.mg_of X G q_NotAllowed, PySem.W.mg_of X G q_TooLarge, Z_NotAllowed, kit_of_sub E_NotAllowed E_TooLarge u_NotAllowed_TooLarge⟩ (And.intro ⟨C_NotAllowed, C_Missing, PySem.W.mg_of X G q_NotAllowed, PySem.W.mg_of X G q_Missing, Z_NotAllowed, kit_of_sub E_NotAllowed E_Missing u_NotAllowed_Missing⟩ (And.intro ⟨C_NotAllowed, C_BadPaper, PySem.W.mg_of X G q_NotAllowed, PySem.W.mg_of X G q_BadPaper, Z_NotAllowed, kit_of_sub E_NotAllowed E_BadPaper u_NotAllowed_BadPaper⟩ (And.intro ⟨C_NotAllowed, C_BadForm, PySem.W.mg_of X G q_NotAllowed, PySem.W.mg_of X G q_BadForm, Z_NotAllowed, kit_of_sub E_NotAllowed E_BadForm u_NotAllowed_BadForm⟩ trivial))))))
    (And.intro (And.intro ⟨C_TooLarge, C_FareError, PySem.W.mg_of X G q_TooLarge, PySem.W.mg_of X G q_FareError, Z_TooLarge, kit_of_sub E_TooLarge E_FareError u_TooLarge_FareError⟩ (And.intro ⟨C_TooLarge, C_NotAllowed, PySem.W.mg_of X G q_TooLarge, PySem.W.mg_of X G q_NotAllowed, Z_TooLarge, kit_of_sub E_TooLarge E_NotAllowed u_TooLarge_NotAllowed⟩ (And.intro ⟨C_TooLarge, C_TooLarge, PySem.W.mg_of X G q_TooLarge, PySem.W.mg_of X G q_TooLarge, Z_TooLarge, kit_of_sub E_TooLarge E_TooLarge s_TooLarge⟩ (And.intro ⟨C_TooLarge, C_Missing, PySem.W.mg_of X G q_TooLarge, PySem.W.mg_of X G q_Missing, Z_TooLarge, kit_of_sub E_TooLarge E_Missing u_TooLarge_Missing⟩ (And.intro ⟨C_TooLarge, C_BadPaper, PySem.W.mg_of X G q_TooLarge, PySem.W.mg_of X G q_BadPaper, Z_TooLarge, kit_of_sub E_TooLarge E_BadPaper u_TooLarge_BadPaper⟩ (And.intro ⟨C_TooLarge, C_BadForm, PySem.W.mg_of X G q_TooLarge, PySem.W.mg_of X G q_BadForm, Z_TooLarge, kit_of_sub E_TooLarge E_BadForm u_TooLarge_BadForm⟩ trivial))))))
    (And.intro (And.intro ⟨C_Missing, C_FareError, PySem.W.mg_of X G q_Missing, PySem.W.mg_of X G q_FareError, Z_Missing, kit_of_sub E_Missing E_FareError u_Missing_FareError⟩ (And.intro ⟨C_Missing, C_NotAllowed, PySem.W.mg_of X G q_Missing, PySem.W.mg_of X G q_NotAllowed, Z_Missing, kit_of_sub E_Missing E_NotAllowed u_Missing_NotAllowed⟩ (And.intro ⟨C_Missing, C_TooLarge, PySem.W.mg_of X G q_Missing, PySem.W.mg_of X G q_TooLarge, Z_Missing, kit_of_sub E_Missing E_TooLarge u_Missing_TooLarge⟩ (And.intro ⟨C_Missing, C_Missing, PySem.W.mg_of X G q_Missing, PySem.W.mg_of X G q_Missing, Z_Missing, kit_of_sub E_Missing E_Missing s_Missing⟩ (And.intro ⟨C_Missing, C_BadPaper, PySem.W.mg_of X G q_Missing, PySem.W.mg_of X G q_BadPaper, Z_Missing, kit_of_sub E_Missing E_BadPaper u_Missing_BadPaper⟩ (And.intro ⟨C_Missing, C_BadForm, PySem.W.mg_of X G q_Missing, PySem.W.mg_of X G q_BadForm, Z_Missing, kit_of_sub E_Missing E_BadForm u_Missing_BadForm⟩ trivial))))))
    (And.intro (And.intro ⟨C_BadPaper, C_FareError, PySem.W.mg_of X G q_BadPaper, PySem.W.mg_of X G q_FareError, Z_BadPaper, kit_of_sub E_BadPaper E_FareError u_BadPaper_FareError⟩ (And.intro ⟨C_BadPaper, C_NotAllowed, PySem.W.mg_of X G q_BadPaper, PySem.W.mg_of X G q_NotAllowed, Z_BadPaper, kit_of_sub E_BadPaper E_NotAllowed u_BadPaper_NotAllowed⟩ (And.intro ⟨C_BadPaper, C_TooLarge, PySem.W.mg_of X G q_BadPaper, PySem.W.mg_of X G q_TooLarge, Z_BadPaper, kit_of_sub E_BadPaper E_TooLarge u_BadPaper_TooLarge⟩ (And.intro ⟨C_BadPaper, C_Missing, PySem.W.mg_of X G q_BadPaper, PySem.W.mg_of X G q_Missing, Z_BadPaper, kit_of_sub E_BadPaper E_Missing u_BadPaper_Missing⟩ (And.intro ⟨C_BadPaper, C_BadPaper, PySem.W.mg_of X G q_BadPaper, PySem.W.mg_of X G q_BadPaper, Z_BadPaper, kit_of_sub E_BadPaper E_BadPaper s_BadPaper⟩ (And.intro ⟨C_BadPaper, C_BadForm, PySem.W.mg_of X G q_BadPaper, PySem.W.mg_of X G q_BadForm, Z_BadPaper, kit_of_sub E_BadPaper E_BadForm u_BadPaper_BadForm⟩ trivial))))))
    trivial)))))
  let fa : Nat → Addr := fun i => match i with | 9 => f9 | 10 => f10 | 13 => f13 | 14 => f14 | 15 => f15 | 16 => f16 | 17 => f17 | 19 => f19 | 20 => f20 | 21 => f21 | 23 => f23 | 24 => f24 | 25 => f25 | 26 => f26 | 27 => f27 | 28 => f28 | 29 => f29 | 30 => f30 | 31 => f31 | 32 => f32 | 33 => f33 | 34 => f34 | 35 => f35 | 36 => f36 | 37 => f37 | 38 => f38 | 39 => fa0 | _ => 0
  let fd : Nat → FuncData := fun i => match i with | 9 => PySem.W.fnOf "is_log" "is_log" (defArgs (topS 9)) (defBody (topS 9)) (defScope (topS 9)) .none kV9 dc9 pm9 an9 cd9 ct9 | 10 => PySem.W.fnOf "check_log" "check_log" (defArgs (topS 10)) (defBody (topS 10)) (defScope (topS 10)) .none kV10 dc10 pm10 an10 cd10 ct10 | 13 => PySem.W.fnOf "row_by" "row_by" (defArgs (topS 13)) (defBody (topS 13)) (defScope (topS 13)) .none kV13 dc13 pm13 an13 cd13 ct13 | 14 => PySem.W.fnOf "least_of" "least_of" (defArgs (topS 14)) (defBody (topS 14)) (defScope (topS 14)) .none kV14 dc14 pm14 an14 cd14 ct14 | 15 => PySem.W.fnOf "fares_after" "fares_after" (defArgs (topS 15)) (defBody (topS 15)) (defScope (topS 15)) .none kV15 dc15 pm15 an15 cd15 ct15 | 16 => PySem.W.fnOf "rows_behind" "rows_behind" (defArgs (topS 16)) (defBody (topS 16)) (defScope (topS 16)) .none kV16 dc16 pm16 an16 cd16 ct16 | 17 => PySem.W.fnOf "least_sum" "least_sum" (defArgs (topS 17)) (defBody (topS 17)) (defScope (topS 17)) .none kV17 dc17 pm17 an17 cd17 ct17 | 19 => PySem.W.fnOf "chart_of" "chart_of" (defArgs (topS 19)) (defBody (topS 19)) (defScope (topS 19)) .none kV19 dc19 pm19 an19 cd19 ct19 | 20 => PySem.W.fnOf "product" "product" (defArgs (topS 20)) (defBody (topS 20)) (defScope (topS 20)) .none kV20 dc20 pm20 an20 cd20 ct20 | 21 => PySem.W.fnOf "fare_by_chart" "fare_by_chart" (defArgs (topS 21)) (defBody (topS 21)) (defScope (topS 21)) .none kV21 dc21 pm21 an21 cd21 ct21 | 23 => PySem.W.fnOf "_law_same" "_law_same" (defArgs (topS 23)) (defBody (topS 23)) (defScope (topS 23)) .none kV23 dc23 pm23 an23 cd23 ct23 | 24 => PySem.W.fnOf "_law_stream" "_law_stream" (defArgs (topS 24)) (defBody (topS 24)) (defScope (topS 24)) .none kV24 dc24 pm24 an24 cd24 ct24 | 25 => PySem.W.fnOf "_law_next" "_law_next" (defArgs (topS 25)) (defBody (topS 25)) (defScope (topS 25)) .none kV25 dc25 pm25 an25 cd25 ct25 | 26 => PySem.W.fnOf "_law_word" "_law_word" (defArgs (topS 26)) (defBody (topS 26)) (defScope (topS 26)) .none kV26 dc26 pm26 an26 cd26 ct26 | 27 => PySem.W.fnOf "_law_letters" "_law_letters" (defArgs (topS 27)) (defBody (topS 27)) (defScope (topS 27)) .none kV27 dc27 pm27 an27 cd27 ct27 | 28 => PySem.W.fnOf "_law_fare" "_law_fare" (defArgs (topS 28)) (defBody (topS 28)) (defScope (topS 28)) .none kV28 dc28 pm28 an28 cd28 ct28 | 29 => PySem.W.fnOf "_law_machine" "_law_machine" (defArgs (topS 29)) (defBody (topS 29)) (defScope (topS 29)) .none kV29 dc29 pm29 an29 cd29 ct29 | 30 => PySem.W.fnOf "_law_log" "_law_log" (defArgs (topS 30)) (defBody (topS 30)) (defScope (topS 30)) .none kV30 dc30 pm30 an30 cd30 ct30 | 31 => PySem.W.fnOf "_law_row" "_law_row" (defArgs (topS 31)) (defBody (topS 31)) (defScope (topS 31)) .none kV31 dc31 pm31 an31 cd31 ct31 | 32 => PySem.W.fnOf "_law_behind" "_law_behind" (defArgs (topS 32)) (defBody (topS 32)) (defScope (topS 32)) .none kV32 dc32 pm32 an32 cd32 ct32 | 33 => PySem.W.fnOf "_law_ended" "_law_ended" (defArgs (topS 33)) (defBody (topS 33)) (defScope (topS 33)) .none kV33 dc33 pm33 an33 cd33 ct33 | 34 => PySem.W.fnOf "_law_fare_of" "_law_fare_of" (defArgs (topS 34)) (defBody (topS 34)) (defScope (topS 34)) .none kV34 dc34 pm34 an34 cd34 ct34 | 35 => PySem.W.fnOf "_law_error" "_law_error" (defArgs (topS 35)) (defBody (topS 35)) (defScope (topS 35)) .none kV35 dc35 pm35 an35 cd35 ct35 | 36 => PySem.W.fnOf "_law_chart" "_law_chart" (defArgs (topS 36)) (defBody (topS 36)) (defScope (topS 36)) .none kV36 dc36 pm36 an36 cd36 ct36 | 37 => PySem.W.fnOf "_law_some_machine" "_law_some_machine" (defArgs (topS 37)) (defBody (topS 37)) (defScope (topS 37)) .none kV37 dc37 pm37 an37 cd37 ct37 | 38 => PySem.W.fnOf "_law_told" "_law_told" (defArgs (topS 38)) (defBody (topS 38)) (defScope (topS 38)) .none kV38 dc38 pm38 an38 cd38 ct38 | 39 => PySem.W.fnOf "law" "law" (defArgs (topS 39)) (defBody (topS 39)) (defScope (topS 39)) .none kV39 dc39 pm39 an39 cd39 ct39 | _ => PySem.W.fnOf "law" "law" (defArgs (topS 39)) (defBody (topS 39)) (defScope (topS 39)) .none kV39 dc39 pm39 an39 cd39 ct39
  have A : Fa K mg fa fd :=
    { m_abs := PySem.W.mg_none_of X G z_abs,
      m_all := PySem.W.mg_none_of X G z_all,
      m_enumerate := PySem.W.mg_none_of X G z_enumerate,
      m_int := PySem.W.mg_none_of X G z_int,
      m_isinstance := PySem.W.mg_none_of X G z_isinstance,
      m_len := PySem.W.mg_none_of X G z_len,
      m_min := PySem.W.mg_none_of X G z_min,
      m_range := PySem.W.mg_none_of X G z_range,
      m_repr := PySem.W.mg_none_of X G z_repr,
      m_sum := PySem.W.mg_none_of X G z_sum,
      m_tuple := PySem.W.mg_none_of X G z_tuple,
      m_zip := PySem.W.mg_none_of X G z_zip,
      c_MAX_LOG := ⟨_, PySem.W.mg_of X G n_MAX_LOG⟩,
      c_NONE := ⟨_, PySem.W.mg_of X G n_NONE⟩,
      isa := IA,
      k_BadForm := ⟨_, PySem.W.mg_of X G q_BadForm⟩,
      k_BadPaper := ⟨_, PySem.W.mg_of X G q_BadPaper⟩,
      k_Missing := ⟨_, PySem.W.mg_of X G q_Missing⟩,
      k_NotAllowed := ⟨_, PySem.W.mg_of X G q_NotAllowed⟩,
      k_TooLarge := ⟨_, PySem.W.mg_of X G q_TooLarge⟩,
      y_FareError := ⟨_, PySem.W.mg_of X G q_FareError, catch_of IA (PySem.W.mg_of X G q_FareError) E_FareError⟩,
      e_NotAllowed := errK_of (PySem.W.mg_of X G q_NotAllowed) E_NotAllowed x_NotAllowed w_NotAllowed,
      d9 := ⟨F9, PySem.W.mg_of X G a9, B9⟩,
      d10 := ⟨F10, PySem.W.mg_of X G a10, B10⟩,
      d13 := ⟨F13, PySem.W.mg_of X G a13, B13⟩,
      d14 := ⟨F14, PySem.W.mg_of X G a14, B14⟩,
      d15 := ⟨F15, PySem.W.mg_of X G a15, B15⟩,
      d16 := ⟨F16, PySem.W.mg_of X G a16, B16⟩,
      d17 := ⟨F17, PySem.W.mg_of X G a17, B17⟩,
      d19 := ⟨F19, PySem.W.mg_of X G a19, B19⟩,
      d20 := ⟨F20, PySem.W.mg_of X G a20, B20⟩,
      d21 := ⟨F21, PySem.W.mg_of X G a21, B21⟩,
      d23 := ⟨F23, PySem.W.mg_of X G a23, B23⟩,
      d24 := ⟨F24, PySem.W.mg_of X G a24, B24⟩,
      d25 := ⟨F25, PySem.W.mg_of X G a25, B25⟩,
      d26 := ⟨F26, PySem.W.mg_of X G a26, B26⟩,
      d27 := ⟨F27, PySem.W.mg_of X G a27, B27⟩,
      d28 := ⟨F28, PySem.W.mg_of X G a28, B28⟩,
      d29 := ⟨F29, PySem.W.mg_of X G a29, B29⟩,
      d30 := ⟨F30, PySem.W.mg_of X G a30, B30⟩,
      d31 := ⟨F31, PySem.W.mg_of X G a31, B31⟩,
      d32 := ⟨F32, PySem.W.mg_of X G a32, B32⟩,
      d33 := ⟨F33, PySem.W.mg_of X G a33, B33⟩,
      d34 := ⟨F34, PySem.W.mg_of X G a34, B34⟩,
      d35 := ⟨F35, PySem.W.mg_of X G a35, B35⟩,
      d36 := ⟨F36, PySem.W.mg_of X G a36, B36⟩,
      d37 := ⟨F37, PySem.W.mg_of X G a37, B37⟩,
      d38 := ⟨F38, PySem.W.mg_of X G a38, B38⟩,
      d39 := ⟨F39, PySem.W.mg_of X G a39, B39⟩ }
  exact ⟨fd 39, fun s u => .of_eq rfl, fun base _ _ => fn_law A⟩
end
end K16


set_option Elab.async false
set_option linter.all false
set_option maxRecDepth 100000
namespace K16
open PySem PySem.Spec PyProof.Rows L2 FM
local macro_rules | `(tactic| simp! [$ts,*]) => `(tactic| simp only [↓nx_mk, ↓rt_mk, ↓bk_mk, ↓ct_mk, ↓rt_E, ↓nx_E, slots_0, slots_c, consO_s, ↓T_got, ↓T_wp, ↓T_for, ↓T_comp, got_sT, got_nT, got_ifT, gm_s, o_addT, o_addLs, o_addSt, o_mulI2, o_repT, o_slT2, o_slL2, o_slS2, o_slC2, o_tupL, o_tupT, o_lstL, o_lstT, o_abs2, o_min2, o_ixS2, cut_to, cut_from, cut_neg, cut_last, stbL_take, stbL_drop, stbL_dl, stbL_rev, stbL_set, n_cast, ↓dRevT_e, ↓dRevL_e, ↓dRevU_e, ↓e_orE, Bool.and_eq_true, Int.reduceLT, Int.reduceLE,  ↓e_seq, ↓e_next, ↓e_brk, ↓e_cnt, ↓e_drop, ↓e_ret, ↓e_retN, ↓e_ifS, ↓e_raise, ↓e_nameN, ↓e_gtup, ↓e_gnil, ↓e_gcons, as_tup, ↓e_asg, ↓e_augN, ↓e_setIxN, ↓e_for, ↓e_var, ↓e_varB, ↓e_varUN, ↓e_movN, ↓e_c, ↓e_op, ↓e_opS, ↓e_ix, ↓e_ixB, ↓e_ixS, ↓e_pick, ↓e_nil, ↓e_cons, ↓e_tup, ↓e_lst, ↓e_cl, ↓e_appN, ↓e_knil, ↓e_kc, ↓e_kb, ↓e_km, ↓e_callM, ↓e_tE, ↓e_tTru, ↓e_tAnd, ↓e_tOr, ↓e_tNot, ↓e_and, ↓e_or, ↓e_not, ↓e_chain, ↓e_if, ↓e_neg, ↓e_sl, ↓e_so, ↓e_son, ↓e_rng1, ↓e_rng2, ↓e_compN, o_addI, o_subI, o_ltI, o_leI, o_gtI, o_geI, o_eqI, o_neI, o_eqS, o_neS, o_int, o_intB, o_lenT, o_lenL, o_asI, o_asB, o_own, o_ixT, o_ixL, atI_0, atI_1, atI_2, atI_3, slot_0, slot_s, e_argc, e_argb, e_argm, e_args0, e_argsC, Option.map_some, e_ms0, e_msc, e_msb, e_msm, e_bu0, e_buc, e_bum, e_bub, e_buM, e_put0, e_put1, e_frzI, e_frzS, e_frzB, e_stbI, e_stbS, e_stbB, s_tup, s_lf, s_lt, s_nil, s_cons, s_app, s_map, s_non, s_cls, s_scr, fz_scr, fz_cls, fz_tup, fz_lst, fz_nil, fz_cons, fz_map, fz_non, nf_map, nf_tup, nf_lt, nf_int, nf_str, nf_bl, nf_non, nf_nil, nf_cons, small_iff, o_truB, ↓it_tup, ↓it_lst, ↓it_str, ↓it_or, hid_0, hid_c, hid_n, hid_s, wipe_0, wipe_c, back_0, back_c, ↓t_yes, List.all_cons, List.all_nil, List.cons_append, List.nil_append, List.length_cons, List.length_nil, List.length_map, set_0, set_s, ap_d, len_0, len_s, List.nodup_nil, Bool.and_true, Bool.true_and, Bool.and_self, Bool.not_true, Bool.not_false, Bool.false_eq_true, if_true, if_false, decide_true, decide_false, decide_eq_true_eq, true_and, and_true, and_false, false_and, or_false, false_or, true_or, Nat.reduceAdd, Nat.reduceLT, Nat.reduceLeDiff, Nat.reduceEqDiff, Nat.zero_add, List.nodup_cons, List.not_mem_nil, not_false_eq_true, or_true, or_self, implies_true, ↓e_wk, ↓e_dfrz, wk_int, wk_str, wk_bl, wk_non, wk_tup, wk_lst, wk_txs, wk_rng, wk_cls, wk_scr, wk_ts, s_txs, s_rng, s_ts, fz_txs, fz_rng, fz_ts, ↓it_any, it_ts, ↓it_enum, ↓it_zip, sk_tup, sk_lst, ↓e_mt, p_tx1, p_tx2, p_tx3, p_ls1, p_ls2, p_ls3, ↓e_ext, o_lstO, ↓e_appIx, o_minD, ↓e_callX, o_nm, o_rg1, and_self, Int.reduceAdd, Int.reduceNeg, $ts,*])
theorem stbL_ints : ∀ L : List Int, stbL (L.map FM.D.int) = true := fun L => s_map fun _ => rfl
theorem frzL_ints (L : List Int) : frzL (L.map FM.D.int) = L.map FM.D.int := frzL_stb _ (stbL_ints L)
theorem cutD_ints (L : List Int) (lo hi : Option Int) : ∃ M : List Int, FM.cutD (L.map FM.D.int) lo hi = M.map FM.D.int ∧ M.length ≤ L.length := by
  refine ⟨(L.drop (HT.sIx L.length 0 lo)).take (HT.sIx L.length L.length hi - HT.sIx L.length 0 lo), ?_, ?_⟩
  · unfold FM.cutD
    rw [List.length_map, List.map_take, List.map_drop]
  · rw [List.length_take, List.length_drop]; omega
theorem rngD_at {a b : Int} {j : Nat} {d : FM.D} (h : (rngD a b)[j]? = some d) : d = .int (a + j) ∧ (j : Int) < b - a := by
  unfold rngD at h
  rw [List.getElem?_map] at h
  obtain ⟨i, e1, e2⟩ := Option.map_eq_some_iff.mp h
  obtain ⟨hi, e3⟩ := List.getElem?_eq_some_iff.mp e1
  rw [List.getElem_range] at e3
  rw [List.length_range] at hi
  subst e3
  exact ⟨e2.symm, by omega⟩
theorem rngD_len {a b : Int} : (rngD a b).length = (b - a).toNat := by unfold rngD; rw [List.length_map, List.length_range]
theorem ints_at {L : List Int} {j : Nat} {d : FM.D} (h : (L.map FM.D.int)[j]? = some d) : ∃ x, d = .int x ∧ L[j]? = some x := by
  rw [List.getElem?_map] at h
  obtain ⟨i, e1, e2⟩ := Option.map_eq_some_iff.mp h
  exact ⟨i, e2.symm, e1⟩
theorem map_snoc (L : List Int) (x : Int) : L.map FM.D.int ++ [.int x] = (L ++ [x]).map FM.D.int := by rw [List.map_append]; rfl
theorem map_snocS (L : List Str) (x : Str) : L.map FM.D.str ++ [.str x] = (L ++ [x]).map FM.D.str := by rw [List.map_append]; rfl
theorem set_ints (F : List Int) (j : Nat) (x : Int) : (F.map FM.D.int).set j (.int x) = (F.set j x).map FM.D.int := by rw [List.map_set]
theorem ixN_in {n : Nat} {i : Int} (h0 : 0 ≤ i) (h : i < n) : ixN n i = some i.toNat := by
  unfold ixN; rw [if_pos h0, if_pos h]
theorem o_pow18 : gPow (.int 10) (.int 18) = some (.int (10 ^ (18 : Int).toNat)) := by
  unfold gPow gIc
  exact if_pos (by decide)
/-- the state of the draws -/
abbrev sD (L : List Int) (k : Int) : FM.D := .lst true [.lst true (L.map FM.D.int), .int k]
theorem wp_next {L : List Int} {k many : Int} {Q : FM.D → List FM.D → Prop} {X : XP} (hL : 0 < L.length) (hl : L.length < 1073741824) (hk : 0 ≤ k) (hk2 : k < 2 ^ 60) (hm : 0 < many)
   (hQ : ∀ x, 0 ≤ x → x < many → Q (.int x) [sD L (k + 1)]) : fs_law_next.wp [sD L k, .int many] Q X := by
  have hp2 : (0 : Int) < (L.length : Nat) := by omega
  have hp3 : ((L.length : Nat) : Int) < 1073741824 := by omega
  obtain ⟨x, e1, y, rfl⟩ : ∃ x, atI (L.map FM.D.int) ((k + 1) % (L.length : Nat)) = some x ∧ ∃ y, x = FM.D.int y := by
    obtain ⟨x, e1, e2⟩ := atI_in (xs := L.map FM.D.int) (i := (k + 1) % (L.length : Nat)) (Int.emod_nonneg _ (by omega)) (by rw [List.length_map]; exact Int.emod_lt_of_pos _ hp2)
    obtain ⟨y, e3, _⟩ := ints_at e2
    exact ⟨x, e1, y, e3⟩
  have i1 : ixN 2 1 = some 1 := by rfl
  show tb_law_next (rtE [0] Q) X [some (sD L k), some (.int many), none]
  unfold tb_law_next
  simp! [i1, e1, o_div hp2 hp3, o_mod hp2, o_mod hm]
  refine ⟨.inl (by omega), hQ _ (Int.emod_nonneg _ (by omega)) (Int.emod_lt_of_pos _ hm)⟩
theorem wp_fare {L : List Int} {k most : Int} {Q : FM.D → List FM.D → Prop} {X : XP} (hL : 0 < L.length) (hl : L.length < 1073741824) (hk : 0 ≤ k) (hk2 : k + 3 < 2 ^ 60) (hm : 0 ≤ most) (hm2 : most ≤ 99)
   (hQ : ∀ x, 0 ≤ x → x ≤ 99 → Q (.int x) [sD L (k + 3)]) : fs_law_fare.wp [sD L k, .int most] Q X := by
  show tb_law_fare (rtE [0] Q) X [some (sD L k), some (.int most)]
  unfold tb_law_fare
  simp! []
  refine ⟨rfl, wpI (wp_next hL hl hk (by omega) (by omega) fun x hx hx2 => ?_)⟩
  simp! []
  refine ⟨rfl, wpI (wp_next hL hl (by omega) (by omega) (by omega) fun y hy hy2 => ?_)⟩
  simp! []
  refine ⟨rfl, wpI (wp_next hL hl (by omega) (by omega) (by omega) fun z hz hz2 => ?_)⟩
  obtain ⟨fd, ef, v, rfl, v1, v2⟩ := pick_in (α := FM.D) (P := fun d => ∃ v : Int, d = FM.D.int v ∧ 0 ≤ v ∧ v ≤ 99) (xs := [.int x, .int y, .int 0, .int most]) (fun x hx => by
    simp only [List.mem_cons, List.not_mem_nil, or_false] at hx
    rcases hx with rfl | rfl | rfl | rfl <;> exact ⟨_, rfl, by omega, by omega⟩) hz hz2
  simp! [ef]
  have e : k + 1 + 1 + 1 = k + 3 := by omega
  rw [e]
  exact hQ v v1 v2
theorem wp_stream {ns : List Int} (hn : ns.length ≤ 63) {Q : FM.D → List FM.D → Prop} {X : XP} (hQ : ∀ L : List Int, 0 < L.length → L.length ≤ 3781 → Q (.lst true (L.map FM.D.int)) []) : fs_law_stream.wp [.scr ns] Q X := by
  show tb_law_stream (rtE [] Q) X [some (.scr ns), none, none, none, none, none]
  unfold tb_law_stream
  obtain ⟨M, eM, lM⟩ := cutD_ints ns none (some 63)
  simp! [eM]
  refine forI (for_inv (fun j r => ∃ (L : List Int) (c d e f : Option FM.D), r = [some (.scr ns), some (.lst true (L.map FM.D.int)), c, d, e, f] ∧ L.length ≤ 60 * j ∧ (0 < j → 0 < L.length)) ⟨[], none, none, none, none, rfl, by simp, by omega⟩ ?_ ?_)
  · rintro j d r k hd ⟨L, c, d1, e1, f1, rfl, hl, hp⟩ hk
    obtain ⟨x, rfl, hx0⟩ := ints_at hd
    have hj := (List.getElem?_eq_some_iff.mp hx0).1
    simp! [o_pow18]
    have hx : 0 ≤ (if x < 0 then -x else x) := by split <;> omega
    generalize (if x < 0 then -x else x) = y at hx
    split
    · refine ⟨⟨by decide, by decide⟩, forI (for_inv (fun m r => ∃ (L : List Int) (c e f : Option FM.D) (z : Int), r = [some (.scr ns), some (.lst true (L.map FM.D.int)), c, some (.int z), e, f] ∧ L.length ≤ 60 * j + m ∧ (0 < m → 0 < L.length) ∧ 0 ≤ z) ⟨L, _, _, _, y, rfl, by omega, by omega, hx⟩ ?_ ?_)⟩
      · rintro m d r k2 hd2 ⟨L2, c2, e2, f2, z, rfl, hl2, hp2, hz⟩ hk2
        obtain ⟨rfl, hm⟩ := rngD_at hd2
        simp! [o_mod (show (0 : Int) < 1009 by decide), o_div (show (0 : Int) < 1009 by decide) (by decide), map_snoc]
        refine ⟨by omega, ?_⟩
        split
        · exact hk _ ⟨_, _, _, _, _, rfl, by simp only [List.length_append, List.length_cons, List.length_nil]; omega, fun _ => by simp⟩
        · exact hk2 _ ⟨_, _, _, _, _, rfl, by simp only [List.length_append, List.length_cons, List.length_nil]; omega, fun _ => by simp, Int.ediv_nonneg hz (by decide)⟩
      · rintro r ⟨L2, c2, e2, f2, z, rfl, hl2, hp2, hz⟩
        rw [rngD_len] at hl2 hp2
        exact hk _ ⟨_, _, _, _, _, rfl, by simp at hl2; omega, fun _ => hp2 (by decide)⟩
    · simp! [o_mod (show (0 : Int) < 2147483647 by decide)]
      refine ⟨⟨by decide, by decide⟩, forI (for_inv (fun m r => ∃ (L : List Int) (c e : Option FM.D) (y z : Int), r = [some (.scr ns), some (.lst true (L.map FM.D.int)), c, some (.int y), e, some (.int z)] ∧ L.length ≤ 60 * j + m ∧ (0 < m → 0 < L.length) ∧ 0 ≤ z ∧ z < 2147483647) ⟨L, _, _, y, _, rfl, by omega, by omega, Int.emod_nonneg _ (by decide), Int.emod_lt_of_pos _ (by decide)⟩ ?_ ?_)⟩
      · rintro m d r k2 hd2 ⟨L2, c2, e2, y2, z, rfl, hl2, hp2, hz, hz2⟩ hk2
        obtain ⟨rfl, hm⟩ := rngD_at hd2
        simp! [o_mod (show (0 : Int) < 1009 by decide), o_mod (show (0 : Int) < 2147483647 by decide), o_mod (show (0 : Int) < 2147483629 by decide), map_snoc]
        refine ⟨by omega, hk2 _ ⟨_, _, _, _, _, rfl, by simp only [List.length_append, List.length_cons, List.length_nil]; omega, fun _ => by simp, Int.emod_nonneg _ (by decide), Int.emod_lt_of_pos _ (by decide)⟩⟩
      · rintro r ⟨L2, c2, e2, y2, z, rfl, hl2, hp2, hz, hz2⟩
        rw [rngD_len] at hl2 hp2
        exact hk _ ⟨_, _, _, _, _, rfl, by simp at hl2; omega, fun _ => hp2 (by decide)⟩
  · rintro r ⟨L, c, d1, e1, f1, rfl, hl, hp⟩
    rw [List.length_map] at hl hp
    simp! [map_snoc]
    split
    · exact ⟨by omega, hQ _ (by simp) (by simp only [List.length_append, List.length_cons, List.length_nil]; omega)⟩
    · rename_i hne
      exact hQ L (by omega) (by omega)
end K16


set_option Elab.async false
set_option linter.all false
set_option maxRecDepth 100000
namespace K16
open PySem PySem.Spec PyProof.Rows L2 FM
local macro_rules | `(tactic| simp! [$ts,*]) => `(tactic| simp only [↓nx_mk, ↓rt_mk, ↓bk_mk, ↓ct_mk, ↓rt_E, ↓nx_E, slots_0, slots_c, consO_s, ↓T_got, ↓T_wp, ↓T_for, ↓T_comp, got_sT, got_nT, got_ifT, gm_s, o_addT, o_addLs, o_addSt, o_mulI2, o_repT, o_slT2, o_slL2, o_slS2, o_slC2, o_tupL, o_tupT, o_lstL, o_lstT, o_abs2, o_min2, o_ixS2, cut_to, cut_from, cut_neg, cut_last, stbL_take, stbL_drop, stbL_dl, stbL_rev, stbL_set, n_cast, ↓dRevT_e, ↓dRevL_e, ↓dRevU_e, ↓e_orE, Bool.and_eq_true, Int.reduceLT, Int.reduceLE,  ↓e_seq, ↓e_next, ↓e_brk, ↓e_cnt, ↓e_drop, ↓e_ret, ↓e_retN, ↓e_ifS, ↓e_raise, ↓e_nameN, ↓e_gtup, ↓e_gnil, ↓e_gcons, as_tup, ↓e_asg, ↓e_augN, ↓e_setIxN, ↓e_for, ↓e_var, ↓e_varB, ↓e_varUN, ↓e_movN, ↓e_c, ↓e_op, ↓e_opS, ↓e_ix, ↓e_ixB, ↓e_ixS, ↓e_pick, ↓e_nil, ↓e_cons, ↓e_tup, ↓e_lst, ↓e_cl, ↓e_appN, ↓e_knil, ↓e_kc, ↓e_kb, ↓e_km, ↓e_callM, ↓e_tE, ↓e_tTru, ↓e_tAnd, ↓e_tOr, ↓e_tNot, ↓e_and, ↓e_or, ↓e_not, ↓e_chain, ↓e_if, ↓e_neg, ↓e_sl, ↓e_so, ↓e_son, ↓e_rng1, ↓e_rng2, ↓e_compN, o_addI, o_subI, o_ltI, o_leI, o_gtI, o_geI, o_eqI, o_neI, o_eqS, o_neS, o_int, o_intB, o_lenT, o_lenL, o_asI, o_asB, o_own, o_ixT, o_ixL, atI_0, atI_1, atI_2, atI_3, slot_0, slot_s, e_argc, e_argb, e_argm, e_args0, e_argsC, Option.map_some, e_ms0, e_msc, e_msb, e_msm, e_bu0, e_buc, e_bum, e_bub, e_buM, e_put0, e_put1, e_frzI, e_frzS, e_frzB, e_stbI, e_stbS, e_stbB, s_tup, s_lf, s_lt, s_nil, s_cons, s_app, s_map, s_non, s_cls, s_scr, fz_scr, fz_cls, fz_tup, fz_lst, fz_nil, fz_cons, fz_map, fz_non, nf_map, nf_tup, nf_lt, nf_int, nf_str, nf_bl, nf_non, nf_nil, nf_cons, small_iff, o_truB, ↓it_tup, ↓it_lst, ↓it_str, ↓it_or, hid_0, hid_c, hid_n, hid_s, wipe_0, wipe_c, back_0, back_c, ↓t_yes, List.all_cons, List.all_nil, List.cons_append, List.nil_append, List.length_cons, List.length_nil, List.length_map, set_0, set_s, ap_d, len_0, len_s, List.nodup_nil, Bool.and_true, Bool.true_and, Bool.and_self, Bool.not_true, Bool.not_false, Bool.false_eq_true, if_true, if_false, decide_true, decide_false, decide_eq_true_eq, true_and, and_true, and_false, false_and, or_false, false_or, true_or, Nat.reduceAdd, Nat.reduceLT, Nat.reduceLeDiff, Nat.reduceEqDiff, Nat.zero_add, List.nodup_cons, List.not_mem_nil, not_false_eq_true, or_true, or_self, implies_true, ↓e_wk, ↓e_dfrz, wk_int, wk_str, wk_bl, wk_non, wk_tup, wk_lst, wk_txs, wk_rng, wk_cls, wk_scr, wk_ts, s_txs, s_rng, s_ts, fz_txs, fz_rng, fz_ts, ↓it_any, it_ts, ↓it_enum, ↓it_zip, sk_tup, sk_lst, ↓e_mt, p_tx1, p_tx2, p_tx3, p_ls1, p_ls2, p_ls3, ↓e_ext, o_lstO, ↓e_appIx, o_minD, ↓e_callX, o_nm, o_rg1, and_self, Int.reduceAdd, Int.reduceNeg, $ts,*])
def okS (s : Str) : Bool := s.cps.toList.all fun c => decide (c < 16 ^ 8) && decide (c ≠ 113)
theorem okS_plain {s : Str} (h : okS s = true) : (s.cps.toList.all fun c => decide (c < 16 ^ 8)) = true := List.all_eq_true.mpr fun c hc => by
  have := List.all_eq_true.mp h c hc
  rw [Bool.and_eq_true] at this
  exact this.1
theorem okS_q {s : Str} (h : okS s = true) : s ≠ ("q" : Str) := by
  rintro rfl
  revert h
  decide +kernel
theorem okS_app {x y : Str} (h : okS x = true) (h2 : okS y = true) : okS (x ++ y) = true := by
  unfold okS at *
  show (x.cps ++ y.cps).toList.all _ = true
  rw [Array.toList_append, List.all_append, h, h2]; rfl
theorem okS_one {z : Str} {c : Nat} (h : okS z = true) (hc : c ∈ z.cps.toList) : okS ⟨#[c]⟩ = true := by
  unfold okS at *
  have := List.all_eq_true.mp h c hc
  show ([c] : List Nat).all _ = true
  rw [List.all_cons, this]; rfl
theorem sign_in {z : Str} {i : Int} (h0 : 0 ≤ i) (h : i < z.length) : ∃ c, atI z.cps.toList i = some c ∧ c ∈ z.cps.toList := by
  have hl : z.cps.toList.length = z.length := Array.length_toList
  obtain ⟨c, e, e3⟩ := atI_in (xs := z.cps.toList) h0 (by rw [hl]; exact h)
  exact ⟨c, e, List.mem_of_getElem? e3⟩
theorem str_len {x y : Str} : (x ++ y).length = x.length + y.length := by
  show (x.cps ++ y.cps).size = _
  rw [Array.size_append]; rfl
theorem strs_flat : ∀ T : List Str, (T.map FM.D.str).all flatD = true
  | [] => rfl
  | t :: T => by rw [List.map_cons, List.all_cons, strs_flat T]; rfl
theorem any_eq : ∀ (ks : List Str) (s : Str), ((ks.map FM.D.str).any fun y => eqFl y (.str s)) = ks.any fun y => y == s
  | [], _ => rfl
  | k :: ks, s => by rw [List.map_cons, List.any_cons, List.any_cons, any_eq ks s]; rfl
theorem o_inL (o : Bool) (x : Str) (T : List Str) : uIn (.str x) (.lst o (T.map FM.D.str)) = some (.bl (T.any fun y => y == x)) := by
  have e : gIn id (.str x) (.lst o (T.map FM.D.str)) = some (.bl ((T.map FM.D.str).any fun y => eqFl y (.str x))) := if_pos ⟨rfl, strs_flat T⟩
  unfold uIn orG
  rw [e, any_eq]
theorem o_inT (x : Str) (T : List Str) : uIn (.str x) (.tup (T.map FM.D.str)) = some (.bl (T.any fun y => y == x)) := by
  have e : gIn id (.str x) (.tup (T.map FM.D.str)) = some (.bl ((T.map FM.D.str).any fun y => eqFl y (.str x))) := if_pos ⟨rfl, strs_flat T⟩
  unfold uIn orG
  rw [e, any_eq]
theorem strsOf_strs : ∀ T : List Str, strsOf (T.map FM.D.str) = some T
  | [] => rfl
  | t :: T => by rw [List.map_cons]; simp only [strsOf, strsOf_strs T, Option.map_some]
theorem o_tupS {o : Bool} {T : List Str} : gTupU [.lst o (T.map FM.D.str)] = some (tsD T) := by
  unfold gTupU
  simp only [strsOf_strs]
  cases T with
  | nil => rfl
  | cons => rfl
def isStr : FM.D → Bool
  | .str _ => true
  | _ => false
theorem o_tupN {α : Type} {f : α → FM.D} {o : Bool} {xs : List α} (h : ∀ x, isStr (f x) = false) (h2 : ∀ x, stb (f x) = true) : gTupU [.lst o (xs.map f)] = some (.tup (xs.map f)) := by
  have e : stbL (xs.map f) = true := s_map h2
  unfold gTupU
  cases xs with
  | nil => rfl
  | cons x xs =>
    have e2 : strsOf ((x :: xs).map f) = none := by
      rw [List.map_cons]
      have := h x
      cases hf : f x with
      | str s => rw [hf] at this; cases this
      | _ => simp only [strsOf]
    simp only [e2]
    exact if_pos e
theorem o_tupI {o : Bool} {xs : List Int} : gTupU [.lst o (xs.map FM.D.int)] = some (.tup (xs.map FM.D.int)) := o_tupN (fun _ => rfl) fun _ => rfl
theorem wp_word {L : List Int} {k : Int} {T : List Str} {Q : FM.D → List FM.D → Prop} {X : XP} (hL : 0 < L.length) (hl : L.length < 1073741824) (hk : 0 ≤ k) (hk2 : k + 9 < 2 ^ 60) (hT : T.length ≤ 11)
    (hQ : ∀ (s : Str) (k' : Int), k ≤ k' → k' ≤ k + 9 → s.length ≤ 8 → okS s = true → Q (.str s) [sD L k']) : fs_law_word.wp [sD L k, .lst false (T.map FM.D.str)] Q X := by
  show tb_law_word (rtE [0] Q) X [some (sD L k), some (.lst false (T.map FM.D.str)), none, none]
  unfold tb_law_word
  simp! []
  refine ⟨rfl, wpI (wp_next hL hl hk (by omega) (by decide) fun z hz hz2 => ?_)⟩
  obtain ⟨fd, ef, m, rfl, hm⟩ := pick_in (α := FM.D) (P := fun d => ∃ v : Nat, d = FM.D.int v ∧ v ≤ 8) (xs := [.int 1, .int 1, .int 2, .int 8]) (fun x hx => by
    simp only [List.mem_cons, List.not_mem_nil, or_false] at hx
    rcases hx with rfl | rfl | rfl | rfl
    · exact ⟨1, rfl, by decide⟩
    · exact ⟨1, rfl, by decide⟩
    · exact ⟨2, rfl, by decide⟩
    · exact ⟨8, rfl, by decide⟩) hz hz2
  simp! [ef]
  refine ⟨⟨by omega, by omega⟩, forI (for_inv (fun j r => ∃ (s : Str) (k' : Int) (c : Option FM.D), r = [some (sD L k'), some (.lst false (T.map FM.D.str)), some (.str s), c] ∧ k ≤ k' ∧ k' ≤ k + 1 + j ∧ s.length ≤ j ∧ okS s = true) ⟨("" : Str), k + 1, none, rfl, by omega, by omega, by decide, by decide⟩ ?_ ?_)⟩
  · rintro j d r kk hd ⟨s, k', c, rfl, h1, h2, h3, h4⟩ hkk
    obtain ⟨rfl, hj⟩ := rngD_at hd
    simp! []
    refine ⟨rfl, wpI (wp_next hL hl (by omega) (by omega) (by decide) fun y hy hy2 => ?_)⟩
    obtain ⟨ch, ec, mc⟩ := sign_in (z := ("abcxyz" : Str)) (i := y) hy (by exact hy2)
    have l6 : ("abcxyz" : Str).length = 6 := by decide
    have l1 : (⟨#[ch]⟩ : Str).length = 1 := rfl
    simp! [ec, l6, l1]
    refine ⟨by omega, hkk _ ⟨_, _, _, rfl, by omega, by omega, by rw [str_len]; show s.length + 1 ≤ j + 1; omega, okS_app h4 (okS_one (by decide +kernel) mc)⟩⟩
  · rintro r ⟨s, k', c, rfl, h1, h2, h3, h4⟩
    rw [rngD_len] at h2 h3
    have hm2 : ((m : Int) - 0).toNat = m := by omega
    rw [hm2] at h2 h3
    obtain ⟨ch, ec, mc⟩ := sign_in (z := ("abcdefghijkl" : Str)) (i := (T.length : Nat)) (by omega) (by show (T.length : Int) < 12; omega)
    have l12 : ("abcdefghijkl" : Str).length = 12 := by decide
    have l1 : (⟨#[ch]⟩ : Str).length = 1 := rfl
    have l1w : ("w" : Str).length = 1 := by decide
    simp! [o_inL, ec, l12, l1, l1w]
    split
    · exact hQ _ k' h1 (by omega) (by rw [str_len]; show 1 + 1 ≤ 8; omega) (okS_app (by decide +kernel) (okS_one (by decide +kernel) mc))
    · exact hQ s k' h1 (by omega) (by omega) h4
theorem nofl_sD (L : List Int) (k : Int) : noflL [sD L k] = true := by
  simp! []
theorem wp_letters {L : List Int} {k many : Int} {Q : FM.D → List FM.D → Prop} {X : XP} (hL : 0 < L.length) (hl : L.length < 1073741824) (hk : 0 ≤ k) (hk2 : k + 40 < 2 ^ 60) (hm0 : 0 ≤ many) (hm : many ≤ 4)
    (hQ : ∀ (T : List Str) (k' : Int), k ≤ k' → k' ≤ k + 36 → (T.length : Int) = many → (∀ s ∈ T, s.length ≤ 8) → (∀ s ∈ T, okS s = true) → Q (tsD T) [sD L k']) : fs_law_letters.wp [sD L k, .int many] Q X := by
  show tb_law_letters (rtE [0] Q) X [some (sD L k), some (.int many), none, none]
  unfold tb_law_letters
  simp! []
  refine ⟨⟨by omega, by omega⟩, forI (for_inv (fun j r => ∃ (T : List Str) (k' : Int) (c : Option FM.D), r = [some (sD L k'), some (.int many), some (.lst true (T.map FM.D.str)), c] ∧ k ≤ k' ∧ k' ≤ k + 9 * j ∧ T.length = j ∧ (∀ s ∈ T, s.length ≤ 8) ∧ ∀ s ∈ T, okS s = true) ⟨[], k, none, rfl, by omega, by omega, rfl, fun s h => (nomatch h), fun s h => (nomatch h)⟩ ?_ ?_)⟩
  · rintro j d r kk hd ⟨T, k', c, rfl, h1, h2, h3, h4, h5⟩ hkk
    obtain ⟨rfl, hj⟩ := rngD_at hd
    simp! []
    refine ⟨rfl, by decide, wpI (wp_word hL hl (by omega) (by omega) (by omega) fun s k2 g1 g2 g3 g5 => ?_)⟩
    simp! [nofl_sD, map_snocS]
    refine ⟨by omega, hkk _ ⟨_, _, _, rfl, by omega, by omega, by simp [h3], fun x hx => ?_, fun x hx => ?_⟩⟩
    · rcases List.mem_append.mp hx with z | z
      · exact h4 x z
      · rw [List.mem_singleton.mp z]; exact g3
    · rcases List.mem_append.mp hx with z | z
      · exact h5 x z
      · rw [List.mem_singleton.mp z]; exact g5
  · rintro r ⟨T, k', c, rfl, h1, h2, h3, h4, h5⟩
    rw [rngD_len] at h2 h3
    simp! [o_tupS]
    exact hQ T k' h1 (by omega) (by omega) h4 h5
end K16


set_option Elab.async false
set_option linter.all false
set_option maxRecDepth 100000
namespace K16
open PySem PySem.Spec PyProof.Rows L2 FM
local macro_rules | `(tactic| simp! [$ts,*]) => `(tactic| simp only [↓nx_mk, ↓rt_mk, ↓bk_mk, ↓ct_mk, ↓rt_E, ↓nx_E, slots_0, slots_c, consO_s, ↓T_got, ↓T_wp, ↓T_for, ↓T_comp, got_sT, got_nT, got_ifT, gm_s, o_addT, o_addLs, o_addSt, o_mulI2, o_repT, o_slT2, o_slL2, o_slS2, o_slC2, o_tupL, o_tupT, o_lstL, o_lstT, o_abs2, o_min2, o_ixS2, cut_to, cut_from, cut_neg, cut_last, stbL_take, stbL_drop, stbL_dl, stbL_rev, stbL_set, n_cast, ↓dRevT_e, ↓dRevL_e, ↓dRevU_e, ↓e_orE, Bool.and_eq_true, Int.reduceLT, Int.reduceLE,  ↓e_seq, ↓e_next, ↓e_brk, ↓e_cnt, ↓e_drop, ↓e_ret, ↓e_retN, ↓e_ifS, ↓e_raise, ↓e_nameN, ↓e_gtup, ↓e_gnil, ↓e_gcons, as_tup, ↓e_asg, ↓e_augN, ↓e_setIxN, ↓e_for, ↓e_var, ↓e_varB, ↓e_varUN, ↓e_movN, ↓e_c, ↓e_op, ↓e_opS, ↓e_ix, ↓e_ixB, ↓e_ixS, ↓e_pick, ↓e_nil, ↓e_cons, ↓e_tup, ↓e_lst, ↓e_cl, ↓e_appN, ↓e_knil, ↓e_kc, ↓e_kb, ↓e_km, ↓e_callM, ↓e_tE, ↓e_tTru, ↓e_tAnd, ↓e_tOr, ↓e_tNot, ↓e_and, ↓e_or, ↓e_not, ↓e_chain, ↓e_if, ↓e_neg, ↓e_sl, ↓e_so, ↓e_son, ↓e_rng1, ↓e_rng2, ↓e_compN, o_addI, o_subI, o_ltI, o_leI, o_gtI, o_geI, o_eqI, o_neI, o_eqS, o_neS, o_int, o_intB, o_lenT, o_lenL, o_asI, o_asB, o_own, o_ixT, o_ixL, atI_0, atI_1, atI_2, atI_3, slot_0, slot_s, e_argc, e_argb, e_argm, e_args0, e_argsC, Option.map_some, e_ms0, e_msc, e_msb, e_msm, e_bu0, e_buc, e_bum, e_bub, e_buM, e_put0, e_put1, e_frzI, e_frzS, e_frzB, e_stbI, e_stbS, e_stbB, s_tup, s_lf, s_lt, s_nil, s_cons, s_app, s_map, s_non, s_cls, s_scr, fz_scr, fz_cls, fz_tup, fz_lst, fz_nil, fz_cons, fz_map, fz_non, nf_map, nf_tup, nf_lt, nf_int, nf_str, nf_bl, nf_non, nf_nil, nf_cons, small_iff, o_truB, ↓it_tup, ↓it_lst, ↓it_str, ↓it_or, hid_0, hid_c, hid_n, hid_s, wipe_0, wipe_c, back_0, back_c, ↓t_yes, List.all_cons, List.all_nil, List.cons_append, List.nil_append, List.length_cons, List.length_nil, List.length_map, set_0, set_s, ap_d, len_0, len_s, List.nodup_nil, Bool.and_true, Bool.true_and, Bool.and_self, Bool.not_true, Bool.not_false, Bool.false_eq_true, if_true, if_false, decide_true, decide_false, decide_eq_true_eq, true_and, and_true, and_false, false_and, or_false, false_or, true_or, Nat.reduceAdd, Nat.reduceLT, Nat.reduceLeDiff, Nat.reduceEqDiff, Nat.zero_add, List.nodup_cons, List.not_mem_nil, not_false_eq_true, or_true, or_self, implies_true, ↓e_wk, ↓e_dfrz, wk_int, wk_str, wk_bl, wk_non, wk_tup, wk_lst, wk_txs, wk_rng, wk_cls, wk_scr, wk_ts, s_txs, s_rng, s_ts, fz_txs, fz_rng, fz_ts, ↓it_any, it_ts, ↓it_enum, ↓it_zip, sk_tup, sk_lst, ↓e_mt, p_tx1, p_tx2, p_tx3, p_ls1, p_ls2, p_ls3, ↓e_ext, o_lstO, ↓e_appIx, o_minD, ↓e_callX, o_nm, o_rg1, and_self, Int.reduceAdd, Int.reduceNeg, $ts,*])
/-- a fare or none, drawn for each state -/
theorem wp_firsts {L : List Int} {k many most w : Int} {l t : FM.D} {a b c d e f : Option FM.D} {Q : List FM.D → DEnv → Prop} (hL : 0 < L.length) (hl : L.length < 1073741824) (hk : 0 ≤ k) (hk2 : k + 40 < 2 ^ 60) (hm0 : 0 ≤ many) (hm : many ≤ 8) (hw : 0 < w) (hmo : 0 ≤ most) (hmo2 : most ≤ 99)
    (hQ : ∀ (F : List Int) (k' : Int), k ≤ k' → k' ≤ k + 32 → (F.length : Int) = many → (∀ x ∈ F, -1 ≤ x ∧ x ≤ 99) → Q (F.map FM.D.int) [some (sD L k'), some l, some (.int many), some (.int most), some t, a, b, c, none, d, e, f]) :
    compW (dgName 8) dtYes (dPick (daCons (dNeg (dC (.int (1)))) (daCons (dCall fs_law_fare (dkM 0 (dkB 3 dkNil))) daNil)) (dCl gInt (daCons (dOp uEq (dCall fs_law_next (dkM 0 (dkC (dC (.int w)) dkNil))) (dC (.int (0)))) daNil))) [8] (rngD 0 many) [some (sD L k), some l, some (.int many), some (.int most), some t, a, b, c, none, d, e, f] [] Q := by
  refine comp_inv (fun j r acc => ∃ (F : List Int) (k' : Int), acc = F.map FM.D.int ∧ r = [some (sD L k'), some l, some (.int many), some (.int most), some t, a, b, c, none, d, e, f] ∧ k ≤ k' ∧ k' ≤ k + 4 * j ∧ F.length = j ∧ ∀ x ∈ F, -1 ≤ x ∧ x ≤ 99) _ 0 _ _ _ ⟨[], k, rfl, rfl, by omega, by omega, rfl, fun x h => (nomatch h)⟩ ?_ ?_
  · rintro j d0 r acc kk hd ⟨F, k', rfl, rfl, h1, h2, h3, h4⟩ hkk
    obtain ⟨rfl, hj⟩ := rngD_at hd
    rw [Nat.zero_add] at h2 h3
    simp! []
    refine ⟨rfl, wpI (wp_fare hL hl (by omega) (by omega) hmo hmo2 fun x hx hx2 => ?_)⟩
    simp! []
    refine ⟨rfl, wpI (wp_next hL hl (by omega) (by omega) hw fun y hy hy2 => ?_)⟩
    have : ∃ v : Int, -1 ≤ v ∧ v ≤ 99 ∧ atI [FM.D.int (-1), FM.D.int x] (if decide (y = 0) = true then 1 else 0) = some (.int v) := by
      split
      · exact ⟨x, by omega, hx2, atI_1⟩
      · exact ⟨-1, by omega, by omega, atI_0⟩
    obtain ⟨v, v1, v2, ev⟩ := this
    simp only [decide_eq_true_eq] at ev
    simp! [ev, map_snoc]
    refine hkk _ _ ⟨_, _, rfl, rfl, by omega, by omega, by simp [h3], fun z hz => ?_⟩
    rcases List.mem_append.mp hz with q | q
    · exact h4 z q
    · rw [List.mem_singleton.mp q]; exact ⟨v1, v2⟩
  · rintro r acc ⟨F, k', rfl, rfl, h1, h2, h3, h4⟩
    rw [Nat.zero_add, rngD_len] at h2 h3
    exact hQ F k' h1 (by omega) (by omega) h4
def encP (p : Int × Int) : FM.D := .tup [.int p.1, .int p.2]
def encR (r : List (Int × Int)) : FM.D := .tup (r.map encP)
def encS (s : List (List (Int × Int))) : FM.D := .tup (s.map encR)
theorem stb_P (p : Int × Int) : stb (encP p) = true := nr (by simp only [encP, stb, stbL, Bool.and_self])
theorem stb_R (p : List (Int × Int)) : stb (encR p) = true := by unfold encR; rw [s_tup]; exact s_map stb_P
theorem stb_S (p : List (List (Int × Int))) : stb (encS p) = true := by unfold encS; rw [s_tup]; exact s_map stb_R
theorem is_P (p : Int × Int) : isStr (encP p) = false := rfl
theorem is_R (p : List (Int × Int)) : isStr (encR p) = false := rfl
theorem is_S (p : List (List (Int × Int))) : isStr (encS p) = false := rfl
theorem o_tupP {o : Bool} {xs : List (Int × Int)} : gTupU [.lst o (xs.map encP)] = some (.tup (xs.map encP)) := o_tupN is_P stb_P
theorem o_tupR {o : Bool} {xs : List (List (Int × Int))} : gTupU [.lst o (xs.map encR)] = some (.tup (xs.map encR)) := o_tupN is_R stb_R
theorem o_tupSS {o : Bool} {xs : List (List (List (Int × Int)))} : gTupU [.lst o (xs.map encS)] = some (.tup (xs.map encS)) := o_tupN is_S stb_S
theorem snocP (L : List (Int × Int)) (x y : Int) : L.map encP ++ [.tup [.int x, .int y]] = (L ++ [(x, y)]).map encP := by rw [List.map_append]; rfl
theorem snocR (L : List (List (Int × Int))) (x : List (Int × Int)) : L.map encR ++ [.tup (x.map encP)] = (L ++ [x]).map encR := by rw [List.map_append]; rfl
theorem snocS (L : List (List (List (Int × Int)))) (x : List (List (Int × Int))) : L.map encS ++ [.tup (x.map encR)] = (L ++ [x]).map encS := by rw [List.map_append]; rfl
/-- a row of moves as it is drawn -/
def RowB (many : Int) (r : List (Int × Int)) : Prop := (r.length : Int) ≤ many ∧ (∀ p ∈ r, 0 ≤ p.1 ∧ p.1 < many ∧ 0 ≤ p.2 ∧ p.2 ≤ 99) ∧ (r.map Prod.fst).Pairwise (· < ·)
theorem wp_row {L : List Int} {k many most thick : Int} {l : FM.D} {a b c d e f : Option FM.D} {Q : List FM.D → DEnv → Prop} (hL : 0 < L.length) (hl : L.length < 1073741824) (hk : 0 ≤ k) (hk2 : k + 40 < 2 ^ 60) (hm0 : 0 ≤ many) (hm : many ≤ 8) (hmo : 0 ≤ most) (hmo2 : most ≤ 99)
    (hQ : ∀ (R : List (Int × Int)) (k' : Int), k ≤ k' → k' ≤ k + 32 → RowB many R → Q (R.map encP) [some (sD L k'), some l, some (.int many), some (.int most), some (.int thick), a, b, c, d, e, f, none]) :
    compW (dgName 11) (dtE (dOp uLt (dCall fs_law_next (dkM 0 (dkC (dC (.int (6))) dkNil))) (dVarB 4))) (dTup (daCons (dVarU 11) (daCons (dCall fs_law_fare (dkM 0 (dkB 3 dkNil))) daNil))) [11] (rngD 0 many) [some (sD L k), some l, some (.int many), some (.int most), some (.int thick), a, b, c, d, e, f, none] [] Q := by
  refine comp_inv (fun j r acc => ∃ (R : List (Int × Int)) (k' : Int), acc = R.map encP ∧ r = [some (sD L k'), some l, some (.int many), some (.int most), some (.int thick), a, b, c, d, e, f, none] ∧ k ≤ k' ∧ k' ≤ k + 4 * j ∧ R.length ≤ j ∧ (∀ p ∈ R, 0 ≤ p.1 ∧ p.1 < many ∧ 0 ≤ p.2 ∧ p.2 ≤ 99) ∧ (∀ p ∈ R, p.1 < (j : Int)) ∧ (R.map Prod.fst).Pairwise (· < ·)) _ 0 _ _ _ ⟨[], k, rfl, rfl, by omega, by omega, by simp, fun x h => (nomatch h), fun x h => (nomatch h), List.Pairwise.nil⟩ ?_ ?_
  · rintro j d0 r acc kk hd ⟨R, k', rfl, rfl, h1, h2, h3, h4, h5, h6⟩ hkk
    obtain ⟨rfl, hj⟩ := rngD_at hd
    rw [Nat.zero_add] at h2 h3 h5
    simp! []
    refine ⟨rfl, wpI (wp_next hL hl (by omega) (by omega) (by decide) fun x hx hx2 => ?_)⟩
    simp! []
    split
    · refine ⟨rfl, wpI (wp_fare hL hl (by omega) (by omega) hmo hmo2 fun y hy hy2 => ?_)⟩
      simp! [snocP]
      refine hkk _ _ ⟨_, _, rfl, rfl, by omega, by omega, by simp only [List.length_append, List.length_cons, List.length_nil]; omega, fun z hz => ?_, fun z hz => ?_, ?_⟩
      · rcases List.mem_append.mp hz with q | q
        · exact h4 z q
        · rw [List.mem_singleton.mp q]; exact ⟨show (0 : Int) ≤ 0 + j by omega, show (0 : Int) + j < many by omega, hy, hy2⟩
      · rcases List.mem_append.mp hz with q | q
        · have := h5 z q; omega
        · rw [List.mem_singleton.mp q]; show (0 : Int) + j < ((0 + j + 1 : Nat) : Int); omega
      · rw [List.map_append]
        refine List.pairwise_append.mpr ⟨h6, List.pairwise_singleton _ _, fun a ha b hb => ?_⟩
        obtain ⟨p, hp, rfl⟩ := List.mem_map.mp ha
        simp only [List.map_cons, List.map_nil, List.mem_singleton] at hb
        subst hb
        have := h5 p hp; omega
    · exact hkk _ _ ⟨_, _, rfl, rfl, by omega, by omega, by omega, h4, fun z hz => by have := h5 z hz; omega, h6⟩
  · rintro r acc ⟨R, k', rfl, rfl, h1, h2, h3, h4, h5, h6⟩
    rw [Nat.zero_add, rngD_len] at h2 h3
    exact hQ R k' h1 (by omega) ⟨by omega, h4, h6⟩
/-- a machine as it is drawn -/
structure MB (many : Int) (T : List Str) (F : List Int) (S : List (List (List (Int × Int)))) (Z : List Int) : Prop where
  f : (F.length : Int) = many
  z : (Z.length : Int) = many
  s : (S.length : Int) = many
  fb : ∀ x ∈ F, -1 ≤ x ∧ x ≤ 99
  zb : ∀ x ∈ Z, -1 ≤ x ∧ x ≤ 99
  sb : ∀ r ∈ S, r.length = T.length ∧ ∀ q ∈ r, RowB many q
def encM (T : List Str) (F : List Int) (S : List (List (List (Int × Int)))) (Z : List Int) : FM.D := .tup [tsD T, .tup (F.map FM.D.int), .tup (S.map encS), .tup (Z.map FM.D.int)]
theorem set_bd {F : List Int} {j : Nat} {x : Int} (h : ∀ y ∈ F, -1 ≤ y ∧ y ≤ 99) (hx : -1 ≤ x ∧ x ≤ 99) : ∀ y ∈ F.set j x, -1 ≤ y ∧ y ≤ 99 := fun y hy => by
  rcases List.mem_or_eq_of_mem_set hy with q | q
  · exact h y q
  · rw [q]; exact hx
def tbMoves : DS := (dSeq (dAsg (dLst daNil) (dgName 7))
    (dSeq (dFor (diRng1 (daCons (dVarB 2) daNil)) (dgName 8)
      (dSeq (dAsg (dLst daNil) (dgName 9))
    (dSeq (dFor (diAny (dVarU 1)) (dgName 10)
      (dDrop (dApp 9 (dCl gTupU (daCons (dComp (diRng1 (daCons (dVarB 2) daNil)) [11] (dgName 11) (dtE (dOp uLt (dCall fs_law_next (dkM 0 (dkC (dC (.int (6))) dkNil))) (dVarB 4))) (dTup (daCons (dVarU 11) (daCons (dCall fs_law_fare (dkM 0 (dkB 3 dkNil))) daNil)))) daNil)))))
    (dDrop (dApp 7 (dCl gTupU (daCons (dVarB 9) daNil)))))))
    (dRet (dTup (daCons (dVarU 1) (daCons (dCl gTupU (daCons (dVarB 5) daNil)) (daCons (dCl gTupU (daCons (dVarB 7) daNil)) (daCons (dCl gTupU (daCons (dVarB 6) daNil)) daNil))))))))
theorem tb_m : tb_law_machine = (dSeq (dAsg (dComp (diRng1 (daCons (dVarB 2) daNil)) [8] (dgName 8) dtYes (dPick (daCons (dNeg (dC (.int (1)))) (daCons (dCall fs_law_fare (dkM 0 (dkB 3 dkNil))) daNil)) (dCl gInt (daCons (dOp uEq (dCall fs_law_next (dkM 0 (dkC (dC (.int (3))) dkNil))) (dC (.int (0)))) daNil)))) (dgName 5))
    (dSeq (dAsg (dComp (diRng1 (daCons (dVarB 2) daNil)) [8] (dgName 8) dtYes (dPick (daCons (dNeg (dC (.int (1)))) (daCons (dCall fs_law_fare (dkM 0 (dkB 3 dkNil))) daNil)) (dCl gInt (daCons (dOp uEq (dCall fs_law_next (dkM 0 (dkC (dC (.int (2))) dkNil))) (dC (.int (0)))) daNil)))) (dgName 6))
    (dSeq (dIfS (dtE (dOp uGt (dCall fs_law_next (dkM 0 (dkC (dC (.int (8))) dkNil))) (dC (.int (0)))))
      (dSeq (dSetIx 5 (dC (.int (0))) (dCall fs_law_fare (dkM 0 (dkB 3 dkNil))))
    (dSetIx 6 (dCall fs_law_next (dkM 0 (dkB 2 dkNil))) (dCall fs_law_fare (dkM 0 (dkB 3 dkNil)))))
      dNext) tbMoves))) := rfl
theorem wp_machine {L : List Int} {k many most thick : Int} {T : List Str} {Q : FM.D → List FM.D → Prop} {X : XP} (hL : 0 < L.length) (hl : L.length < 1073741824) (hk : 0 ≤ k) (hk2 : k + 2000 < 2 ^ 60) (hm0 : 0 < many) (hm : many ≤ 8) (hmo : 0 ≤ most) (hmo2 : most ≤ 99) (hT : T.length ≤ 4)
    (hQ : ∀ F S Z (k' : Int), k ≤ k' → k' ≤ k + 1500 → MB many T F S Z → Q (encM T F S Z) [sD L k']) : fs_law_machine.wp [sD L k, tsD T, .int many, .int most, .int thick] Q X := by
  show tb_law_machine (rtE [0] Q) X [some (sD L k), some (tsD T), some (.int many), some (.int most), some (.int thick), none, none, none, none, none, none, none]
  -- the rest, from firsts and lasts on
  have rest : ∀ (F Z : List Int) (k3 : Int), k ≤ k3 → k3 ≤ k + 100 → (F.length : Int) = many → (Z.length : Int) = many → (∀ x ∈ F, -1 ≤ x ∧ x ≤ 99) → (∀ x ∈ Z, -1 ≤ x ∧ x ≤ 99) →
      tbMoves (rtE [0] Q) X [some (sD L k3), some (tsD T), some (.int many), some (.int most), some (.int thick), some (.lst true (F.map FM.D.int)), some (.lst true (Z.map FM.D.int)), none, none, none, none, none] := by
    intro F Z k3 c1 c2 c3 c4 c5 c6
    unfold tbMoves
    simp! []
    refine ⟨⟨by omega, by omega⟩, forI (for_inv (fun j r => ∃ (S : List (List (List (Int × Int)))) (k' : Int) (a b c : Option FM.D), r = [some (sD L k'), some (tsD T), some (.int many), some (.int most), some (.int thick), some (.lst true (F.map FM.D.int)), some (.lst true (Z.map FM.D.int)), some (.lst true (S.map encS)), a, b, c, none] ∧ k3 ≤ k' ∧ k' ≤ k3 + 150 * j ∧ S.length = j ∧ ∀ r ∈ S, r.length = T.length ∧ ∀ q ∈ r, RowB many q) ⟨[], k3, none, none, none, rfl, by omega, by omega, rfl, fun x h => (nomatch h)⟩ ?_ ?_)⟩
    · rintro j d r kk hd ⟨S, k', a, b, c, rfl, h1, h2, h3, h4⟩ hkk
      obtain ⟨rfl, hj⟩ := rngD_at hd
      simp! []
      refine forI (for_inv (fun m r => ∃ (R : List (List (Int × Int))) (k4 : Int) (c : Option FM.D), r = [some (sD L k4), some (tsD T), some (.int many), some (.int most), some (.int thick), some (.lst true (F.map FM.D.int)), some (.lst true (Z.map FM.D.int)), some (.lst true (S.map encS)), some (.int (0 + j)), some (.lst true (R.map encR)), c, none] ∧ k' ≤ k4 ∧ k4 ≤ k' + 32 * m ∧ R.length = m ∧ ∀ q ∈ R, RowB many q) ⟨[], k', _, rfl, by omega, by omega, rfl, fun x h => (nomatch h)⟩ ?_ ?_)
      · rintro m d r kk2 hd2 ⟨R, k4, c, rfl, g1, g2, g3, g4⟩ hkk2
        rw [List.getElem?_map] at hd2
        obtain ⟨w, hw, rfl⟩ := Option.map_eq_some_iff.mp hd2
        have hm4 := (List.getElem?_eq_some_iff.mp hw).1
        simp! []
        refine ⟨⟨by omega, by omega⟩, by rw [rngD_len]; omega, compI (wp_row hL hl (by omega) (by omega) (by omega) hm hmo hmo2 fun P k5 p1 p2 p3 => ?_)⟩
        simp! [o_tupP, snocR]
        refine ⟨by omega, hkk2 _ ⟨_, _, _, rfl, by omega, by omega, by simp [g3], fun z hz => ?_⟩⟩
        rcases List.mem_append.mp hz with q | q
        · exact g4 z q
        · rw [List.mem_singleton.mp q]; exact p3
      · rintro r ⟨R, k4, c, rfl, g1, g2, g3, g4⟩
        rw [List.length_map] at g2 g3
        simp! [o_tupR, snocS]
        refine ⟨by omega, hkk _ ⟨_, _, _, _, _, rfl, by omega, by omega, by simp [h3], fun z hz => ?_⟩⟩
        rcases List.mem_append.mp hz with q | q
        · exact h4 z q
        · rw [List.mem_singleton.mp q]; exact ⟨g3, g4⟩
    · rintro r ⟨S, k', a, b, c, rfl, h1, h2, h3, h4⟩
      rw [rngD_len] at h2 h3
      simp! [o_tupI, o_tupSS]
      exact hQ F S Z k' (by omega) (by omega) ⟨c3, c4, by omega, c5, c6, h4⟩
  rw [tb_m]
  simp! []
  refine ⟨⟨by omega, by omega⟩, by rw [rngD_len]; omega, compI (wp_firsts (w := 3) hL hl hk (by omega) (by omega) hm (by decide) hmo hmo2 fun F k1 a1 a2 a3 a4 => ?_)⟩
  simp! []
  refine ⟨⟨by omega, by omega⟩, by rw [rngD_len]; omega, compI (wp_firsts (w := 2) hL hl (by omega) (by omega) (by omega) hm (by decide) hmo hmo2 fun Z k2 b1 b2 b3 b4 => ?_)⟩
  simp! []
  refine ⟨rfl, wpI (wp_next hL hl (by omega) (by omega) (by decide) fun x hx hx2 => ?_)⟩
  simp! []
  split
  · refine ⟨rfl, wpI (wp_fare hL hl (by omega) (by omega) hmo hmo2 fun y hy hy2 => ?_)⟩
    have i0 : ixN F.length 0 = some 0 := by unfold ixN; rw [if_pos (by decide), if_pos (by omega)]; rfl
    simp! [i0, set_ints]
    refine ⟨rfl, wpI (wp_fare hL hl (by omega) (by omega) hmo hmo2 fun y3 hy3 hy4 => ?_)⟩
    simp! []
    refine ⟨rfl, wpI (wp_next hL hl (by omega) (by omega) (by omega) fun i hi hi2 => ?_)⟩
    have i1 : ixN Z.length i = some i.toNat := ixN_in hi (by omega)
    simp! [i1, set_ints]
    exact rest _ _ _ (by omega) (by omega) (by rw [List.length_set]; exact a3) (by rw [List.length_set]; exact b3) (set_bd a4 ⟨by omega, hy2⟩) (set_bd b4 ⟨by omega, hy4⟩)
  · exact rest _ _ _ (by omega) (by omega) a3 b3 a4 b4
end K16


set_option Elab.async false
set_option linter.all false
set_option maxRecDepth 100000
namespace K16
open PySem PySem.Spec PyProof.Rows L2 FM
local macro_rules | `(tactic| simp! [$ts,*]) => `(tactic| simp only [↓nx_mk, ↓rt_mk, ↓bk_mk, ↓ct_mk, ↓rt_E, ↓nx_E, slots_0, slots_c, consO_s, ↓T_got, ↓T_wp, ↓T_for, ↓T_comp, got_sT, got_nT, got_ifT, gm_s, o_addT, o_addLs, o_addSt, o_mulI2, o_repT, o_slT2, o_slL2, o_slS2, o_slC2, o_tupL, o_tupT, o_lstL, o_lstT, o_abs2, o_min2, o_ixS2, cut_to, cut_from, cut_neg, cut_last, stbL_take, stbL_drop, stbL_dl, stbL_rev, stbL_set, n_cast, ↓dRevT_e, ↓dRevL_e, ↓dRevU_e, ↓e_orE, Bool.and_eq_true, Int.reduceLT, Int.reduceLE,  ↓e_seq, ↓e_next, ↓e_brk, ↓e_cnt, ↓e_drop, ↓e_ret, ↓e_retN, ↓e_ifS, ↓e_raise, ↓e_nameN, ↓e_gtup, ↓e_gnil, ↓e_gcons, as_tup, ↓e_asg, ↓e_augN, ↓e_setIxN, ↓e_for, ↓e_var, ↓e_varB, ↓e_varUN, ↓e_movN, ↓e_c, ↓e_op, ↓e_opS, ↓e_ix, ↓e_ixB, ↓e_ixS, ↓e_pick, ↓e_nil, ↓e_cons, ↓e_tup, ↓e_lst, ↓e_cl, ↓e_appN, ↓e_knil, ↓e_kc, ↓e_kb, ↓e_km, ↓e_callM, ↓e_tE, ↓e_tTru, ↓e_tAnd, ↓e_tOr, ↓e_tNot, ↓e_and, ↓e_or, ↓e_not, ↓e_chain, ↓e_if, ↓e_neg, ↓e_sl, ↓e_so, ↓e_son, ↓e_rng1, ↓e_rng2, ↓e_compN, o_addI, o_subI, o_ltI, o_leI, o_gtI, o_geI, o_eqI, o_neI, o_eqS, o_neS, o_int, o_intB, o_lenT, o_lenL, o_asI, o_asB, o_own, o_ixT, o_ixL, atI_0, atI_1, atI_2, atI_3, slot_0, slot_s, e_argc, e_argb, e_argm, e_args0, e_argsC, Option.map_some, e_ms0, e_msc, e_msb, e_msm, e_bu0, e_buc, e_bum, e_bub, e_buM, e_put0, e_put1, e_frzI, e_frzS, e_frzB, e_stbI, e_stbS, e_stbB, s_tup, s_lf, s_lt, s_nil, s_cons, s_app, s_map, s_non, s_cls, s_scr, fz_scr, fz_cls, fz_tup, fz_lst, fz_nil, fz_cons, fz_map, fz_non, nf_map, nf_tup, nf_lt, nf_int, nf_str, nf_bl, nf_non, nf_nil, nf_cons, small_iff, o_truB, ↓it_tup, ↓it_lst, ↓it_str, ↓it_or, hid_0, hid_c, hid_n, hid_s, wipe_0, wipe_c, back_0, back_c, ↓t_yes, List.all_cons, List.all_nil, List.cons_append, List.nil_append, List.length_cons, List.length_nil, List.length_map, set_0, set_s, ap_d, len_0, len_s, List.nodup_nil, Bool.and_true, Bool.true_and, Bool.and_self, Bool.not_true, Bool.not_false, Bool.false_eq_true, if_true, if_false, decide_true, decide_false, decide_eq_true_eq, true_and, and_true, and_false, false_and, or_false, false_or, true_or, Nat.reduceAdd, Nat.reduceLT, Nat.reduceLeDiff, Nat.reduceEqDiff, Nat.zero_add, List.nodup_cons, List.not_mem_nil, not_false_eq_true, or_true, or_self, implies_true, ↓e_wk, ↓e_dfrz, wk_int, wk_str, wk_bl, wk_non, wk_tup, wk_lst, wk_txs, wk_rng, wk_cls, wk_scr, wk_ts, s_txs, s_rng, s_ts, fz_txs, fz_rng, fz_ts, ↓it_any, it_ts, ↓it_enum, ↓it_zip, sk_tup, sk_lst, ↓e_mt, p_tx1, p_tx2, p_tx3, p_ls1, p_ls2, p_ls3, ↓e_ext, o_lstO, ↓e_appIx, o_minD, ↓e_callX, o_nm, o_rg1, and_self, Int.reduceAdd, Int.reduceNeg, $ts,*])
def vecD (f : List Int) : FM.D := .tup (f.map FM.D.int)
theorem wp_least {o : Bool} {xs : List Int} {Q : FM.D → List FM.D → Prop} {X : XP} (hQ : Q (.int (low xs)) []) : fs_least_of.wp [.lst o (xs.map FM.D.int)] Q X := by
  show tb_least_of (rtE [] Q) X [some (.lst o (xs.map FM.D.int))]
  unfold tb_least_of
  simp! []
  exact hQ
/-- a machine's parts -/
structure MB2 (n : Nat) (T : List Str) (F : List Int) (S : List (List (List (Int × Int)))) (Z : List Int) : Prop where
  n8 : n ≤ 8
  t1 : T ≠ []
  f : F.length = n
  z : Z.length = n
  s : S.length = n
  fb : ∀ x ∈ F, -1 ≤ x ∧ x ≤ 99
  zb : ∀ x ∈ Z, -1 ≤ x ∧ x ≤ 99
  sl : ∀ r ∈ S, r.length = T.length
  sb : RowsB n S
  sr : ∀ r ∈ S, ∀ R ∈ r, R.length ≤ 8
theorem MB2.row {n : Nat} {T : List Str} {F Z : List Int} {S : List (List (List (Int × Int)))} (h : MB2 n T F S Z) {s : Nat} {z : Str} (hs : s < n) (hz : z ∈ T) :
    ∃ r, S[s]? = some r ∧ r[ixS T z]? = some (rowAt S s (ixS T z)) ∧ (rowAt S s (ixS T z)).length ≤ 8 := by
  have hl : s < S.length := by rw [h.s]; exact hs
  have e1 := List.getElem?_eq_getElem hl
  have m1 := List.getElem_mem hl
  have hl2 : ixS T z < S[s].length := by rw [h.sl _ m1]; exact (ixS_at hz).2.1
  have e2 := List.getElem?_eq_getElem hl2
  have e3 : rowAt S s (ixS T z) = S[s][ixS T z] := by unfold rowAt; rw [e1, Option.getD_some, e2]; rfl
  refine ⟨S[s], e1, by rw [e3, e2], ?_⟩
  rw [e3]
  exact h.sr _ m1 _ (List.getElem_mem hl2)
theorem wp_row_by {n : Nat} {T : List Str} {F Z : List Int} {S : List (List (List (Int × Int)))} (h : MB2 n T F S Z) {s : Nat} {z : Str} {Q : FM.D → List FM.D → Prop} {X : XP} (hs : s < n) (hz : z ∈ T) (hQ : Q (encR (rowAt S s (ixS T z))) []) :
    fs_row_by.wp [encM T F S Z, .int (s : Nat), .str z] Q X := by
  obtain ⟨r, h1, h2, _⟩ := h.row hs hz
  show tb_row_by (rtE [] Q) X [some (encM T F S Z), some (.int (s : Nat)), some (.str z)]
  unfold tb_row_by encM
  have e1 : atI (S.map encS) (s : Nat) = some (.tup (r.map encR)) := atI_map (f := encS) h1
  have e2 := atI_map (f := encR) h2
  simp! [ts_ne hz, e1, e2, stb_R, o_idxT hz]
  exact hQ
theorem stb_V (f : List Int) : stb (vecD f) = true := nr (by unfold vecD; rw [s_tup]; exact s_map fun _ => rfl)
def lsD (xs : List Int) : FM.D := .lst true (xs.map FM.D.int)
def gapD (n : Nat) (g : Nat → List Int) : FM.D := .lst true ((List.range n).map fun a => lsD (g a))
theorem map_const {α β : Type} {xs : List α} {y : β} : xs.map (fun _ => y) = (List.range xs.length).map fun _ => y := by
  rw [List.map_const', List.map_const', List.length_range]
theorem sumsTo_len {n : Nat} {T : List Str} {F Z : List Int} {S : List (List (List (Int × Int)))} (h : MB2 n T F S Z) {f : List Int} {z : Str} (hz : z ∈ T) {a : Nat} : ∀ {s : Nat}, s ≤ n → (sumsTo S f (ixS T z) a s).length ≤ 8 * s
  | 0, _ => Nat.le_refl _
  | s + 1, hs => by
    have h1 := sumsTo_len (f := f) (a := a) h hz (s := s) (by omega)
    obtain ⟨r, _, _, h2⟩ := h.row (s := s) (by omega) hz
    unfold sumsTo
    rw [List.length_append]
    split
    · simp only [List.length_nil]; omega
    · unfold toSt
      rw [List.length_map]
      have := List.length_filter_le (fun p => decide (p.1 = (a : Int))) (rowAt S s (ixS T z))
      omega
theorem stb_M {T : List Str} {F Z : List Int} {S : List (List (List (Int × Int)))} : stb (encM T F S Z) = true := nr (by
  unfold encM
  simp only [s_tup, s_cons, s_ts, s_nil, Bool.and_true, Bool.true_and, Bool.and_eq_true]
  exact ⟨s_map fun _ => rfl, s_map stb_S, s_map fun _ => rfl⟩)
theorem fz_M {T : List Str} {F Z : List Int} {S : List (List (List (Int × Int)))} : frz (encM T F S Z) = encM T F S Z := frz_stb _ stb_M
theorem fz_V {f : List Int} : frz (vecD f) = vecD f := frz_stb _ (stb_V f)
theorem sums_skip {S : List (List (List (Int × Int)))} {f : List Int} {l j : Nat} (h : f[j]? = some (-1)) : (fun k => sumsTo S f l k (j + 1)) = fun k => sumsTo S f l k j := by
  funext k
  rw [sumsTo, h, Option.getD_some, if_pos rfl, List.append_nil]
theorem sums_go {S : List (List (List (Int × Int)))} {f : List Int} {l j : Nat} {v : Int} (h : f[j]? = some v) (hv : v ≠ -1) : (fun k => sumsTo S f l k (j + 1)) = fun k => sumsTo S f l k j ++ toSt v (rowAt S j l) k := by
  funext k
  rw [sumsTo, h, Option.getD_some, if_neg hv]
theorem fz_g1 {n : Nat} {g : Nat → List Int} : frzL ((List.range n).map fun a => FM.D.lst true ((g a).map FM.D.int)) = (List.range n).map fun a => FM.D.lst false ((g a).map FM.D.int) := by
  rw [fz_mapL]
  congr 1
  funext a
  rw [fz_lst, fz_map fun _ => rfl]
theorem stb_ls {xs : List Int} : stb (FM.D.lst false (xs.map FM.D.int)) = true := nr (by rw [s_lf]; exact s_map fun _ => rfl)
theorem fz_g2 {n : Nat} {g : Nat → List Int} : frzL ((List.range n).map fun a => FM.D.lst false ((g a).map FM.D.int)) = (List.range n).map fun a => FM.D.lst false ((g a).map FM.D.int) := fz_map fun _ => stb_ls
theorem gap_put {n k : Nat} {g g2 : Nat → List Int} {x : Int} (hk : k < n) (h : ∀ a, g2 a = if a = k then g a ++ [x] else g a) :
    FM.D.lst true (((List.range n).map fun a => FM.D.lst true ((g a).map FM.D.int)).set k (FM.D.lst true ((g k).map FM.D.int ++ [FM.D.int x]))) = gapD n g2 := by
  unfold gapD lsD
  rw [set_range _ _ hk]
  congr 2
  funext a
  rw [h]
  split
  · rename_i e; rw [e, List.map_append]; rfl
  · rfl
theorem wp_after {n : Nat} {T : List Str} {F Z : List Int} {S : List (List (List (Int × Int)))} (h : MB2 n T F S Z) {f : List Int} {z : Str} {Q : FM.D → List FM.D → Prop} {X : XP} (hf : f.length = n) (hz : z ∈ T) (hQ : Q (vecD (stepV S (ixS T z) f)) []) :
    fs_fares_after.wp [encM T F S Z, vecD f, .str z] Q X := by
  show tb_fares_after (rtE [] Q) X [some (encM T F S Z), some (vecD f), some (.str z), none, none, none, none, none, none]
  have hn := h.n8
  unfold tb_fares_after vecD
  simp! []
  refine ⟨by omega, compI (comp_map (f := fun _ => FM.D.lst true []) f [] _ (fun x hx k hk => ?_) ?_)⟩
  · simp! []
    exact hk
  rw [List.nil_append, map_const, hf]
  simp! []
  refine forI (for_inv (fun j r => ∃ a b c d : Option FM.D, r = [some (encM T F S Z), some (.tup (f.map FM.D.int)), some (.str z), some (gapD n fun k => sumsTo S f (ixS T z) k j), a, b, c, d, none]) ⟨none, none, none, none, rfl⟩ ?_ ?_)
  · rintro j d r kk hd ⟨a, b, c, e, rfl⟩ hkk
    obtain ⟨x, hx, rfl⟩ := enum_at hd
    obtain ⟨v, hv, rfl⟩ := map_at hx
    have hj : j < n := by rw [← hf]; exact (List.getElem?_eq_some_iff.mp hv).1
    simp! [stb_M, fz_M]
    split
    · rename_i e1
      subst e1
      exact hkk _ ⟨some (.int (j : Nat)), some (.int (-1)), c, e, by rw [sums_skip hv]⟩
    · rename_i e1
      refine ⟨rfl, wpI (wp_row_by h hj hz ?_)⟩
      unfold encR
      simp! [stb_P, stb_M]
      obtain ⟨_, _, _, hR8⟩ := h.row hj hz
      have hRb := rowAt_mem h.sb (s := j) (l := ixS T z)
      refine forI (for_inv (fun m r => ∃ c d : Option FM.D, r = [some (encM T F S Z), some (.tup (f.map FM.D.int)), some (.str z), some (gapD n fun k => sumsTo S f (ixS T z) k j ++ toSt v ((rowAt S j (ixS T z)).take m) k), some (.int (j : Nat)), some (.int v), c, d, none]) ⟨c, e, ?_⟩ ?_ ?_)
      · rw [List.take_zero]
        simp only [toSt, List.filter_nil, List.map_nil, List.append_nil]
      · rintro m d r kk2 hd2 ⟨c, e, rfl⟩ hkk2
        obtain ⟨p, hp, rfl⟩ := map_at hd2
        obtain ⟨p1, p2, p3, p4⟩ := hRb p (List.mem_of_getElem? hp)
        have hm := (List.getElem?_eq_some_iff.mp hp).1
        have hk0 : p.1.toNat < n := by omega
        have ea : ∀ g : Nat → List Int, ((List.range n).map fun a => FM.D.lst true ((g a).map FM.D.int))[p.1.toNat]? = some (.lst true ((g p.1.toNat).map FM.D.int)) := fun g => by rw [List.getElem?_map, List.getElem?_range hk0]; rfl
        have ei : ixN n p.1 = some p.1.toNat := ixN_in p1 (by omega)
        have hs8 := sumsTo_len (f := f) (a := p.1.toNat) h hz (s := j) (by omega)
        have ht8 : (toSt v ((rowAt S j (ixS T z)).take m) p.1.toNat).length ≤ 8 := by
          unfold toSt
          rw [List.length_map]
          refine Nat.le_trans (List.length_filter_le _ _) ?_
          rw [List.length_take]; omega
        unfold gapD lsD encP
        simp! [List.length_range, ei, ea]
        have eg := gap_put (g := fun k => sumsTo S f (ixS T z) k j ++ toSt v ((rowAt S j (ixS T z)).take m) k) (g2 := fun k => sumsTo S f (ixS T z) k j ++ toSt v ((rowAt S j (ixS T z)).take (m + 1)) k) (x := v + p.2) hk0 (fun a => by
          rw [List.take_add_one, hp, Option.toList_some, toSt_snoc]
          by_cases ha : a = p.1.toNat
          · rw [if_pos ha, if_pos (by omega), List.append_assoc]
          · rw [if_neg ha, if_neg (by omega)])
        exact ⟨by simp only [List.length_append]; omega, hkk2 _ ⟨some (.int p.1), some (.int p.2), by rw [← eg]⟩⟩
      · rintro r ⟨c, e, rfl⟩
        rw [List.length_map, List.take_length]
        exact hkk _ ⟨_, _, _, _, by rw [sums_go hv e1]⟩
  · rintro r ⟨a, b, c, e, rfl⟩
    rw [enum_len, List.length_map, hf]
    unfold gapD lsD
    simp! [fz_g1, fz_g2]
    refine ⟨by rw [List.length_range]; omega, compI (comp_map (enc := fun a => FM.D.lst false ((sumsTo S f (ixS T z) a n).map FM.D.int)) (f := fun a => FM.D.int (low (sumsTo S f (ixS T z) a n))) (List.range n) [] _ (fun x hx k hk => ?_) ?_)⟩
    · simp! [stb_ls]
      refine ⟨rfl, wpI (wp_least ?_)⟩
      simp! []
      exact hk
    · have e1 : (List.range n).map (fun a => FM.D.int (low (sumsTo S f (ixS T z) a n))) = (stepV S (ixS T z) f).map FM.D.int := by
        unfold stepV
        rw [List.map_map, hf]; rfl
      rw [List.nil_append, e1]
      simp! [o_tupI]
      exact hQ
end K16


set_option Elab.async false
set_option linter.all false
set_option maxRecDepth 100000
namespace K16
open PySem PySem.Spec PyProof.Rows L2 FM
local macro_rules | `(tactic| simp! [$ts,*]) => `(tactic| simp only [↓nx_mk, ↓rt_mk, ↓bk_mk, ↓ct_mk, ↓rt_E, ↓nx_E, slots_0, slots_c, consO_s, ↓T_got, ↓T_wp, ↓T_for, ↓T_comp, got_sT, got_nT, got_ifT, gm_s, o_addT, o_addLs, o_addSt, o_mulI2, o_repT, o_slT2, o_slL2, o_slS2, o_slC2, o_tupL, o_tupT, o_lstL, o_lstT, o_abs2, o_min2, o_ixS2, cut_to, cut_from, cut_neg, cut_last, stbL_take, stbL_drop, stbL_dl, stbL_rev, stbL_set, n_cast, ↓dRevT_e, ↓dRevL_e, ↓dRevU_e, ↓e_orE, Bool.and_eq_true, Int.reduceLT, Int.reduceLE,  ↓e_seq, ↓e_next, ↓e_brk, ↓e_cnt, ↓e_drop, ↓e_ret, ↓e_retN, ↓e_ifS, ↓e_raise, ↓e_nameN, ↓e_gtup, ↓e_gnil, ↓e_gcons, as_tup, ↓e_asg, ↓e_augN, ↓e_setIxN, ↓e_for, ↓e_var, ↓e_varB, ↓e_varUN, ↓e_movN, ↓e_c, ↓e_op, ↓e_opS, ↓e_ix, ↓e_ixB, ↓e_ixS, ↓e_pick, ↓e_nil, ↓e_cons, ↓e_tup, ↓e_lst, ↓e_cl, ↓e_appN, ↓e_knil, ↓e_kc, ↓e_kb, ↓e_km, ↓e_callM, ↓e_tE, ↓e_tTru, ↓e_tAnd, ↓e_tOr, ↓e_tNot, ↓e_and, ↓e_or, ↓e_not, ↓e_chain, ↓e_if, ↓e_neg, ↓e_sl, ↓e_so, ↓e_son, ↓e_rng1, ↓e_rng2, ↓e_compN, o_addI, o_subI, o_ltI, o_leI, o_gtI, o_geI, o_eqI, o_neI, o_eqS, o_neS, o_int, o_intB, o_lenT, o_lenL, o_asI, o_asB, o_own, o_ixT, o_ixL, atI_0, atI_1, atI_2, atI_3, slot_0, slot_s, e_argc, e_argb, e_argm, e_args0, e_argsC, Option.map_some, e_ms0, e_msc, e_msb, e_msm, e_bu0, e_buc, e_bum, e_bub, e_buM, e_put0, e_put1, e_frzI, e_frzS, e_frzB, e_stbI, e_stbS, e_stbB, s_tup, s_lf, s_lt, s_nil, s_cons, s_app, s_map, s_non, s_cls, s_scr, fz_scr, fz_cls, fz_tup, fz_lst, fz_nil, fz_cons, fz_map, fz_non, nf_map, nf_tup, nf_lt, nf_int, nf_str, nf_bl, nf_non, nf_nil, nf_cons, small_iff, o_truB, ↓it_tup, ↓it_lst, ↓it_str, ↓it_or, hid_0, hid_c, hid_n, hid_s, wipe_0, wipe_c, back_0, back_c, ↓t_yes, List.all_cons, List.all_nil, List.cons_append, List.nil_append, List.length_cons, List.length_nil, List.length_map, set_0, set_s, ap_d, len_0, len_s, List.nodup_nil, Bool.and_true, Bool.true_and, Bool.and_self, Bool.not_true, Bool.not_false, Bool.false_eq_true, if_true, if_false, decide_true, decide_false, decide_eq_true_eq, true_and, and_true, and_false, false_and, or_false, false_or, true_or, Nat.reduceAdd, Nat.reduceLT, Nat.reduceLeDiff, Nat.reduceEqDiff, Nat.zero_add, List.nodup_cons, List.not_mem_nil, not_false_eq_true, or_true, or_self, implies_true, ↓e_wk, ↓e_dfrz, wk_int, wk_str, wk_bl, wk_non, wk_tup, wk_lst, wk_txs, wk_rng, wk_cls, wk_scr, wk_ts, s_txs, s_rng, s_ts, fz_txs, fz_rng, fz_ts, ↓it_any, it_ts, ↓it_enum, ↓it_zip, sk_tup, sk_lst, ↓e_mt, p_tx1, p_tx2, p_tx3, p_ls1, p_ls2, p_ls3, ↓e_ext, o_lstO, ↓e_appIx, o_minD, ↓e_callX, o_nm, o_rg1, and_self, Int.reduceAdd, Int.reduceNeg, $ts,*])
theorem at_last {α : Type} {xs : List α} {x : α} : atI (xs ++ [x]) (-1) = some x := by
  unfold atI ixN
  have : (xs ++ [x]).length = xs.length + 1 := by simp
  rw [this, if_neg (by omega), if_pos (by omega)]
  show (xs ++ [x])[((-1 : Int) + ((xs.length + 1 : Nat) : Int)).toNat]? = _
  have e : ((-1 : Int) + ((xs.length + 1 : Nat) : Int)).toNat = xs.length := by omega
  rw [e, List.getElem?_append_right (Nat.le_refl _), Nat.sub_self]; rfl
/-- all rows, from the first on -/
def rowsB (S : List (List (List (Int × Int)))) (ls : List Nat) (f : List Int) (j : Nat) : List (List Int) := (List.range j).map fun i => runV S (ls.take i) f
theorem rowsB_succ {S : List (List (List (Int × Int)))} {ls : List Nat} {f : List Int} {j : Nat} : rowsB S ls f (j + 1) = rowsB S ls f j ++ [runV S (ls.take j) f] := by
  unfold rowsB
  rw [List.range_succ, List.map_append]; rfl
theorem run_take {S : List (List (List (Int × Int)))} {ls : List Nat} {f : List Int} {j l : Nat} (h : ls[j]? = some l) : runV S (ls.take (j + 1)) f = stepV S l (runV S (ls.take j) f) := by
  rw [List.take_add_one, h, Option.toList_some, runV_app]; rfl
theorem runV_len {S : List (List (List (Int × Int)))} : ∀ {ls : List Nat} {f : List Int}, (runV S ls f).length = f.length
  | [], f => rfl
  | l :: ls, f => by rw [runV_cons, runV_len, stepV_len]
theorem nf_V (f : List Int) : nofl (vecD f) = true := nr (by unfold vecD; rw [nf_tup]; exact nf_map fun _ => rfl)
theorem wp_rows_behind {n : Nat} {T : List Str} {F Z : List Int} {S : List (List (List (Int × Int)))} (h : MB2 n T F S Z) {f : List Int} {W : List Str} {Q : FM.D → List FM.D → Prop} {X : XP} (hf : f.length = n) (hW : ∀ z ∈ W, z ∈ T) (hl : W.length < 16777000)
    (hQ : Q (.lst true ((rowsB S (W.map (ixS T)) f (W.length + 1)).map vecD)) []) : fs_rows_behind.wp [encM T F S Z, vecD f, tsD W] Q X := by
  show tb_rows_behind (rtE [] Q) X [some (encM T F S Z), some (vecD f), some (tsD W), none, none]
  unfold tb_rows_behind
  simp! [stb_V, fz_V]
  refine forI (for_inv (fun j r => ∃ a : Option FM.D, r = [some (encM T F S Z), some (vecD f), some (tsD W), some (.lst true ((rowsB S (W.map (ixS T)) f (j + 1)).map vecD)), a]) ⟨none, rfl⟩ ?_ ?_)
  · rintro j d r kk hd ⟨a, rfl⟩ hkk
    obtain ⟨z, hz, rfl⟩ := map_at hd
    have hzT := hW z (List.mem_of_getElem? hz)
    have e1 : atI ((rowsB S (W.map (ixS T)) f (j + 1)).map vecD) (-1) = some (vecD (runV S ((W.map (ixS T)).take j) f)) := by
      rw [rowsB_succ, List.map_append]; exact at_last
    have e2 : (rowsB S (W.map (ixS T)) f (j + 1)).length = j + 1 := by unfold rowsB; rw [List.length_map, List.length_range]
    have hj := (List.getElem?_eq_some_iff.mp hz).1
    simp! [stb_M, stb_V, fz_V, fz_M, e1]
    refine ⟨rfl, wpI (wp_after h (by rw [runV_len, hf]) hzT ?_)⟩
    simp! [stb_M, stb_V, nf_V, e2]
    refine ⟨by omega, hkk _ ⟨some (.str z), ?_⟩⟩
    rw [rowsB_succ (j := j + 1), List.map_append, run_take (l := ixS T z) (by rw [List.getElem?_map, hz]; rfl)]; rfl
  · rintro r ⟨a, rfl⟩
    rw [List.length_map]
    simp! []
    exact hQ
/-- two rows, the least sum -/
theorem wp_least_sum {f z : List Int} {Q : FM.D → List FM.D → Prop} {X : XP} (hl : f.length ≤ 16777216) (hQ : Q (.int (endV f z)) []) : fs_least_sum.wp [vecD f, vecD z] Q X := by
  show tb_least_sum (rtE [] Q) X [some (vecD f), some (vecD z), none, none]
  unfold tb_least_sum vecD
  simp! []
  refine ⟨by rw [zip_len, List.length_map, List.length_map]; omega, compI (comp_inv (fun j r acc => acc = (sums2 (f.take j) (z.take j)).map FM.D.int ∧ r = [some (.tup (f.map FM.D.int)), some (.tup (z.map FM.D.int)), none, none]) _ 0 _ _ _ ⟨rfl, rfl⟩ ?_ ?_)⟩
  · rintro j d r acc k hd ⟨rfl, rfl⟩ hk
    rw [Nat.zero_add] at hk ⊢
    obtain ⟨_, _, h1, h2, rfl⟩ := zip_at hd
    obtain ⟨x, hx, rfl⟩ := map_at h1
    obtain ⟨y, hy, rfl⟩ := map_at h2
    have e := sums2_snoc hx hy
    simp! [o_niI, ne_eq]
    split
    · rename_i e1
      rw [if_neg (fun q => q.elim e1.1 e1.2)] at e
      refine hk _ _ ⟨?_, rfl⟩
      rw [e, List.map_append]; rfl
    · rename_i e1
      rw [if_pos (by omega), List.append_nil] at e
      exact hk _ _ ⟨by rw [e], rfl⟩
  · rintro r acc ⟨rfl, rfl⟩
    rw [Nat.zero_add, zip_len, List.length_map, List.length_map, sums2_take]
    simp! []
    exact ⟨rfl, wpI (wp_least (by simp! []; exact hQ))⟩
theorem rng0_at {b : Int} {j : Nat} {d : FM.D} (h : (rngD 0 b)[j]? = some d) : d = .int (j : Nat) ∧ (j : Int) < b := by
  obtain ⟨h1, h2⟩ := rngD_at h
  exact ⟨by rw [h1, Int.zero_add], by omega⟩
theorem rng_n {n : Nat} : (rngD 0 (n : Int)).length = n := by rw [rngD_len]; omega
def bigO (xs : List Int) : Int := (minO xs).getD 1000000000
theorem wp_lrow {n : Nat} {T : List Str} {F Z : List Int} {S : List (List (List (Int × Int)))} (h : MB2 n T F S Z) {f : List Int} {b : Int} {z : Str} {Q : FM.D → List FM.D → Prop} {X : XP} (hf : IsV n b f) (hb : -1 ≤ b) (hb2 : b < 100000) (hz : z ∈ T) (hQ : Q (vecD (stepV S (ixS T z) f)) []) :
    fs_law_row.wp [encM T F S Z, vecD f, .str z] Q X := by
  show tb_law_row (rtE [] Q) X [some (encM T F S Z), some (vecD f), some (.str z), none, none, none, none, none, none, none, none, none, none, none, none]
  have hn := h.n8
  unfold tb_law_row encM vecD
  simp! [o_idxT hz, ts_ne hz, stb_S]
  have hs := h.s
  refine ⟨⟨by omega, by omega⟩, forI (for_inv (fun j r => ∃ a b c : Option FM.D, r = [some (.tup [.txs T, .tup (F.map FM.D.int), .tup (S.map encS), .tup (Z.map FM.D.int)]), some (.tup (f.map FM.D.int)), some (.str z), some (.txs T), some (.tup (F.map FM.D.int)),
        some (.tup (S.map encS)), some (.tup (Z.map FM.D.int)), some (.int (ixS T z : Nat)), some (.lst true (((List.range j).map fun a => bigO (sumsTo S f (ixS T z) a n)).map FM.D.int)), a, b, c, none, none, none]) ⟨none, none, none, rfl⟩ ?_ ?_)⟩
  · rintro j d r kk hd ⟨a, b, c, rfl⟩ hkk
    obtain ⟨rfl, hj⟩ := rng0_at hd
    rw [hs] at hj
    simp! []
    refine ⟨⟨by omega, by omega⟩, forI (for_inv (fun m r => ∃ c : Option FM.D, r = [some (.tup [.txs T, .tup (F.map FM.D.int), .tup (S.map encS), .tup (Z.map FM.D.int)]), some (.tup (f.map FM.D.int)), some (.str z), some (.txs T), some (.tup (F.map FM.D.int)),
        some (.tup (S.map encS)), some (.tup (Z.map FM.D.int)), some (.int (ixS T z : Nat)), some (.lst true (((List.range j).map fun a => bigO (sumsTo S f (ixS T z) a n)).map FM.D.int)), some (.int (j : Nat)), some (.lst true ((sumsTo S f (ixS T z) j m).map FM.D.int)), c, none, none, none]) ⟨c, rfl⟩ ?_ ?_)⟩
    · rintro m d r kk2 hd2 ⟨c, rfl⟩ hkk2
      obtain ⟨rfl, hm⟩ := rng0_at hd2
      rw [hs] at hm
      obtain ⟨R, r1, r2, r3⟩ := h.row (s := m) (by omega) hz
      obtain ⟨v, hv, v1, v2⟩ := hf.at (s := m) (by omega)
      have e1 : atI (S.map encS) (m : Nat) = some (.tup (R.map encR)) := atI_map (f := encS) r1
      have e2 : atI (R.map encR) (ixS T z : Nat) = some (.tup ((rowAt S m (ixS T z)).map encP)) := atI_map (f := encR) r2
      have e3 : atI (f.map FM.D.int) (m : Nat) = some (.int v) := atI_map (f := FM.D.int) hv
      simp! [e1, e2, e3, stb_P]
      refine ⟨by omega, compI (comp_filt (enc := encP) (f := fun p => FM.D.int (v + p.2)) (p := fun p => decide (p.1 = (j : Int) ∧ 0 ≤ v)) (rowAt S m (ixS T z)) [] _ (fun p hp k k2 hk hk2 => ?_) ?_)⟩
      · unfold encP
        simp! [e3, ge_iff_le]
        split
        · rename_i q1
          split
          · rename_i q2
            exact hk (decide_eq_true ⟨q1, q2⟩)
          · rename_i q2
            exact hk2 (decide_eq_false fun w => q2 w.2)
        · rename_i q1
          exact hk2 (decide_eq_false fun w => q1 w.1)
      · have eq : ((rowAt S m (ixS T z)).filter fun p => decide (p.1 = (j : Int) ∧ 0 ≤ v)).map (fun p => FM.D.int (v + p.2)) = (if (f[m]?).getD (-1) = -1 then [] else toSt ((f[m]?).getD (-1)) (rowAt S m (ixS T z)) j).map FM.D.int := by
          rw [hv, Option.getD_some]
          split
          · rename_i q
            rw [List.filter_eq_nil_iff.mpr (fun p hp => by rw [q]; simp)]; rfl
          · rename_i q
            unfold toSt
            rw [List.map_map]
            congr 1
            refine List.filter_congr fun p hp => ?_
            have : 0 ≤ v := by omega
            simp [this]
        have hl8 := sumsTo_len (f := f) (a := j) h hz (s := m + 1) (by omega)
        rw [sumsTo, List.length_append] at hl8
        rw [eq]
        simp! []
        refine ⟨by omega, hkk2 _ ⟨some (.int (m : Nat)), ?_⟩⟩
        rw [sumsTo, List.map_append]
    · rintro r ⟨c, rfl⟩
      rw [rng_n, hs]
      have hm := sumsTo_mem h.sb hf (l := ixS T z) (a := j) (Nat.le_refl n)
      have hl8 := sumsTo_len (f := f) (a := j) h hz (Nat.le_refl n)
      simp! [o_pow9, map_snoc, o_minL, min_big (fun y hy => show y < 1000000000 by have := hm y hy; omega)]
      refine ⟨by omega, by rw [List.length_range]; omega, hkk _ ⟨some (.int (j : Nat)), some (.lst true ((sumsTo S f (ixS T z) j n).map FM.D.int)), c, ?_⟩⟩
      rw [List.range_succ, List.map_append (l₁ := List.range j)]; rfl
  · rintro r ⟨a, b, c, rfl⟩
    rw [rng_n, hs]
    simp! []
    refine ⟨by rw [List.length_range]; omega, compI (comp_map (f := fun x => FM.D.int (if x = 1000000000 then -1 else x)) ((List.range n).map fun a => bigO (sumsTo S f (ixS T z) a n)) [] _ (fun x hx k hk => ?_) ?_)⟩
    · simp! [o_pow9]
      split
      · rename_i q
        rw [if_pos q] at hk
        simp! []
        exact hk
      · rename_i q
        rw [if_neg q] at hk
        simp! []
        exact hk
    · have eq : ((List.range n).map fun a => bigO (sumsTo S f (ixS T z) a n)).map (fun x => FM.D.int (if x = 1000000000 then -1 else x)) = (stepV S (ixS T z) f).map FM.D.int := by
        unfold stepV
        rw [List.map_map, List.map_map, hf.1]
        refine List.map_congr_left fun a ha => ?_
        have hm := sumsTo_mem h.sb hf (l := ixS T z) (a := a) (Nat.le_refl n)
        show FM.D.int (if bigO (sumsTo S f (ixS T z) a n) = 1000000000 then -1 else bigO (sumsTo S f (ixS T z) a n)) = .int (low (sumsTo S f (ixS T z) a n))
        unfold bigO low
        cases e : minO (sumsTo S f (ixS T z) a n) with
        | none => rfl
        | some k =>
          have := hm k (minO_some e).1
          simp only [Option.getD_some]
          rw [if_neg (by omega)]
      rw [List.nil_append, eq]
      simp! [o_tupI]
      exact hQ
theorem IsV.mono {n : Nat} {b c : Int} {f : List Int} (h : IsV n b f) (hb : b ≤ c) : IsV n c f := ⟨h.1, fun x hx => ⟨(h.2 x hx).1, Int.le_trans (h.2 x hx).2 hb⟩⟩
theorem MB2.first {n : Nat} {T : List Str} {F Z : List Int} {S : List (List (List (Int × Int)))} (h : MB2 n T F S Z) : IsV n 99 F := ⟨h.f, h.fb⟩
theorem wp_lbehind {n : Nat} {T : List Str} {F Z : List Int} {S : List (List (List (Int × Int)))} (h : MB2 n T F S Z) {W : List Str} {Q : FM.D → List FM.D → Prop} {X : XP} (hW : ∀ z ∈ W, z ∈ T) (hl : W.length ≤ 800) (hQ : Q (vecD (runV S (W.map (ixS T)) F)) []) :
    fs_law_behind.wp [encM T F S Z, tsD W] Q X := by
  show tb_law_behind (rtE [] Q) X [some (encM T F S Z), some (tsD W), none, none]
  have e0 : encM T F S Z = .tup [tsD T, vecD F, .tup (S.map encS), vecD Z] := rfl
  have e1 : FM.ixD (encM T F S Z) (.int 1) = some (vecD F) := rfl
  have e2 : wk (encM T F S Z) = encM T F S Z := rfl
  unfold tb_law_behind
  simp! [e1, e2, stb_V]
  refine forI (for_inv (fun j r => ∃ a : Option FM.D, r = [some (encM T F S Z), some (tsD W), some (vecD (runV S ((W.map (ixS T)).take j) F)), a]) ⟨none, rfl⟩ ?_ ?_)
  · rintro j d r kk hd ⟨a, rfl⟩ hkk
    obtain ⟨z, hz, rfl⟩ := map_at hd
    have hzT := hW z (List.mem_of_getElem? hz)
    have hj := (List.getElem?_eq_some_iff.mp hz).1
    have hv := runV_is h.sb (ls := (W.map (ixS T)).take j) h.first (by decide)
    have hlj : ((W.map (ixS T)).take j).length ≤ 800 := by rw [List.length_take, List.length_map]; omega
    simp! [stb_M, stb_V, fz_V, fz_M]
    refine ⟨rfl, wpI (wp_lrow h hv (by omega) (by omega) hzT ?_)⟩
    simp! [stb_M, stb_V, nf_V]
    refine hkk _ ⟨some (.str z), ?_⟩
    rw [run_take (l := ixS T z) (by rw [List.getElem?_map, hz]; rfl)]
  · rintro r ⟨a, rfl⟩
    have e3 : (W.map (ixS T)).take W.length = W.map (ixS T) := List.take_of_length_le (by rw [List.length_map]; exact Nat.le_refl _)
    rw [List.length_map, e3]
    simp! [stb_V]
    exact hQ
theorem sums2_len : ∀ f z : List Int, (sums2 f z).length ≤ f.length
  | [], _ => Nat.le_refl _
  | _ :: _, [] => Nat.zero_le _
  | x :: xs, y :: ys => by
    have := sums2_len xs ys
    unfold sums2
    rw [List.length_append, List.length_cons]
    split
    · simp only [List.length_nil]; omega
    · simp only [List.length_cons, List.length_nil]; omega
theorem wp_lended {n : Nat} {T : List Str} {F Z : List Int} {S : List (List (List (Int × Int)))} (h : MB2 n T F S Z) {f : List Int} {b : Int} {Q : FM.D → List FM.D → Prop} {X : XP} (hf : IsV n b f) (hb : b ≤ 100000) (hQ : Q (.int (endV f Z)) []) :
    fs_law_ended.wp [encM T F S Z, vecD f] Q X := by
  show tb_law_ended (rtE [] Q) X [some (encM T F S Z), some (vecD f), none, none]
  have e1 : FM.ixD (encM T F S Z) (.int 3) = some (.tup (Z.map FM.D.int)) := rfl
  have e2 : wk (encM T F S Z) = encM T F S Z := rfl
  have hn := h.n8
  have hfl := hf.1
  unfold tb_law_ended vecD
  simp! []
  refine ⟨⟨by omega, by omega⟩, by rw [rng_n]; omega, compI (comp_inv (fun j r acc => acc = (sums2 (f.take j) (Z.take j)).map FM.D.int ∧ r = [some (encM T F S Z), some (.tup (f.map FM.D.int)), none, none]) _ 0 _ _ _ ⟨rfl, rfl⟩ ?_ ?_)⟩
  · rintro j d r acc k hd ⟨rfl, rfl⟩ hk
    rw [Nat.zero_add] at hk ⊢
    obtain ⟨rfl, hj⟩ := rng0_at hd
    obtain ⟨v, hv, v1, v2⟩ := hf.at (s := j) (by omega)
    have hzl : j < Z.length := by rw [h.z]; omega
    have hz := List.getElem?_eq_getElem hzl
    have hz1 := h.zb _ (List.getElem_mem hzl)
    have e3 : atI (f.map FM.D.int) (j : Nat) = some (.int v) := atI_map (f := FM.D.int) hv
    have e4 : atI (Z.map FM.D.int) (j : Nat) = some (.int Z[j]) := atI_map (f := FM.D.int) hz
    have e := sums2_snoc hv hz
    simp! [e1, e2, e3, e4, ge_iff_le]
    split
    · split
      · rw [if_neg (by omega)] at e
        refine hk _ _ ⟨?_, rfl⟩
        rw [e, List.map_append]; rfl
      · rw [if_pos (by omega), List.append_nil] at e
        exact hk _ _ ⟨by rw [e], rfl⟩
    · rw [if_pos (by omega), List.append_nil] at e
      exact hk _ _ ⟨by rw [e], rfl⟩
  · rintro r acc ⟨rfl, rfl⟩
    rw [Nat.zero_add, rng_n]
    have e5 : sums2 (f.take f.length) (Z.take f.length) = sums2 f Z := by
      rw [List.take_of_length_le (Nat.le_refl _), List.take_of_length_le (by rw [h.z, hfl]; exact Nat.le_refl _)]
    rw [e5]
    have hsm : ∀ y ∈ sums2 f Z, y < 1000000000 := fun y hy => by
      obtain ⟨k, x, w, h1, h2, _, _, rfl⟩ := sums2_mem.mp hy
      have := hf.2 x (List.mem_of_getElem? h1)
      have := h.zb w (List.mem_of_getElem? h2)
      omega
    have hll := sums2_len f Z
    simp! [o_pow9, map_snoc, o_minL, min_big hsm]
    refine ⟨by omega, ?_⟩
    have en : (sums2 f Z).length ≤ 16777216 := by omega
    unfold endV low at hQ
    cases e : sums2 f Z with
    | nil =>
      rw [e] at hQ
      simp! [gt_iff_lt]
      exact hQ
    | cons x xs =>
      have e6 : minO (sums2 f Z) = some (minL x xs) := by rw [e]; rfl
      rw [e6] at hQ
      rw [e] at e6
      have e7 : (0 : Int) < ((xs.length + 1 : Nat) : Int) := by omega
      simp! [gt_iff_lt, e6, e7, Option.getD_some]
      exact hQ
theorem wp_lfare {n : Nat} {T : List Str} {F Z : List Int} {S : List (List (List (Int × Int)))} (h : MB2 n T F S Z) {W : List Str} {Q : FM.D → List FM.D → Prop} {X : XP} (hW : ∀ z ∈ W, z ∈ T) (hl : W.length ≤ 800) (hQ : Q (.int (endV (runV S (W.map (ixS T)) F) Z)) []) :
    fs_law_fare_of.wp [encM T F S Z, tsD W] Q X := by
  show tb_law_fare_of (rtE [] Q) X [some (encM T F S Z), some (tsD W)]
  unfold tb_law_fare_of
  simp! [stb_M, fz_M]
  refine ⟨rfl, wpI (wp_lbehind h hW hl ?_)⟩
  have hv := runV_is h.sb (ls := W.map (ixS T)) h.first (by decide)
  have hlj : (W.map (ixS T)).length ≤ 800 := by rw [List.length_map]; omega
  simp! [stb_M, fz_M, stb_V, fz_V, nf_V]
  refine ⟨rfl, wpI (wp_lended h hv (by omega) ?_)⟩
  simp! [stb_M]
  exact hQ
end K16


set_option Elab.async false
set_option linter.all false
set_option maxRecDepth 100000
namespace K16
open PySem PySem.Spec PyProof.Rows L2 FM
local macro_rules | `(tactic| simp! [$ts,*]) => `(tactic| simp only [↓nx_mk, ↓rt_mk, ↓bk_mk, ↓ct_mk, ↓rt_E, ↓nx_E, slots_0, slots_c, consO_s, ↓T_got, ↓T_wp, ↓T_for, ↓T_comp, got_sT, got_nT, got_ifT, gm_s, o_addT, o_addLs, o_addSt, o_mulI2, o_repT, o_slT2, o_slL2, o_slS2, o_slC2, o_tupL, o_tupT, o_lstL, o_lstT, o_abs2, o_min2, o_ixS2, cut_to, cut_from, cut_neg, cut_last, stbL_take, stbL_drop, stbL_dl, stbL_rev, stbL_set, n_cast, ↓dRevT_e, ↓dRevL_e, ↓dRevU_e, ↓e_orE, Bool.and_eq_true, Int.reduceLT, Int.reduceLE,  ↓e_seq, ↓e_next, ↓e_brk, ↓e_cnt, ↓e_drop, ↓e_ret, ↓e_retN, ↓e_ifS, ↓e_raise, ↓e_nameN, ↓e_gtup, ↓e_gnil, ↓e_gcons, as_tup, ↓e_asg, ↓e_augN, ↓e_setIxN, ↓e_for, ↓e_var, ↓e_varB, ↓e_varUN, ↓e_movN, ↓e_c, ↓e_op, ↓e_opS, ↓e_ix, ↓e_ixB, ↓e_ixS, ↓e_pick, ↓e_nil, ↓e_cons, ↓e_tup, ↓e_lst, ↓e_cl, ↓e_appN, ↓e_knil, ↓e_kc, ↓e_kb, ↓e_km, ↓e_callM, ↓e_tE, ↓e_tTru, ↓e_tAnd, ↓e_tOr, ↓e_tNot, ↓e_and, ↓e_or, ↓e_not, ↓e_chain, ↓e_if, ↓e_neg, ↓e_sl, ↓e_so, ↓e_son, ↓e_rng1, ↓e_rng2, ↓e_compN, o_addI, o_subI, o_ltI, o_leI, o_gtI, o_geI, o_eqI, o_neI, o_eqS, o_neS, o_int, o_intB, o_lenT, o_lenL, o_asI, o_asB, o_own, o_ixT, o_ixL, atI_0, atI_1, atI_2, atI_3, slot_0, slot_s, e_argc, e_argb, e_argm, e_args0, e_argsC, Option.map_some, e_ms0, e_msc, e_msb, e_msm, e_bu0, e_buc, e_bum, e_bub, e_buM, e_put0, e_put1, e_frzI, e_frzS, e_frzB, e_stbI, e_stbS, e_stbB, s_tup, s_lf, s_lt, s_nil, s_cons, s_app, s_map, s_non, s_cls, s_scr, fz_scr, fz_cls, fz_tup, fz_lst, fz_nil, fz_cons, fz_map, fz_non, nf_map, nf_tup, nf_lt, nf_int, nf_str, nf_bl, nf_non, nf_nil, nf_cons, small_iff, o_truB, ↓it_tup, ↓it_lst, ↓it_str, ↓it_or, hid_0, hid_c, hid_n, hid_s, wipe_0, wipe_c, back_0, back_c, ↓t_yes, List.all_cons, List.all_nil, List.cons_append, List.nil_append, List.length_cons, List.length_nil, List.length_map, set_0, set_s, ap_d, len_0, len_s, List.nodup_nil, Bool.and_true, Bool.true_and, Bool.and_self, Bool.not_true, Bool.not_false, Bool.false_eq_true, if_true, if_false, decide_true, decide_false, decide_eq_true_eq, true_and, and_true, and_false, false_and, or_false, false_or, true_or, Nat.reduceAdd, Nat.reduceLT, Nat.reduceLeDiff, Nat.reduceEqDiff, Nat.zero_add, List.nodup_cons, List.not_mem_nil, not_false_eq_true, or_true, or_self, implies_true, ↓e_wk, ↓e_dfrz, wk_int, wk_str, wk_bl, wk_non, wk_tup, wk_lst, wk_txs, wk_rng, wk_cls, wk_scr, wk_ts, s_txs, s_rng, s_ts, fz_txs, fz_rng, fz_ts, ↓it_any, it_ts, ↓it_enum, ↓it_zip, sk_tup, sk_lst, ↓e_mt, p_tx1, p_tx2, p_tx3, p_ls1, p_ls2, p_ls3, ↓e_ext, o_lstO, ↓e_appIx, o_minD, ↓e_callX, o_nm, o_rg1, and_self, Int.reduceAdd, Int.reduceNeg, $ts,*])
def isLg (W : List Str) (lg : FM.D) : Prop := lg = tsD W ∨ lg = .tup (W.map FM.D.str)
theorem o_allB {o : Bool} {bs : List Bool} : gAll [.lst o (bs.map FM.D.bl)] = some (.bl (bs.all id)) := by
  have e : ∀ bs : List Bool, blsOf (bs.map FM.D.bl) = some bs := fun bs => by
    induction bs with
    | nil => rfl
    | cons b bs ih => rw [List.map_cons]; simp only [blsOf, ih, Option.map_some]
  unfold gAll
  simp only [e, Option.map_some]
theorem cp_in {T W : List Str} {lg : FM.D} {Q : List FM.D → DEnv → Prop} (hQ : Q ((W.map fun z => T.any fun y => y == z).map FM.D.bl) [some (tsD T), some lg, none]) : compW (dgName 2) dtYes (dOp uIn (dVarB 2) (dWk (dVarB 0))) [2] (W.map FM.D.str) [some (tsD T), some lg, none] [] Q := by
  refine comp_map (f := fun z => FM.D.bl (T.any fun y => y == z)) W [] _ (fun z hz k hk => ?_) (by rw [List.nil_append]; rw [List.map_map] at hQ; exact hQ)
  simp! [o_inT]
  exact hk
theorem all_id {W : List Str} {p : Str → Bool} : (W.map p).all id = W.all p := by rw [List.all_map]; rfl
theorem lg_two {W : List Str} {lg : FM.D} (h : isLg W lg) : lg = .txs W ∨ lg = .tup (W.map FM.D.str) := by
  rcases h with rfl | rfl
  · cases W with
    | nil => exact .inr rfl
    | cons => exact .inl rfl
  · exact .inr rfl
theorem wp_is_log {T W : List Str} {lg : FM.D} {Q : FM.D → List FM.D → Prop} {X : XP} (hW : W.length ≤ 16777216) (h : isLg W lg) (hQ : Q (.bl (decide (W.length ≤ 400) && W.all fun z => T.any fun y => y == z)) []) : fs_is_log.wp [tsD T, lg] Q X := by
  show tb_is_log (rtE [] Q) X [some (tsD T), some lg, none]
  have e5 : decide ((W.length : Int) ≤ 400) = decide (W.length ≤ 400) := by
    by_cases q : W.length ≤ 400
    · rw [decide_eq_true q, decide_eq_true (by omega)]
    · rw [decide_eq_false q, decide_eq_false (by omega)]
  rcases lg_two h with rfl | rfl
  · unfold tb_is_log
    simp! []
    split
    · rename_i q
      have q2 : W.length ≤ 400 := by omega
      refine ⟨hW, compI (cp_in ?_)⟩
      simp! [o_allB, all_id]
      rw [decide_eq_true q2, Bool.true_and] at hQ
      exact hQ
    · rename_i q
      rw [decide_eq_false (by omega), Bool.false_and] at hQ
      exact hQ
  · unfold tb_is_log
    simp! []
    split
    · rename_i q
      have q2 : W.length ≤ 400 := by omega
      refine ⟨hW, compI (cp_in ?_)⟩
      simp! [o_allB, all_id]
      rw [decide_eq_true q2, Bool.true_and] at hQ
      exact hQ
    · rename_i q
      rw [decide_eq_false (by omega), Bool.false_and] at hQ
      exact hQ
theorem lg_stb {W : List Str} {lg : FM.D} (h : isLg W lg) : stb lg = true := by
  rcases h with e | e
  · rw [e]; exact s_ts
  · rw [e, s_tup]; exact s_map fun _ => rfl
/-- which logs are right -/
def logOk (T W : List Str) : Bool := decide (W.length ≤ 400) && W.all fun z => T.any fun y => y == z
theorem wp_check {T W : List Str} {lg : FM.D} {Q : FM.D → List FM.D → Prop} {X : XP} (hW : W.length ≤ 16777216) (h : isLg W lg) (hQ : logOk T W = true → Q .non []) (hX : logOk T W = false → X ⟨"NotAllowed", []⟩) : fs_check_log.wp [tsD T, lg] Q X := by
  show tb_check_log (rtE [] Q) X [some (tsD T), some lg]
  have e2 := lg_stb h
  have e3 : frz lg = lg := frz_stb _ e2
  unfold tb_check_log
  simp! [e2, e3]
  refine ⟨rfl, wpI (wp_is_log hW h ?_)⟩
  show _ ∧ _
  simp! [e2, e3]
  show if (!logOk T W) = true then _ else _
  cases e : logOk T W with
  | true => exact hQ e
  | false => exact hX e
def chartD (n : Nat) (S : Mv) (ls : List Nat) : FM.D := .tup ((List.range n).map fun i => vecD (runV S ls (unitV n i)))
theorem is_V (f : List Int) : isStr (vecD f) = false := rfl
theorem o_tupV {α : Type} {o : Bool} {g : α → List Int} {xs : List α} : gTupU [.lst o (xs.map fun i => vecD (g i))] = some (.tup (xs.map fun i => vecD (g i))) := o_tupN (fun i => is_V (g i)) fun i => stb_V (g i)
theorem rng_map {n : Nat} : rngD 0 (n : Int) = (List.range n).map fun i => FM.D.int (i : Nat) := by
  unfold rngD
  rw [show ((n : Int) - 0).toNat = n by omega]
  refine List.map_congr_left fun i _ => ?_
  rw [Int.zero_add]
theorem wp_chart_of {n : Nat} {T : List Str} {F Z : List Int} {S : List (List (List (Int × Int)))} (h : MB2 n T F S Z) {W : List Str} {lg : FM.D} {Q : FM.D → List FM.D → Prop} {X : XP} (hW : W.length ≤ 16777216) (hl : isLg W lg) (hts : logOk T W = true → lg = tsD W) (hQ : logOk T W = true → Q (chartD n S (W.map (ixS T))) []) (hX : logOk T W = false → X ⟨"NotAllowed", []⟩) :
    fs_chart_of.wp [encM T F S Z, lg] Q X := by
  show tb_chart_of (rtE [] Q) X [some (encM T F S Z), some lg, none, none, none, none, none]
  have e2 := lg_stb hl
  have e3 : frz lg = lg := frz_stb _ e2
  have e0 : FM.ixD (encM T F S Z) (.int 0) = some (tsD T) := rfl
  have e1 : FM.ixD (encM T F S Z) (.int 1) = some (.tup (F.map FM.D.int)) := rfl
  have e4 : wk (encM T F S Z) = encM T F S Z := rfl
  have hn := h.n8
  have hf := h.f
  unfold tb_chart_of
  simp! [e0, e1, e2, e3, e4]
  refine ⟨rfl, wpI (wp_check hW hl (fun ok => ?_) hX)⟩
  have := hts ok; subst this
  simp! [e0, e1, e4, hf]
  rw [rng_map]
  refine ⟨⟨by decide, by decide⟩, ⟨by omega, by omega⟩, by rw [List.length_map, List.length_range]; omega, compI (comp_map (enc := fun i : Nat => FM.D.int (i : Nat)) (f := fun i => vecD (unitV n i)) (List.range n) [] _ (fun i hi k hk => ?_) ?_)⟩
  · simp! []
    rw [rng_map]
    refine ⟨⟨by decide, by decide⟩, ⟨by omega, by omega⟩, by rw [List.length_map, List.length_range]; omega, compI (comp_map (enc := fun i : Nat => FM.D.int (i : Nat)) (f := fun j => FM.D.int (if j = i then 0 else -1)) (List.range n) [] _ (fun j hj k2 hk2 => ?_) ?_)⟩
    · simp! []
      by_cases e : j = i
      · rw [if_pos e] at hk2
        rw [if_pos (by omega)]
        exact hk2
      · rw [if_neg e] at hk2
        rw [if_neg (by omega)]
        exact hk2
    · have e5 : (List.range n).map (fun j => FM.D.int (if j = i then 0 else -1)) = (unitV n i).map FM.D.int := by unfold unitV; rw [List.map_map]; rfl
      rw [List.nil_append, e5]
      simp! [o_tupI]
      exact hk
  · rw [List.nil_append]
    simp! [stb_V]
    have hl4 : W.length ≤ 400 := by
      unfold logOk at ok
      exact of_decide_eq_true (Bool.and_eq_true_iff.mp ok).1
    have hWT : ∀ z ∈ W, z ∈ T := fun z hz => by
      unfold logOk at ok
      have := List.all_eq_true.mp (Bool.and_eq_true_iff.mp ok).2 z hz
      obtain ⟨y, hy, e⟩ := List.any_eq_true.mp this
      rw [← eq_of_beq e]; exact hy
    refine ⟨by rw [List.length_range]; omega, compI (comp_map (enc := fun i => vecD (unitV n i)) (f := fun i => vecD (runV S (W.map (ixS T)) (unitV n i))) (List.range n) [] _ (fun i hi k hk => ?_) ?_)⟩
    · simp! [stb_M, fz_M, stb_V, fz_V]
      refine ⟨rfl, wpI (wp_rows_behind h unit_is.1 hWT (by omega) ?_)⟩
      have el : atI ((rowsB S (W.map (ixS T)) (unitV n i) (W.length + 1)).map vecD) (-1) = some (vecD (runV S (W.map (ixS T)) (unitV n i))) := by
        rw [rowsB_succ, List.map_append, List.take_of_length_le (by rw [List.length_map]; exact Nat.le_refl _)]
        exact at_last
      simp! [stb_M, fz_M, stb_V, fz_V, el]
      exact hk
    · rw [List.nil_append]
      simp! [o_tupV, stb_V]
      exact hQ ok
theorem wp_least_sumL {f z : List Int} {Q : FM.D → List FM.D → Prop} {X : XP} (hl : f.length ≤ 16777216) (hQ : Q (.int (endV f z)) []) : fs_least_sum.wp [vecD f, .lst false (z.map FM.D.int)] Q X := by
  show tb_least_sum (rtE [] Q) X [some (vecD f), some (.lst false (z.map FM.D.int)), none, none]
  unfold tb_least_sum vecD
  simp! []
  refine ⟨by rw [zip_len, List.length_map, List.length_map]; omega, compI (comp_inv (fun j r acc => acc = (sums2 (f.take j) (z.take j)).map FM.D.int ∧ r = [some (.tup (f.map FM.D.int)), some (.lst false (z.map FM.D.int)), none, none]) _ 0 _ _ _ ⟨rfl, rfl⟩ ?_ ?_)⟩
  · rintro j d r acc k hd ⟨rfl, rfl⟩ hk
    rw [Nat.zero_add] at hk ⊢
    obtain ⟨_, _, h1, h2, rfl⟩ := zip_at hd
    obtain ⟨x, hx, rfl⟩ := map_at h1
    obtain ⟨y, hy, rfl⟩ := map_at h2
    have e := sums2_snoc hx hy
    simp! [o_niI, ne_eq]
    split
    · rename_i e1
      rw [if_neg (fun q => q.elim e1.1 e1.2)] at e
      refine hk _ _ ⟨?_, rfl⟩
      rw [e, List.map_append]; rfl
    · rename_i e1
      rw [if_pos (by omega), List.append_nil] at e
      exact hk _ _ ⟨by rw [e], rfl⟩
  · rintro r acc ⟨rfl, rfl⟩
    rw [Nat.zero_add, zip_len, List.length_map, List.length_map, sums2_take]
    simp! []
    exact ⟨rfl, wpI (wp_least (by simp! []; exact hQ))⟩
theorem wp_fbc {n : Nat} {T : List Str} {F Z : List Int} {S : List (List (List (Int × Int)))} (h : MB2 n T F S Z) {ls : List Nat} {Q : FM.D → List FM.D → Prop} {X : XP} (hQ : Q (.int (endV (runV S ls F) Z)) []) :
    fs_fare_by_chart.wp [encM T F S Z, chartD n S ls] Q X := by
  show tb_fare_by_chart (rtE [] Q) X [some (encM T F S Z), some (chartD n S ls), none, none]
  have e1 : FM.ixD (encM T F S Z) (.int 1) = some (vecD F) := rfl
  have e3 : FM.ixD (encM T F S Z) (.int 3) = some (vecD Z) := rfl
  have e4 : wk (encM T F S Z) = encM T F S Z := rfl
  have hn := h.n8
  unfold tb_fare_by_chart chartD
  simp! [e1, e3, e4, stb_V]
  refine ⟨by rw [List.length_range]; omega, compI (comp_map (enc := fun i => vecD (runV S ls (unitV n i))) (f := fun i => FM.D.int (endV (runV S ls (unitV n i)) Z)) (List.range n) [] _ (fun i hi k hk => ?_) ?_)⟩
  · simp! [e3, e4, stb_V, fz_V]
    refine ⟨rfl, wpI (wp_least_sum (by rw [runV_len, unit_is.1]; omega) ?_)⟩
    simp! [stb_V]
    exact hk
  · have e5 : (List.range n).map (fun i => FM.D.int (endV (runV S ls (unitV n i)) Z)) = (endsV n S ls Z).map FM.D.int := by unfold endsV; rw [List.map_map]; rfl
    rw [List.nil_append, e5]
    simp! [e1, e4, stb_V, fz_V]
    have hz : IsV n 99 Z := ⟨h.z, h.zb⟩
    refine ⟨rfl, wpI (wp_least_sumL (by rw [h.f]; omega) ?_)⟩
    rw [end_by_chart h.sb h.first (by decide) hz]
    simp! []
    exact hQ
end K16


set_option Elab.async false
set_option linter.all false
set_option maxRecDepth 100000
namespace K16
open PySem PySem.Spec PyProof.Rows L2 FM
local macro_rules | `(tactic| simp! [$ts,*]) => `(tactic| simp only [↓nx_mk, ↓rt_mk, ↓bk_mk, ↓ct_mk, ↓rt_E, ↓nx_E, slots_0, slots_c, consO_s, ↓T_got, ↓T_wp, ↓T_for, ↓T_comp, got_sT, got_nT, got_ifT, gm_s, o_addT, o_addLs, o_addSt, o_mulI2, o_repT, o_slT2, o_slL2, o_slS2, o_slC2, o_tupL, o_tupT, o_lstL, o_lstT, o_abs2, o_min2, o_ixS2, cut_to, cut_from, cut_neg, cut_last, stbL_take, stbL_drop, stbL_dl, stbL_rev, stbL_set, n_cast, ↓dRevT_e, ↓dRevL_e, ↓dRevU_e, ↓e_orE, Bool.and_eq_true, Int.reduceLT, Int.reduceLE,  ↓e_seq, ↓e_next, ↓e_brk, ↓e_cnt, ↓e_drop, ↓e_ret, ↓e_retN, ↓e_ifS, ↓e_raise, ↓e_nameN, ↓e_gtup, ↓e_gnil, ↓e_gcons, as_tup, ↓e_asg, ↓e_augN, ↓e_setIxN, ↓e_for, ↓e_var, ↓e_varB, ↓e_varUN, ↓e_movN, ↓e_c, ↓e_op, ↓e_opS, ↓e_ix, ↓e_ixB, ↓e_ixS, ↓e_pick, ↓e_nil, ↓e_cons, ↓e_tup, ↓e_lst, ↓e_cl, ↓e_appN, ↓e_knil, ↓e_kc, ↓e_kb, ↓e_km, ↓e_callM, ↓e_tE, ↓e_tTru, ↓e_tAnd, ↓e_tOr, ↓e_tNot, ↓e_and, ↓e_or, ↓e_not, ↓e_chain, ↓e_if, ↓e_neg, ↓e_sl, ↓e_so, ↓e_son, ↓e_rng1, ↓e_rng2, ↓e_compN, o_addI, o_subI, o_ltI, o_leI, o_gtI, o_geI, o_eqI, o_neI, o_eqS, o_neS, o_int, o_intB, o_lenT, o_lenL, o_asI, o_asB, o_own, o_ixT, o_ixL, atI_0, atI_1, atI_2, atI_3, slot_0, slot_s, e_argc, e_argb, e_argm, e_args0, e_argsC, Option.map_some, e_ms0, e_msc, e_msb, e_msm, e_bu0, e_buc, e_bum, e_bub, e_buM, e_put0, e_put1, e_frzI, e_frzS, e_frzB, e_stbI, e_stbS, e_stbB, s_tup, s_lf, s_lt, s_nil, s_cons, s_app, s_map, s_non, s_cls, s_scr, fz_scr, fz_cls, fz_tup, fz_lst, fz_nil, fz_cons, fz_map, fz_non, nf_map, nf_tup, nf_lt, nf_int, nf_str, nf_bl, nf_non, nf_nil, nf_cons, small_iff, o_truB, ↓it_tup, ↓it_lst, ↓it_str, ↓it_or, hid_0, hid_c, hid_n, hid_s, wipe_0, wipe_c, back_0, back_c, ↓t_yes, List.all_cons, List.all_nil, List.cons_append, List.nil_append, List.length_cons, List.length_nil, List.length_map, set_0, set_s, ap_d, len_0, len_s, List.nodup_nil, Bool.and_true, Bool.true_and, Bool.and_self, Bool.not_true, Bool.not_false, Bool.false_eq_true, if_true, if_false, decide_true, decide_false, decide_eq_true_eq, true_and, and_true, and_false, false_and, or_false, false_or, true_or, Nat.reduceAdd, Nat.reduceLT, Nat.reduceLeDiff, Nat.reduceEqDiff, Nat.zero_add, List.nodup_cons, List.not_mem_nil, not_false_eq_true, or_true, or_self, implies_true, ↓e_wk, ↓e_dfrz, wk_int, wk_str, wk_bl, wk_non, wk_tup, wk_lst, wk_txs, wk_rng, wk_cls, wk_scr, wk_ts, s_txs, s_rng, s_ts, fz_txs, fz_rng, fz_ts, ↓it_any, it_ts, ↓it_enum, ↓it_zip, sk_tup, sk_lst, ↓e_mt, p_tx1, p_tx2, p_tx3, p_ls1, p_ls2, p_ls3, ↓e_ext, o_lstO, ↓e_appIx, o_minD, ↓e_callX, o_nm, o_rg1, and_self, Int.reduceAdd, Int.reduceNeg, $ts,*])
def colsT (n : Nat) (S : Mv) (ls : List Nat) : FM.D := .lst true ((List.range n).map fun k => FM.D.lst true ((colV n S ls k).map FM.D.int))
def colsF (n : Nat) (S : Mv) (ls : List Nat) : FM.D := .lst false ((List.range n).map fun k => FM.D.lst false ((colV n S ls k).map FM.D.int))
theorem fz_colsT {n : Nat} {S : Mv} {ls : List Nat} : frz (colsT n S ls) = colsF n S ls := by unfold colsT colsF; rw [fz_lst, fz_g1]
theorem stb_colsF {n : Nat} {S : Mv} {ls : List Nat} : stb (colsF n S ls) = true := nr (by unfold colsF; rw [s_lf]; exact s_map fun _ => stb_ls)
theorem stb_colsT {n : Nat} {S : Mv} {ls : List Nat} : stb (colsT n S ls) = false := nr (by unfold colsT; rw [s_lt])
theorem fz_colsF {n : Nat} {S : Mv} {ls : List Nat} : frz (colsF n S ls) = colsF n S ls := frz_stb _ stb_colsF
theorem vec_vAt {n : Nat} {f : List Int} (h : f.length = n) : (List.range n).map (vAt f) = f := by
  apply List.ext_getElem?
  intro i
  rw [List.getElem?_map]
  by_cases hi : i < n
  · rw [List.getElem?_range hi, Option.map_some]
    unfold vAt
    rw [List.getElem?_eq_getElem (by omega)]; rfl
  · rw [List.getElem?_eq_none (by rw [List.length_range]; omega), List.getElem?_eq_none (by omega)]; rfl
theorem row_item {n : Nat} {S : Mv} {ls ms : List Nat} (hS : RowsB n S) (hn : n ≤ 8) {a b : Option FM.D} {j : Nat} (hj : j < n) {Q : List FM.D → DEnv → Prop}
    (hQ : Q ((runV S (ls ++ ms) (unitV n j)).map FM.D.int) [a, b, some (colsF n S ms), none, some (vecD (runV S ls (unitV n j))), none]) :
    compW (dgName 5) dtYes (dCall fs_least_sum (dkB 4 (dkB 5 dkNil))) [5] ((List.range n).map fun k => FM.D.lst false ((colV n S ms k).map FM.D.int)) [a, b, some (colsF n S ms), none, some (vecD (runV S ls (unitV n j))), none] [] Q := by
  refine comp_map (enc := fun k => FM.D.lst false ((colV n S ms k).map FM.D.int)) (f := fun k => FM.D.int (vAt (runV S (ls ++ ms) (unitV n j)) k)) (List.range n) [] _ (fun k hk c hc => ?_) ?_
  · simp! [stb_V, fz_V, stb_ls]
    refine ⟨rfl, wpI (wp_least_sumL (by rw [runV_len, unit_is.1]; omega) ?_)⟩
    have e : endV (runV S ls (unitV n j)) (colV n S ms k) = vAt (runV S (ls ++ ms) (unitV n j)) k := by
      rw [runV_app]
      exact run_by_chart hS (runV_is hS (ls := ls) (unit_is (n := n) (i := j)) (by decide)) (by omega) (List.mem_range.mp hk)
    rw [e]
    simp! [stb_V, stb_ls]
    exact hc
  · have e5 : (List.range n).map (fun k => FM.D.int (vAt (runV S (ls ++ ms) (unitV n j)) k)) = (runV S (ls ++ ms) (unitV n j)).map FM.D.int := by
      have := vec_vAt (n := n) (f := runV S (ls ++ ms) (unitV n j)) (by rw [runV_len, unit_is.1])
      conv => rhs; rw [← this, List.map_map]
      rfl
    rw [List.nil_append, e5]
    exact hQ
theorem wp_product {n : Nat} {S : Mv} {ls ms : List Nat} (hS : RowsB n S) (hn : n ≤ 8) {Q : FM.D → List FM.D → Prop} {X : XP} (hQ : Q (chartD n S (ls ++ ms)) []) : fs_product.wp [chartD n S ls, chartD n S ms] Q X := by
  show tb_product (rtE [] Q) X [some (chartD n S ls), some (chartD n S ms), none, none, none, none]
  unfold tb_product chartD
  simp! [stb_V, List.length_range]
  rw [rng_map]
  refine ⟨⟨by omega, by omega⟩, by rw [List.length_map, List.length_range]; omega, compI (comp_map (enc := fun i : Nat => FM.D.int (i : Nat)) (f := fun k => FM.D.lst true ((colV n S ms k).map FM.D.int)) (List.range n) [] _ (fun k hk c hc => ?_) ?_)⟩
  · simp! [stb_V]
    have hkn : k < n := List.mem_range.mp hk
    refine ⟨by rw [List.length_range]; omega, compI (comp_map (enc := fun i => vecD (runV S ms (unitV n i))) (f := fun i => FM.D.int (vAt (runV S ms (unitV n i)) k)) (List.range n) [] _ (fun i hi c2 hc2 => ?_) ?_)⟩
    · have hrl : k < (runV S ms (unitV n i)).length := by rw [runV_len, unit_is.1]; exact hkn
      have e1 : atI ((runV S ms (unitV n i)).map FM.D.int) (k : Nat) = some (.int (vAt (runV S ms (unitV n i)) k)) := by
        refine atI_map (f := FM.D.int) ?_
        unfold vAt
        rw [List.getElem?_eq_getElem hrl]; rfl
      unfold vecD
      simp! [e1]
      exact hc2
    · have e5 : (List.range n).map (fun i => FM.D.int (vAt (runV S ms (unitV n i)) k)) = (colV n S ms k).map FM.D.int := by unfold colV; rw [List.map_map]; rfl
      rw [List.nil_append, e5]
      simp! []
      exact hc
  · rw [List.nil_append]
    show apT _ _ _
    simp! [stb_V]
    refine ⟨by rw [List.length_range]; omega, compI (comp_inv (fun j r acc => ∃ x, (x = colsT n S ms ∨ x = colsF n S ms) ∧ r = [some (.tup ((List.range n).map fun i => vecD (runV S ls (unitV n i)))), some (.tup ((List.range n).map fun i => vecD (runV S ms (unitV n i)))), some x, none, none, none] ∧ acc = (List.range j).map fun i => vecD (runV S (ls ++ ms) (unitV n i))) _ 0 _ _ _ ⟨_, .inl rfl, rfl, rfl⟩ ?_ ?_)⟩
    · rintro j d r acc c hd ⟨x, hx, rfl, rfl⟩ hc
      rw [Nat.zero_add] at hc ⊢
      obtain ⟨i, hi, rfl⟩ := map_at hd
      have hj : j < n := by have := (List.getElem?_eq_some_iff.mp hi).1; rw [List.length_range] at this; exact this
      rw [List.getElem?_range hj] at hi
      cases hi
      have fin : c ((List.range (j + 1)).map fun i => vecD (runV S (ls ++ ms) (unitV n i))) [some (.tup ((List.range n).map fun i => vecD (runV S ls (unitV n i)))), some (.tup ((List.range n).map fun i => vecD (runV S ms (unitV n i)))), some (colsF n S ms), none, none, none] := hc _ _ ⟨_, .inr rfl, rfl, rfl⟩
      rw [List.range_succ, List.map_append] at fin
      rcases hx with rfl | rfl
      · simp! [stb_colsT, fz_colsT]
        show (frzL ((List.range n).map fun k => FM.D.lst false ((colV n S ms k).map FM.D.int))).length ≤ 16777216 ∧ compT _ _ _ _ (frzL ((List.range n).map fun k => FM.D.lst false ((colV n S ms k).map FM.D.int))) _ _ _ _ _ _ _
        rw [fz_g2]
        refine ⟨by rw [List.length_map, List.length_range]; omega, compI (row_item hS hn hj ?_)⟩
        simp! [o_tupI]
        exact fin
      · simp! [stb_colsF, fz_colsF]
        show (frzL ((List.range n).map fun k => FM.D.lst false ((colV n S ms k).map FM.D.int))).length ≤ 16777216 ∧ compT _ _ _ _ (frzL ((List.range n).map fun k => FM.D.lst false ((colV n S ms k).map FM.D.int))) _ _ _ _ _ _ _
        rw [fz_g2]
        refine ⟨by rw [List.length_map, List.length_range]; omega, compI (row_item hS hn hj ?_)⟩
        simp! [o_tupI]
        exact fin
    · rintro r acc ⟨x, hx, rfl, rfl⟩
      rw [Nat.zero_add, List.length_map, List.length_range]
      simp! [o_tupV, stb_V]
      exact hQ
end K16


set_option Elab.async false
set_option linter.all false
set_option maxRecDepth 100000
namespace K16
open PySem PySem.Spec PyProof.Rows L2 FM
local macro_rules | `(tactic| simp! [$ts,*]) => `(tactic| simp only [↓nx_mk, ↓rt_mk, ↓bk_mk, ↓ct_mk, ↓rt_E, ↓nx_E, slots_0, slots_c, consO_s, ↓T_got, ↓T_wp, ↓T_for, ↓T_comp, got_sT, got_nT, got_ifT, gm_s, o_addT, o_addLs, o_addSt, o_mulI2, o_repT, o_slT2, o_slL2, o_slS2, o_slC2, o_tupL, o_tupT, o_lstL, o_lstT, o_abs2, o_min2, o_ixS2, cut_to, cut_from, cut_neg, cut_last, stbL_take, stbL_drop, stbL_dl, stbL_rev, stbL_set, n_cast, ↓dRevT_e, ↓dRevL_e, ↓dRevU_e, ↓e_orE, Bool.and_eq_true, Int.reduceLT, Int.reduceLE,  ↓e_seq, ↓e_next, ↓e_brk, ↓e_cnt, ↓e_drop, ↓e_ret, ↓e_retN, ↓e_ifS, ↓e_raise, ↓e_nameN, ↓e_gtup, ↓e_gnil, ↓e_gcons, as_tup, ↓e_asg, ↓e_augN, ↓e_setIxN, ↓e_for, ↓e_var, ↓e_varB, ↓e_varUN, ↓e_movN, ↓e_c, ↓e_op, ↓e_opS, ↓e_ix, ↓e_ixB, ↓e_ixS, ↓e_pick, ↓e_nil, ↓e_cons, ↓e_tup, ↓e_lst, ↓e_cl, ↓e_appN, ↓e_knil, ↓e_kc, ↓e_kb, ↓e_km, ↓e_callM, ↓e_tE, ↓e_tTru, ↓e_tAnd, ↓e_tOr, ↓e_tNot, ↓e_and, ↓e_or, ↓e_not, ↓e_chain, ↓e_if, ↓e_neg, ↓e_sl, ↓e_so, ↓e_son, ↓e_rng1, ↓e_rng2, ↓e_compN, o_addI, o_subI, o_ltI, o_leI, o_gtI, o_geI, o_eqI, o_neI, o_eqS, o_neS, o_int, o_intB, o_lenT, o_lenL, o_asI, o_asB, o_own, o_ixT, o_ixL, atI_0, atI_1, atI_2, atI_3, slot_0, slot_s, e_argc, e_argb, e_argm, e_args0, e_argsC, Option.map_some, e_ms0, e_msc, e_msb, e_msm, e_bu0, e_buc, e_bum, e_bub, e_buM, e_put0, e_put1, e_frzI, e_frzS, e_frzB, e_stbI, e_stbS, e_stbB, s_tup, s_lf, s_lt, s_nil, s_cons, s_app, s_map, s_non, s_cls, s_scr, fz_scr, fz_cls, fz_tup, fz_lst, fz_nil, fz_cons, fz_map, fz_non, nf_map, nf_tup, nf_lt, nf_int, nf_str, nf_bl, nf_non, nf_nil, nf_cons, small_iff, o_truB, ↓it_tup, ↓it_lst, ↓it_str, ↓it_or, hid_0, hid_c, hid_n, hid_s, wipe_0, wipe_c, back_0, back_c, ↓t_yes, List.all_cons, List.all_nil, List.cons_append, List.nil_append, List.length_cons, List.length_nil, List.length_map, set_0, set_s, ap_d, len_0, len_s, List.nodup_nil, Bool.and_true, Bool.true_and, Bool.and_self, Bool.not_true, Bool.not_false, Bool.false_eq_true, if_true, if_false, decide_true, decide_false, decide_eq_true_eq, true_and, and_true, and_false, false_and, or_false, false_or, true_or, Nat.reduceAdd, Nat.reduceLT, Nat.reduceLeDiff, Nat.reduceEqDiff, Nat.zero_add, List.nodup_cons, List.not_mem_nil, not_false_eq_true, or_true, or_self, implies_true, ↓e_wk, ↓e_dfrz, wk_int, wk_str, wk_bl, wk_non, wk_tup, wk_lst, wk_txs, wk_rng, wk_cls, wk_scr, wk_ts, s_txs, s_rng, s_ts, fz_txs, fz_rng, fz_ts, ↓it_any, it_ts, ↓it_enum, ↓it_zip, sk_tup, sk_lst, ↓e_mt, p_tx1, p_tx2, p_tx3, p_ls1, p_ls2, p_ls3, ↓e_ext, o_lstO, ↓e_appIx, o_minD, ↓e_callX, o_nm, o_rg1, and_self, Int.reduceAdd, Int.reduceNeg, $ts,*])
theorem wp_log {L : List Int} {k many : Int} {T : List Str} {Q : FM.D → List FM.D → Prop} {X : XP} (hL : 0 < L.length) (hl : L.length < 1073741824) (hk : 0 ≤ k) (hk2 : k + 1000 < 2 ^ 60) (hm0 : 0 ≤ many) (hm : many ≤ 500) (hT : T ≠ []) (hT4 : T.length ≤ 100)
    (hQ : ∀ (W : List Str) (k' : Int), k ≤ k' → k' ≤ k + 500 → (W.length : Int) = many → (∀ z ∈ W, z ∈ T) → Q (tsD W) [sD L k']) : fs_law_log.wp [sD L k, tsD T, .int many] Q X := by
  show tb_law_log (rtE [0] Q) X [some (sD L k), some (tsD T), some (.int many), none]
  have hTl : 0 < T.length := List.length_pos_iff.mpr hT
  unfold tb_law_log
  simp! []
  refine ⟨⟨by omega, by omega⟩, by rw [rngD_len]; omega, compI (comp_inv (fun j r acc => ∃ (W : List Str) (k' : Int), acc = W.map FM.D.str ∧ r = [some (sD L k'), some (tsD T), some (.int many), none] ∧ k ≤ k' ∧ k' ≤ k + j ∧ W.length = j ∧ ∀ z ∈ W, z ∈ T) _ 0 _ _ _ ⟨[], k, rfl, rfl, by omega, by omega, rfl, fun x h => (nomatch h)⟩ ?_ ?_)⟩
  · rintro j d0 r acc kk hd ⟨W, k', rfl, rfl, h1, h2, h3, h4⟩ hkk
    obtain ⟨rfl, hj⟩ := rngD_at hd
    rw [Nat.zero_add] at h2 h3
    simp! []
    refine ⟨rfl, wpI (wp_next hL hl (by omega) (by omega) (by omega) fun x hx hx2 => ?_)⟩
    obtain ⟨z, hz, hzT⟩ := pick_in (P := fun z => z ∈ T) (fun z h => h) hx hx2
    have e1 : atI (T.map FM.D.str) x = some (.str z) := by
      have e2 : x = ((x.toNat : Nat) : Int) := by omega
      have e3 : T[x.toNat]? = some z := by
        unfold atI at hz
        rw [ixN_in hx hx2] at hz
        exact hz
      rw [e2]
      exact atI_map (f := FM.D.str) e3
    simp! [e1, map_snocS]
    refine hkk _ _ ⟨_, _, rfl, rfl, by omega, by omega, by simp [h3], fun y hy => ?_⟩
    rcases List.mem_append.mp hy with q | q
    · exact h4 y q
    · rw [List.mem_singleton.mp q]; exact hzT
  · rintro r acc ⟨W, k', rfl, rfl, h1, h2, h3, h4⟩
    rw [Nat.zero_add, rngD_len] at h2 h3
    simp! [o_tupS]
    exact hQ W k' h1 (by omega) (by omega) h4
def tbLC : DS := (dSeq (dFor (diAny (dVarU 1)) (dgName 5)
      (dAsg (dCall fs_law_row (dkB 0 (dkB 4 (dkB 5 dkNil)))) (dgName 4)))
    (dDrop (dApp 2 (dVarU 4))))
theorem tb_lc : tb_law_chart = (dSeq (dAsg (dLst daNil) (dgName 2))
    (dSeq (dFor (diRng1 (daCons (dCl gLen (daCons (dWk (dIxB (dWk (dVarB 0)) (dC (.int (2))))) daNil)) daNil)) (dgName 3)
      (dSeq (dAsg (dCl gTupU (daCons (dComp (diRng1 (daCons (dCl gLen (daCons (dWk (dIxB (dWk (dVarB 0)) (dC (.int (2))))) daNil)) daNil)) [6] (dgName 6) dtYes (dPick (daCons (dNeg (dC (.int (1)))) (daCons (dC (.int (0))) daNil)) (dCl gInt (daCons (dOp uEq (dVarB 6) (dVarB 3)) daNil)))) daNil)) (dgName 4))
    tbLC))
    (dRet (dCl gTupU (daCons (dVarB 2) daNil))))) := rfl
theorem lc_walk {n : Nat} {T : List Str} {F Z : List Int} {S : List (List (List (Int × Int)))} (h : MB2 n T F S Z) {W : List Str} {lg : FM.D} {E : DEnds} {X : XP} (hl : isLg W lg) (hW : ∀ z ∈ W, z ∈ T) (hl8 : W.length ≤ 800) {f : List Int} (hf : IsV n 99 f) {acc : List FM.D} (ha : acc.length < 16777000) {d3 : FM.D} {c : Option FM.D}
    (hE : ∀ c, E.nx [some (encM T F S Z), some lg, some (.lst true (acc ++ [vecD (runV S (W.map (ixS T)) f)])), some d3, some (vecD (runV S (W.map (ixS T)) f)), c, none]) :
    tbLC E X [some (encM T F S Z), some lg, some (.lst true acc), some d3, some (vecD f), c, none] := by
  have body : ∀ lg : FM.D, (∀ c, E.nx [some (encM T F S Z), some lg, some (.lst true (acc ++ [vecD (runV S (W.map (ixS T)) f)])), some d3, some (vecD (runV S (W.map (ixS T)) f)), c, none]) →
      forW (dgName 5) (dAsg (dCall fs_law_row (dkB 0 (dkB 4 (dkB 5 dkNil)))) (dgName 4)) ⟨fun r1 => dDrop (dApp 2 (dVarU 4)) E X r1, E.rt, E.bk, E.ct⟩ X (W.map FM.D.str) [some (encM T F S Z), some lg, some (.lst true acc), some d3, some (vecD f), c, none] := by
    intro lg hE
    refine for_inv (fun j r => ∃ a : Option FM.D, r = [some (encM T F S Z), some lg, some (.lst true acc), some d3, some (vecD (runV S ((W.map (ixS T)).take j) f)), a, none]) ⟨c, rfl⟩ ?_ ?_
    · rintro j d r kk hd ⟨a, rfl⟩ hkk
      obtain ⟨z, hz, rfl⟩ := map_at hd
      have hzT := hW z (List.mem_of_getElem? hz)
      have hj := (List.getElem?_eq_some_iff.mp hz).1
      have hv := runV_is h.sb (ls := (W.map (ixS T)).take j) hf (by decide)
      have hlj : ((W.map (ixS T)).take j).length ≤ 800 := by rw [List.length_take, List.length_map]; omega
      simp! [stb_M, stb_V, fz_V, fz_M]
      refine ⟨rfl, wpI (wp_lrow h hv (by omega) (by omega) hzT ?_)⟩
      simp! [stb_M, stb_V, nf_V]
      refine hkk _ ⟨some (.str z), ?_⟩
      rw [run_take (l := ixS T z) (by rw [List.getElem?_map, hz]; rfl)]
    · rintro r ⟨a, rfl⟩
      have e3 : (W.map (ixS T)).take W.length = W.map (ixS T) := List.take_of_length_le (by rw [List.length_map]; exact Nat.le_refl _)
      rw [List.length_map, e3]
      simp! [stb_V, fz_V]
      exact ⟨by omega, hE a⟩
  rcases lg_two hl with rfl | rfl
  · unfold tbLC
    simp! []
    exact forI (body _ hE)
  · unfold tbLC
    simp! []
    exact forI (body _ hE)
theorem wp_lchart {n : Nat} {T : List Str} {F Z : List Int} {S : List (List (List (Int × Int)))} (h : MB2 n T F S Z) {W : List Str} {lg : FM.D} {Q : FM.D → List FM.D → Prop} {X : XP} (hl : isLg W lg) (hW : ∀ z ∈ W, z ∈ T) (hl8 : W.length ≤ 800) (hQ : Q (chartD n S (W.map (ixS T))) []) :
    fs_law_chart.wp [encM T F S Z, lg] Q X := by
  show tb_law_chart (rtE [] Q) X [some (encM T F S Z), some lg, none, none, none, none, none]
  have e2 : FM.ixD (encM T F S Z) (.int 2) = some (.tup (S.map encS)) := rfl
  have e4 : wk (encM T F S Z) = encM T F S Z := rfl
  have hn := h.n8
  have hs := h.s
  rw [tb_lc]
  simp! [e2, e4]
  rw [hs]
  refine ⟨⟨by omega, by omega⟩, forI (for_inv (fun j r => ∃ a b c : Option FM.D, r = [some (encM T F S Z), some lg, some (.lst true ((List.range j).map fun i => vecD (runV S (W.map (ixS T)) (unitV n i)))), a, b, c, none]) ⟨none, none, none, rfl⟩ ?_ ?_)⟩
  · rintro j d r kk hd ⟨a, b, c, rfl⟩ hkk
    obtain ⟨rfl, hj⟩ := rng0_at hd
    have hj : j < n := by omega
    simp! [e2, e4]
    rw [hs, rng_map]
    refine ⟨⟨by omega, by omega⟩, by rw [List.length_map, List.length_range]; omega, compI (comp_map (enc := fun i : Nat => FM.D.int (i : Nat)) (f := fun i => FM.D.int (if i = j then 0 else -1)) (List.range n) [] _ (fun i hi k hk => ?_) ?_)⟩
    · simp! []
      by_cases e : i = j
      · rw [if_pos e] at hk
        rw [if_pos (by omega)]
        simp! []
        exact hk
      · rw [if_neg e] at hk
        rw [if_neg (by omega)]
        simp! []
        exact hk
    · have e5 : (List.range n).map (fun i => FM.D.int (if i = j then 0 else -1)) = (unitV n j).map FM.D.int := by unfold unitV; rw [List.map_map]; rfl
      rw [List.nil_append, e5]
      simp! [o_tupI]
      refine lc_walk h hl hW hl8 (IsV.mono unit_is (by decide)) (by rw [List.length_map, List.length_range]; omega) fun c => ?_
      refine hkk _ ⟨some (.int (j : Nat)), some (vecD (runV S (W.map (ixS T)) (unitV n j))), c, ?_⟩
      rw [List.range_succ, List.map_append]; rfl
  · rintro r ⟨a, b, c, rfl⟩
    rw [rng_n]
    simp! [o_tupV]
    exact hQ
end K16


set_option Elab.async false
set_option linter.all false
set_option maxRecDepth 100000
namespace K16
open PySem PySem.Spec PyProof.Rows L2 FM
local macro_rules | `(tactic| simp! [$ts,*]) => `(tactic| simp only [↓nx_mk, ↓rt_mk, ↓bk_mk, ↓ct_mk, ↓rt_E, ↓nx_E, slots_0, slots_c, consO_s, ↓T_got, ↓T_wp, ↓T_for, ↓T_comp, got_sT, got_nT, got_ifT, gm_s, o_addT, o_addLs, o_addSt, o_mulI2, o_repT, o_slT2, o_slL2, o_slS2, o_slC2, o_tupL, o_tupT, o_lstL, o_lstT, o_abs2, o_min2, o_ixS2, cut_to, cut_from, cut_neg, cut_last, stbL_take, stbL_drop, stbL_dl, stbL_rev, stbL_set, n_cast, ↓dRevT_e, ↓dRevL_e, ↓dRevU_e, ↓e_orE, Bool.and_eq_true, Int.reduceLT, Int.reduceLE,  ↓e_seq, ↓e_next, ↓e_brk, ↓e_cnt, ↓e_drop, ↓e_ret, ↓e_retN, ↓e_ifS, ↓e_raise, ↓e_nameN, ↓e_gtup, ↓e_gnil, ↓e_gcons, as_tup, ↓e_asg, ↓e_augN, ↓e_setIxN, ↓e_for, ↓e_var, ↓e_varB, ↓e_varUN, ↓e_movN, ↓e_c, ↓e_op, ↓e_opS, ↓e_ix, ↓e_ixB, ↓e_ixS, ↓e_pick, ↓e_nil, ↓e_cons, ↓e_tup, ↓e_lst, ↓e_cl, ↓e_appN, ↓e_knil, ↓e_kc, ↓e_kb, ↓e_km, ↓e_callM, ↓e_tE, ↓e_tTru, ↓e_tAnd, ↓e_tOr, ↓e_tNot, ↓e_and, ↓e_or, ↓e_not, ↓e_chain, ↓e_if, ↓e_neg, ↓e_sl, ↓e_so, ↓e_son, ↓e_rng1, ↓e_rng2, ↓e_compN, o_addI, o_subI, o_ltI, o_leI, o_gtI, o_geI, o_eqI, o_neI, o_eqS, o_neS, o_int, o_intB, o_lenT, o_lenL, o_asI, o_asB, o_own, o_ixT, o_ixL, atI_0, atI_1, atI_2, atI_3, slot_0, slot_s, e_argc, e_argb, e_argm, e_args0, e_argsC, Option.map_some, e_ms0, e_msc, e_msb, e_msm, e_bu0, e_buc, e_bum, e_bub, e_buM, e_put0, e_put1, e_frzI, e_frzS, e_frzB, e_stbI, e_stbS, e_stbB, s_tup, s_lf, s_lt, s_nil, s_cons, s_app, s_map, s_non, s_cls, s_scr, fz_scr, fz_cls, fz_tup, fz_lst, fz_nil, fz_cons, fz_map, fz_non, nf_map, nf_tup, nf_lt, nf_int, nf_str, nf_bl, nf_non, nf_nil, nf_cons, small_iff, o_truB, ↓it_tup, ↓it_lst, ↓it_str, ↓it_or, hid_0, hid_c, hid_n, hid_s, wipe_0, wipe_c, back_0, back_c, ↓t_yes, List.all_cons, List.all_nil, List.cons_append, List.nil_append, List.length_cons, List.length_nil, List.length_map, set_0, set_s, ap_d, len_0, len_s, List.nodup_nil, Bool.and_true, Bool.true_and, Bool.and_self, Bool.not_true, Bool.not_false, Bool.false_eq_true, if_true, if_false, decide_true, decide_false, decide_eq_true_eq, true_and, and_true, and_false, false_and, or_false, false_or, true_or, Nat.reduceAdd, Nat.reduceLT, Nat.reduceLeDiff, Nat.reduceEqDiff, Nat.zero_add, List.nodup_cons, List.not_mem_nil, not_false_eq_true, or_true, or_self, implies_true, ↓e_wk, ↓e_dfrz, wk_int, wk_str, wk_bl, wk_non, wk_tup, wk_lst, wk_txs, wk_rng, wk_cls, wk_scr, wk_ts, s_txs, s_rng, s_ts, fz_txs, fz_rng, fz_ts, ↓it_any, it_ts, ↓it_enum, ↓it_zip, sk_tup, sk_lst, ↓e_mt, p_tx1, p_tx2, p_tx3, p_ls1, p_ls2, p_ls3, ↓e_ext, o_lstO, ↓e_appIx, o_minD, ↓e_callX, o_nm, o_rg1, and_self, Int.reduceAdd, Int.reduceNeg, $ts,*])
theorem isa_1 {a : Addr} {x y : Str} {b : Bool} (h : isaT x y = some b) : gIsa isaT a x [.exc a x, .cls y] = some (.bl b) := by
  show (if a = a ∧ x = x then (isaT x y).map FM.D.bl else none) = _
  rw [if_pos ⟨rfl, rfl⟩, h]; rfl
theorem isa_2 {a : Addr} {x y z : Str} {b c : Bool} (h : isaT x y = some b) (h2 : isaT x z = some c) : gIsa isaT a x [.exc a x, .tup [.cls y, .cls z]] = some (.bl (b || c)) := by
  show (if a = a ∧ x = x then ((clsOf [.cls y, .cls z]).bind fun ns => (FM.anyB isaT x ns).map FM.D.bl) else none) = _
  rw [if_pos ⟨rfl, rfl⟩]
  show (FM.anyB isaT x [y, z]).map FM.D.bl = _
  simp only [FM.anyB, h, h2]
  cases b <;> cases c <;> rfl
theorem wp_error_na {a : Addr} {Q : FM.D → List FM.D → Prop} {X : XP} (hQ : Q (.str "refused") []) : (fs_law_error a "NotAllowed").wp [.exc a "NotAllowed"] Q X := by
  show tb_law_error a "NotAllowed" (rtE [] Q) X [some (.exc a "NotAllowed"), none, none]
  have i1 := isa_1 (a := a) (x := "NotAllowed") (y := "NotAllowed") (b := true) (by decide +kernel)
  have i2 := isa_1 (a := a) (x := "NotAllowed") (y := "TooLarge") (b := false) (by decide +kernel)
  have i3 := isa_1 (a := a) (x := "NotAllowed") (y := "Missing") (b := false) (by decide +kernel)
  have i4 : gIsa isaT a "NotAllowed" [.exc a "NotAllowed", .tup [.cls "BadPaper", .cls "BadForm"]] = some (.bl false) := isa_2 (a := a) (x := "NotAllowed") (y := "BadPaper") (z := "BadForm") (b := false) (c := false) (by decide +kernel) (by decide +kernel)
  have sx : stb (.exc a "NotAllowed") = true := rfl
  unfold tb_law_error
  have b1 : bitsL (.lst true [.bl true, .bl false, .bl false, .bl false]) = some [true, false, false, false] := rfl
  have b2 : (([true, false, false, false] : List Bool).map bI).sum = 1 := by decide
  have b3 : gIdxL (.lst true [.bl true, .bl false, .bl false, .bl false]) [.bl true] = some (.int 0) := by rfl
  simp! [i1, i2, i3, i4, sx, e_sumB, b1, b2, b3, ne_eq, not_true]
  exact hQ
/-- what _law_told tells of a chart -/
theorem wp_told0 {n : Nat} {T : List Str} {F Z : List Int} {S : List (List (List (Int × Int)))} (h : MB2 n T F S Z) {W : List Str} {lg : FM.D} {Q : FM.D → List FM.D → Prop} {X : XP} (hW : W.length ≤ 16777216) (hl : isLg W lg) (hts : logOk T W = true → lg = tsD W)
    (hQ : logOk T W = true → Q (.tup [.str "told", chartD n S (W.map (ixS T))]) []) (hX : logOk T W = false → Q (.str "refused") []) : fs_law_told.wp [.int 0, encM T F S Z, lg] Q X := by
  have e2 := lg_stb hl
  have e3 : frz lg = lg := frz_stb _ e2
  have t1 : tab_law_told_0 "chart_of" = some fs_chart_of := by rfl
  have sc : stb (chartD n S (W.map (ixS T))) = true := by unfold chartD; rw [s_tup]; exact s_map fun _ => stb_V _
  show tb_law_told (rtE [] Q) _ [some (.int 0), some (encM T F S Z), some lg, none]
  unfold tb_law_told
  simp! [e2, e3, stb_M, fz_M, t1]
  refine ⟨rfl, wpI (wp_chart_of h hW hl hts (fun ok => ?_) fun no => ?_)⟩
  · simp! [e2, e3, stb_M, fz_M, sc]
    exact hQ ok
  · have i0 : isaT "NotAllowed" "FareError" = some true := by decide +kernel
    dsimp only
    rw [i0]
    refine ⟨rfl, fun a => ?_⟩
    have sx : stb (.exc a "NotAllowed") = true := rfl
    have fx : frz (.exc a "NotAllowed") = .exc a "NotAllowed" := rfl
    show th_law_told a "NotAllowed" (rtE [] Q) X0 [none, none, none, some (.exc a "NotAllowed")]
    unfold th_law_told
    simp! [sx, fx]
    refine ⟨rfl, wpI (wp_error_na ?_)⟩
    simp! [sx, fx]
    exact hX no
theorem wp_told1 {n : Nat} {T : List Str} {F Z : List Int} {S : List (List (List (Int × Int)))} (h : MB2 n T F S Z) {ls : List Nat} {Q : FM.D → List FM.D → Prop} {X : XP} (hQ : Q (.tup [.str "told", .int (endV (runV S ls F) Z)]) []) : fs_law_told.wp [.int 1, encM T F S Z, chartD n S ls] Q X := by
  have t1 : tab_law_told_0 "fare_by_chart" = some fs_fare_by_chart := by rfl
  have sc : stb (chartD n S ls) = true := by unfold chartD; rw [s_tup]; exact s_map fun _ => stb_V _
  have fc : frz (chartD n S ls) = chartD n S ls := frz_stb _ sc
  show tb_law_told (rtE [] Q) _ [some (.int 1), some (encM T F S Z), some (chartD n S ls), none]
  unfold tb_law_told
  simp! [sc, fc, stb_M, fz_M, t1]
  refine ⟨rfl, wpI (wp_fbc h ?_)⟩
  simp! [sc, fc, stb_M, fz_M]
  exact hQ
end K16


set_option Elab.async false
set_option linter.all false
set_option maxRecDepth 100000
namespace K16
open PySem PySem.Spec PyProof.Rows L2 FM
local macro_rules | `(tactic| simp! [$ts,*]) => `(tactic| simp only [↓nx_mk, ↓rt_mk, ↓bk_mk, ↓ct_mk, ↓rt_E, ↓nx_E, slots_0, slots_c, consO_s, ↓T_got, ↓T_wp, ↓T_for, ↓T_comp, got_sT, got_nT, got_ifT, gm_s, o_addT, o_addLs, o_addSt, o_mulI2, o_repT, o_slT2, o_slL2, o_slS2, o_slC2, o_tupL, o_tupT, o_lstL, o_lstT, o_abs2, o_min2, o_ixS2, cut_to, cut_from, cut_neg, cut_last, stbL_take, stbL_drop, stbL_dl, stbL_rev, stbL_set, n_cast, ↓dRevT_e, ↓dRevL_e, ↓dRevU_e, ↓e_orE, Bool.and_eq_true, Int.reduceLT, Int.reduceLE,  ↓e_seq, ↓e_next, ↓e_brk, ↓e_cnt, ↓e_drop, ↓e_ret, ↓e_retN, ↓e_ifS, ↓e_raise, ↓e_nameN, ↓e_gtup, ↓e_gnil, ↓e_gcons, as_tup, ↓e_asg, ↓e_augN, ↓e_setIxN, ↓e_for, ↓e_var, ↓e_varB, ↓e_varUN, ↓e_movN, ↓e_c, ↓e_op, ↓e_opS, ↓e_ix, ↓e_ixB, ↓e_ixS, ↓e_pick, ↓e_nil, ↓e_cons, ↓e_tup, ↓e_lst, ↓e_cl, ↓e_appN, ↓e_knil, ↓e_kc, ↓e_kb, ↓e_km, ↓e_callM, ↓e_tE, ↓e_tTru, ↓e_tAnd, ↓e_tOr, ↓e_tNot, ↓e_and, ↓e_or, ↓e_not, ↓e_chain, ↓e_if, ↓e_neg, ↓e_sl, ↓e_so, ↓e_son, ↓e_rng1, ↓e_rng2, ↓e_compN, o_addI, o_subI, o_ltI, o_leI, o_gtI, o_geI, o_eqI, o_neI, o_eqS, o_neS, o_int, o_intB, o_lenT, o_lenL, o_asI, o_asB, o_own, o_ixT, o_ixL, atI_0, atI_1, atI_2, atI_3, slot_0, slot_s, e_argc, e_argb, e_argm, e_args0, e_argsC, Option.map_some, e_ms0, e_msc, e_msb, e_msm, e_bu0, e_buc, e_bum, e_bub, e_buM, e_put0, e_put1, e_frzI, e_frzS, e_frzB, e_stbI, e_stbS, e_stbB, s_tup, s_lf, s_lt, s_nil, s_cons, s_app, s_map, s_non, s_cls, s_scr, fz_scr, fz_cls, fz_tup, fz_lst, fz_nil, fz_cons, fz_map, fz_non, nf_map, nf_tup, nf_lt, nf_int, nf_str, nf_bl, nf_non, nf_nil, nf_cons, small_iff, o_truB, ↓it_tup, ↓it_lst, ↓it_str, ↓it_or, hid_0, hid_c, hid_n, hid_s, wipe_0, wipe_c, back_0, back_c, ↓t_yes, List.all_cons, List.all_nil, List.cons_append, List.nil_append, List.length_cons, List.length_nil, List.length_map, set_0, set_s, ap_d, len_0, len_s, List.nodup_nil, Bool.and_true, Bool.true_and, Bool.and_self, Bool.not_true, Bool.not_false, Bool.false_eq_true, if_true, if_false, decide_true, decide_false, decide_eq_true_eq, true_and, and_true, and_false, false_and, or_false, false_or, true_or, Nat.reduceAdd, Nat.reduceLT, Nat.reduceLeDiff, Nat.reduceEqDiff, Nat.zero_add, List.nodup_cons, List.not_mem_nil, not_false_eq_true, or_true, or_self, implies_true, ↓e_wk, ↓e_dfrz, wk_int, wk_str, wk_bl, wk_non, wk_tup, wk_lst, wk_txs, wk_rng, wk_cls, wk_scr, wk_ts, s_txs, s_rng, s_ts, fz_txs, fz_rng, fz_ts, ↓it_any, it_ts, ↓it_enum, ↓it_zip, sk_tup, sk_lst, ↓e_mt, p_tx1, p_tx2, p_tx3, p_ls1, p_ls2, p_ls3, ↓e_ext, o_lstO, ↓e_appIx, o_minD, ↓e_callX, o_nm, o_rg1, and_self, Int.reduceAdd, Int.reduceNeg, $ts,*])
theorem mb_two {many : Int} {T : List Str} {F Z : List Int} {S : List (List (List (Int × Int)))} (h : MB many T F S Z) (hT : T ≠ []) (h8 : many ≤ 8) : MB2 many.toNat T F S Z := by
  have hf := h.f
  refine ⟨by omega, hT, by omega, by have := h.z; omega, by have := h.s; omega, h.fb, h.zb, fun r hr => (h.sb r hr).1, fun r hr R hR p hp => ?_, fun r hr R hR => ?_⟩
  · obtain ⟨_, q, _⟩ := (h.sb r hr).2 R hR
    obtain ⟨a, b, c, d⟩ := q p hp
    exact ⟨a, by omega, c, d⟩
  · obtain ⟨q, _, _⟩ := (h.sb r hr).2 R hR
    omega
theorem wp_some {L : List Int} {k most : Int} {Q : FM.D → List FM.D → Prop} {X : XP} (hL : 0 < L.length) (hl : L.length < 1073741824) (hk : 0 ≤ k) (hk2 : k + 3000 < 2 ^ 60) (hm0 : 0 < most) (hm : most ≤ 8)
    (hQ : ∀ T F S Z n (k' : Int), k ≤ k' → k' ≤ k + 2000 → T.length ≤ 4 → (∀ s ∈ T, s.length ≤ 8) → (∀ s ∈ T, okS s = true) → 0 < n → MB2 n T F S Z → Q (encM T F S Z) [sD L k']) : fs_law_some_machine.wp [sD L k, .int most] Q X := by
  show tb_law_some_machine (rtE [0] Q) X [some (sD L k), some (.int most), none]
  unfold tb_law_some_machine
  simp! []
  refine ⟨rfl, wpI (wp_next hL hl hk (by omega) (by decide) fun x hx hx2 => ?_)⟩
  simp! []
  refine ⟨rfl, wpI (wp_letters hL hl (by omega) (by omega) (by omega) (by omega) fun T k1 a1 a2 a3 a4 a5 => ?_)⟩
  simp! []
  refine ⟨rfl, wpI (wp_next hL hl (by omega) (by omega) hm0 fun n hn hn2 => ?_)⟩
  simp! []
  refine ⟨rfl, wpI (wp_next hL hl (by omega) (by omega) (by decide) fun p hp hp2 => ?_)⟩
  obtain ⟨mo, e1, e2, e3⟩ := pick_in (P := fun d : FM.D => ∃ v : Int, d = .int v ∧ 0 ≤ v ∧ v ≤ 99) (xs := [.int 9, .int 99, .int 2]) (fun d hd => by
    simp only [List.mem_cons, List.not_mem_nil, or_false] at hd
    rcases hd with rfl | rfl | rfl
    · exact ⟨9, rfl, by decide, by decide⟩
    · exact ⟨99, rfl, by decide, by decide⟩
    · exact ⟨2, rfl, by decide, by decide⟩) hp hp2
  obtain ⟨rfl, e4, e5⟩ := e3
  simp! [e1]
  refine ⟨rfl, wpI (wp_next hL hl (by omega) (by omega) (by decide) fun t ht ht2 => ?_)⟩
  simp! []
  refine ⟨rfl, wpI (wp_machine hL hl (by omega) (by omega) (by omega) (by omega) e4 e5 (by omega) fun F S Z k2 b1 b2 b3 => ?_)⟩
  have hT : T ≠ [] := fun e => by rw [e] at a3; simp only [List.length_nil] at a3; omega
  simp! []
  exact hQ T F S Z _ k2 (by omega) (by omega) (by omega) a4 a5 (by omega) (mb_two b3 hT (by omega))
/-- what is the same is told so -/
theorem wp_same {d : FM.D} {Q : FM.D → List FM.D → Prop} {X : XP} (hs : stb d = true) (ho : okD d = true) (hz : szD d ≤ 1000000) (hd : dpD d ≤ 60) (hQ : Q (.bl true) []) : fs_law_same.wp [d, d] Q X := by
  show tb_law_same (rtE [] Q) X [some d, some d]
  have e : ∀ o : Bool, gRepr [.lst o [d]] = some (.str (rep (.lst o [d]))) := fun o => o_repr rfl (by simp only [okD, okL, Bool.and_true]; exact ho) (by simp only [szD, szL]; omega) (by simp only [dpD, dpL]; omega)
  have f : frz d = d := frz_stb _ hs
  unfold tb_law_same
  simp! [e, hs, f]
  exact hQ
end K16


set_option Elab.async false
set_option linter.all false
set_option maxRecDepth 100000
namespace K16
open PySem PySem.Spec PyProof.Rows L2 FM
local macro_rules | `(tactic| simp! [$ts,*]) => `(tactic| simp only [↓nx_mk, ↓rt_mk, ↓bk_mk, ↓ct_mk, ↓rt_E, ↓nx_E, slots_0, slots_c, consO_s, ↓T_got, ↓T_wp, ↓T_for, ↓T_comp, got_sT, got_nT, got_ifT, gm_s, o_addT, o_addLs, o_addSt, o_mulI2, o_repT, o_slT2, o_slL2, o_slS2, o_slC2, o_tupL, o_tupT, o_lstL, o_lstT, o_abs2, o_min2, o_ixS2, cut_to, cut_from, cut_neg, cut_last, stbL_take, stbL_drop, stbL_dl, stbL_rev, stbL_set, n_cast, ↓dRevT_e, ↓dRevL_e, ↓dRevU_e, ↓e_orE, Bool.and_eq_true, Int.reduceLT, Int.reduceLE,  ↓e_seq, ↓e_next, ↓e_brk, ↓e_cnt, ↓e_drop, ↓e_ret, ↓e_retN, ↓e_ifS, ↓e_raise, ↓e_nameN, ↓e_gtup, ↓e_gnil, ↓e_gcons, as_tup, ↓e_asg, ↓e_augN, ↓e_setIxN, ↓e_for, ↓e_var, ↓e_varB, ↓e_varUN, ↓e_movN, ↓e_c, ↓e_op, ↓e_opS, ↓e_ix, ↓e_ixB, ↓e_ixS, ↓e_pick, ↓e_nil, ↓e_cons, ↓e_tup, ↓e_lst, ↓e_cl, ↓e_appN, ↓e_knil, ↓e_kc, ↓e_kb, ↓e_km, ↓e_callM, ↓e_tE, ↓e_tTru, ↓e_tAnd, ↓e_tOr, ↓e_tNot, ↓e_and, ↓e_or, ↓e_not, ↓e_chain, ↓e_if, ↓e_neg, ↓e_sl, ↓e_so, ↓e_son, ↓e_rng1, ↓e_rng2, ↓e_compN, o_addI, o_subI, o_ltI, o_leI, o_gtI, o_geI, o_eqI, o_neI, o_eqS, o_neS, o_int, o_intB, o_lenT, o_lenL, o_asI, o_asB, o_own, o_ixT, o_ixL, atI_0, atI_1, atI_2, atI_3, slot_0, slot_s, e_argc, e_argb, e_argm, e_args0, e_argsC, Option.map_some, e_ms0, e_msc, e_msb, e_msm, e_bu0, e_buc, e_bum, e_bub, e_buM, e_put0, e_put1, e_frzI, e_frzS, e_frzB, e_stbI, e_stbS, e_stbB, s_tup, s_lf, s_lt, s_nil, s_cons, s_app, s_map, s_non, s_cls, s_scr, fz_scr, fz_cls, fz_tup, fz_lst, fz_nil, fz_cons, fz_map, fz_non, nf_map, nf_tup, nf_lt, nf_int, nf_str, nf_bl, nf_non, nf_nil, nf_cons, small_iff, o_truB, ↓it_tup, ↓it_lst, ↓it_str, ↓it_or, hid_0, hid_c, hid_n, hid_s, wipe_0, wipe_c, back_0, back_c, ↓t_yes, List.all_cons, List.all_nil, List.cons_append, List.nil_append, List.length_cons, List.length_nil, List.length_map, set_0, set_s, ap_d, len_0, len_s, List.nodup_nil, Bool.and_true, Bool.true_and, Bool.and_self, Bool.not_true, Bool.not_false, Bool.false_eq_true, if_true, if_false, decide_true, decide_false, decide_eq_true_eq, true_and, and_true, and_false, false_and, or_false, false_or, true_or, Nat.reduceAdd, Nat.reduceLT, Nat.reduceLeDiff, Nat.reduceEqDiff, Nat.zero_add, List.nodup_cons, List.not_mem_nil, not_false_eq_true, or_true, or_self, implies_true, ↓e_wk, ↓e_dfrz, wk_int, wk_str, wk_bl, wk_non, wk_tup, wk_lst, wk_txs, wk_rng, wk_cls, wk_scr, wk_ts, s_txs, s_rng, s_ts, fz_txs, fz_rng, fz_ts, ↓it_any, it_ts, ↓it_enum, ↓it_zip, sk_tup, sk_lst, ↓e_mt, p_tx1, p_tx2, p_tx3, p_ls1, p_ls2, p_ls3, ↓e_ext, o_lstO, ↓e_appIx, o_minD, ↓e_callX, o_nm, o_rg1, and_self, Int.reduceAdd, Int.reduceNeg, $ts,*])
/-- what repr can show, so large and so deep at most -/
structure OkR (d : FM.D) (s p : Nat) : Prop where
  o : okD d = true
  z : szD d ≤ s
  d : dpD d ≤ p
theorem OkR.mono {d : FM.D} {s p s2 p2 : Nat} (h : OkR d s p) (h1 : s ≤ s2) (h2 : p ≤ p2) : OkR d s2 p2 := ⟨h.o, Nat.le_trans h.z h1, Nat.le_trans h.d h2⟩
theorem ok_tup {α : Type} {f : α → FM.D} {xs : List α} {s p n : Nat} (h : ∀ x ∈ xs, OkR (f x) s p) (hn : xs.length ≤ n) : OkR (.tup (xs.map f)) (n * (s + 1)) (p + 1) := by
  refine ⟨by simp only [okD]; exact okL_map fun x hx => (h x hx).o, ?_, ?_⟩
  · simp only [szD]
    exact Nat.le_trans (szL_map fun x hx => (h x hx).z) (Nat.mul_le_mul_right _ hn)
  · simp only [dpD]
    exact Nat.succ_le_succ (dpL_map fun x hx => (h x hx).d)
theorem ok_lst {α : Type} {o : Bool} {f : α → FM.D} {xs : List α} {s p n : Nat} (h : ∀ x ∈ xs, OkR (f x) s p) (hn : xs.length ≤ n) : OkR (.lst o (xs.map f)) (n * (s + 1)) (p + 1) := by
  refine ⟨by simp only [okD]; exact okL_map fun x hx => (h x hx).o, ?_, ?_⟩
  · simp only [szD]
    exact Nat.le_trans (szL_map fun x hx => (h x hx).z) (Nat.mul_le_mul_right _ hn)
  · simp only [dpD]
    exact Nat.succ_le_succ (dpL_map fun x hx => (h x hx).d)
theorem ok_l {xs : List FM.D} {s p n : Nat} (h : ∀ x ∈ xs, OkR x s p) (hn : xs.length ≤ n) : OkR (.tup xs) (n * (s + 1)) (p + 1) := by
  have := ok_tup (f := id) h hn
  rw [List.map_id] at this
  exact this
theorem ok_ll {o : Bool} {xs : List FM.D} {s p n : Nat} (h : ∀ x ∈ xs, OkR x s p) (hn : xs.length ≤ n) : OkR (.lst o xs) (n * (s + 1)) (p + 1) := by
  have := ok_lst (o := o) (f := id) h hn
  rw [List.map_id] at this
  exact this
theorem ok_int {x : Int} (h : -1000000000 ≤ x ∧ x ≤ 1000000000) : OkR (.int x) 40 0 := ⟨by simp only [okD]; exact decide_eq_true (by omega), Nat.le_refl _, Nat.le_refl _⟩
theorem ok_str {x : Str} (h : okS x = true) (hl : x.length ≤ 8) : OkR (.str x) 8 0 := ⟨by simp only [okD]; exact okS_plain h, by simp only [szD]; exact hl, Nat.le_refl _⟩
theorem ok_told : OkR (.str "told") 8 0 := ok_str (by decide +kernel) (by decide +kernel)
theorem ok_vec {n : Nat} {b : Int} {f : List Int} (h : IsV n b f) (hb : b ≤ 1000000000) (hn : n ≤ 8) : OkR (vecD f) 328 1 :=
  ok_tup (n := 8) (s := 40) (p := 0) (fun x hx => ok_int (by have := h.2 x hx; omega)) (by rw [h.1]; exact hn)
theorem sum_map_le {α : Type} {f : α → Nat} {B : Nat} : ∀ {xs : List α}, (∀ x ∈ xs, f x ≤ B) → (xs.map f).sum ≤ xs.length * B
  | [], _ => Nat.zero_le _
  | x :: xs, h => by
    have h1 := h x (List.mem_cons_self ..)
    have h2 := sum_map_le (xs := xs) fun y hy => h y (List.mem_cons_of_mem _ hy)
    have e : (xs.length + 1) * B = xs.length * B + B := Nat.succ_mul ..
    simp only [List.map_cons, List.sum_cons, List.length_cons]
    omega
theorem ok_ts {T : List Str} {n : Nat} (h : ∀ s ∈ T, okS s = true) (h8 : ∀ s ∈ T, s.length ≤ 8) (hn : T.length ≤ n) : OkR (tsD T) (n * 9) 1 := by
  cases T with
  | nil => exact ⟨rfl, Nat.zero_le _, Nat.le_refl _⟩
  | cons t T =>
    refine ⟨?_, ?_, Nat.le_refl _⟩
    · show (List.all _ _) = true
      exact List.all_eq_true.mpr fun s hs => okS_plain (h s hs)
    · show (List.map _ _).sum ≤ _
      exact Nat.le_trans (sum_map_le (B := 9) fun s hs => by have := h8 s hs; omega) (Nat.mul_le_mul_right _ hn)
theorem ok_P {n : Nat} {p : Int × Int} (h : 0 ≤ p.1 ∧ p.1 < (n : Int) ∧ 0 ≤ p.2 ∧ p.2 ≤ 99) (hn : n ≤ 1000) : OkR (encP p) 82 1 :=
  ok_l (n := 2) (s := 40) (p := 0) (fun x hx => by
    simp only [List.mem_cons, List.not_mem_nil, or_false] at hx
    rcases hx with rfl | rfl
    · exact ok_int (by omega)
    · exact ok_int (by omega)) (Nat.le_refl _)
theorem ok_M {n : Nat} {T : List Str} {F Z : List Int} {S : List (List (List (Int × Int)))} (h : MB2 n T F S Z) (hT : ∀ s ∈ T, okS s = true) (h8 : ∀ s ∈ T, s.length ≤ 8) (h4 : T.length ≤ 4) : OkR (encM T F S Z) 100000 5 := by
  have hn := h.n8
  refine (ok_l (n := 4) (s := 21288) (p := 4) (fun x hx => ?_) (Nat.le_refl _)).mono (by decide) (by decide)
  simp only [List.mem_cons, List.not_mem_nil, or_false] at hx
  rcases hx with rfl | rfl | rfl | rfl
  · exact (ok_ts (n := 4) hT h8 h4).mono (by decide) (by decide)
  · exact (ok_vec h.first (by decide) hn).mono (by decide) (by decide)
  · refine (ok_tup (f := encS) (n := 8) (s := 2660) (p := 3) (fun r hr => ?_) (by rw [h.s]; exact hn)).mono (by decide) (by decide)
    refine (ok_tup (f := encR) (n := 4) (s := 664) (p := 2) (fun R hR => ?_) (by rw [h.sl r hr]; exact h4)).mono (by decide) (by decide)
    exact (ok_tup (f := encP) (n := 8) (s := 82) (p := 1) (fun p hp => ok_P (h.sb r hr R hR p hp) (by omega)) (h.sr r hr R hR)).mono (by decide) (by decide)
  · exact (ok_vec (n := n) (b := 99) ⟨h.z, h.zb⟩ (by decide) hn).mono (by decide) (by decide)
theorem ok_chart {n : Nat} {S : Mv} {ls : List Nat} (hS : RowsB n S) (hn : n ≤ 8) (hl : ls.length ≤ 1000000) : OkR (chartD n S ls) 2632 2 :=
  ok_tup (n := 8) (s := 328) (p := 1) (fun i _ => ok_vec (runV_is hS (ls := ls) (unit_is (n := n) (i := i)) (by decide)) (by omega) hn) (by rw [List.length_range]; exact hn)
theorem ok_pair {d : FM.D} {s p : Nat} (h : OkR d s p) (hs : 8 ≤ s) : OkR (.tup [.str "told", d]) (2 * (s + 1)) (p + 1) :=
  ok_l (n := 2) (fun x hx => by
    simp only [List.mem_cons, List.not_mem_nil, or_false] at hx
    rcases hx with rfl | rfl
    · exact ok_told.mono hs (Nat.zero_le _)
    · exact h) (Nat.le_refl _)
end K16


set_option Elab.async false
set_option linter.all false
set_option maxRecDepth 100000
namespace K16
open PySem PySem.Spec PyProof.Rows L2 FM
local macro_rules | `(tactic| simp! [$ts,*]) => `(tactic| simp only [↓nx_mk, ↓rt_mk, ↓bk_mk, ↓ct_mk, ↓rt_E, ↓nx_E, slots_0, slots_c, consO_s, ↓T_got, ↓T_wp, ↓T_for, ↓T_comp, got_sT, got_nT, got_ifT, gm_s, o_addT, o_addLs, o_addSt, o_mulI2, o_repT, o_slT2, o_slL2, o_slS2, o_slC2, o_tupL, o_tupT, o_lstL, o_lstT, o_abs2, o_min2, o_ixS2, cut_to, cut_from, cut_neg, cut_last, stbL_take, stbL_drop, stbL_dl, stbL_rev, stbL_set, n_cast, ↓dRevT_e, ↓dRevL_e, ↓dRevU_e, ↓e_orE, Bool.and_eq_true, Int.reduceLT, Int.reduceLE,  ↓e_seq, ↓e_next, ↓e_brk, ↓e_cnt, ↓e_drop, ↓e_ret, ↓e_retN, ↓e_ifS, ↓e_raise, ↓e_nameN, ↓e_gtup, ↓e_gnil, ↓e_gcons, as_tup, ↓e_asg, ↓e_augN, ↓e_setIxN, ↓e_for, ↓e_var, ↓e_varB, ↓e_varUN, ↓e_movN, ↓e_c, ↓e_op, ↓e_opS, ↓e_ix, ↓e_ixB, ↓e_ixS, ↓e_pick, ↓e_nil, ↓e_cons, ↓e_tup, ↓e_lst, ↓e_cl, ↓e_appN, ↓e_knil, ↓e_kc, ↓e_kb, ↓e_km, ↓e_callM, ↓e_tE, ↓e_tTru, ↓e_tAnd, ↓e_tOr, ↓e_tNot, ↓e_and, ↓e_or, ↓e_not, ↓e_chain, ↓e_if, ↓e_neg, ↓e_sl, ↓e_so, ↓e_son, ↓e_rng1, ↓e_rng2, ↓e_compN, o_addI, o_subI, o_ltI, o_leI, o_gtI, o_geI, o_eqI, o_neI, o_eqS, o_neS, o_int, o_intB, o_lenT, o_lenL, o_asI, o_asB, o_own, o_ixT, o_ixL, atI_0, atI_1, atI_2, atI_3, slot_0, slot_s, e_argc, e_argb, e_argm, e_args0, e_argsC, Option.map_some, e_ms0, e_msc, e_msb, e_msm, e_bu0, e_buc, e_bum, e_bub, e_buM, e_put0, e_put1, e_frzI, e_frzS, e_frzB, e_stbI, e_stbS, e_stbB, s_tup, s_lf, s_lt, s_nil, s_cons, s_app, s_map, s_non, s_cls, s_scr, fz_scr, fz_cls, fz_tup, fz_lst, fz_nil, fz_cons, fz_map, fz_non, nf_map, nf_tup, nf_lt, nf_int, nf_str, nf_bl, nf_non, nf_nil, nf_cons, small_iff, o_truB, ↓it_tup, ↓it_lst, ↓it_str, ↓it_or, hid_0, hid_c, hid_n, hid_s, wipe_0, wipe_c, back_0, back_c, ↓t_yes, List.all_cons, List.all_nil, List.cons_append, List.nil_append, List.length_cons, List.length_nil, List.length_map, set_0, set_s, ap_d, len_0, len_s, List.nodup_nil, Bool.and_true, Bool.true_and, Bool.and_self, Bool.not_true, Bool.not_false, Bool.false_eq_true, if_true, if_false, decide_true, decide_false, decide_eq_true_eq, true_and, and_true, and_false, false_and, or_false, false_or, true_or, Nat.reduceAdd, Nat.reduceLT, Nat.reduceLeDiff, Nat.reduceEqDiff, Nat.zero_add, List.nodup_cons, List.not_mem_nil, not_false_eq_true, or_true, or_self, implies_true, ↓e_wk, ↓e_dfrz, wk_int, wk_str, wk_bl, wk_non, wk_tup, wk_lst, wk_txs, wk_rng, wk_cls, wk_scr, wk_ts, s_txs, s_rng, s_ts, fz_txs, fz_rng, fz_ts, ↓it_any, it_ts, ↓it_enum, ↓it_zip, sk_tup, sk_lst, ↓e_mt, p_tx1, p_tx2, p_tx3, p_ls1, p_ls2, p_ls3, ↓e_ext, o_lstO, ↓e_appIx, o_minD, ↓e_callX, o_nm, o_rg1, and_self, Int.reduceAdd, Int.reduceNeg, $ts,*])
theorem cut_mid {xs : List FM.D} {n m : Nat} (h : n ≤ m) (h2 : m ≤ xs.length) : FM.cutD xs (some (n : Int)) (some (m : Int)) = (xs.drop n).take (m - n) := by
  unfold FM.cutD
  have e1 := HT.sIx_nat xs.length 0 n
  have e2 := HT.sIx_nat xs.length xs.length m
  rw [e1, e2, Nat.min_eq_left (show n ≤ xs.length by omega), Nat.min_eq_left h2]
theorem all_in {T W : List Str} (h : ∀ z ∈ W, z ∈ T) : (W.all fun z => T.any fun y => y == z) = true :=
  List.all_eq_true.mpr fun z hz => List.any_eq_true.mpr ⟨z, h z hz, beq_self_eq_true z⟩
theorem log_ok {T W : List Str} (h : ∀ z ∈ W, z ∈ T) (hl : W.length ≤ 400) : logOk T W = true := by
  unfold logOk
  rw [decide_eq_true hl, all_in h]; rfl
theorem log_q {T W : List Str} (h : ∀ s ∈ T, okS s = true) : logOk T (W ++ [("q" : Str)]) = false := by
  unfold logOk
  have e : (T.any fun y => y == ("q" : Str)) = false := by
    rw [List.any_eq_false]
    intro y hy e
    exact okS_q (h y hy) (eq_of_beq e)
  rw [List.all_append, List.all_cons, e, Bool.false_and, Bool.and_false, Bool.and_false]
theorem log_long {T W : List Str} (h : 400 < W.length) : logOk T W = false := by
  unfold logOk
  rw [decide_eq_false (by omega)]; rfl
theorem rep_str {k : Nat} {z : Str} : repD k [.str z] = (List.replicate k z).map FM.D.str := by
  unfold repD
  rw [List.map_replicate]
  induction k with
  | zero => rfl
  | succ k ih => rw [List.replicate_succ, List.flatten_cons, ih, List.replicate_succ]; rfl
theorem ts_map {W : List Str} : wk (tsD W) = .tup (W.map FM.D.str) := by cases W <;> rfl
theorem ref2 : uNe (.lst true [.str ("refused" : Str), .str ("refused" : Str)]) (.lst true (repD (2 : Int).toNat [.str ("refused" : Str)])) = some (.bl false) := nr (by
  have := neTx (o := true) (p := true) (xs := [("refused" : Str), ("refused" : Str)]) (ys := [("refused" : Str), ("refused" : Str)]) (by decide +kernel) (by decide +kernel)
  rw [decide_eq_true rfl] at this
  exact this)
theorem stb_ch {n : Nat} {S : Mv} {ls : List Nat} : stb (chartD n S ls) = true := nr (by unfold chartD; rw [s_tup]; exact s_map fun _ => stb_V _)
theorem fz_ch {n : Nat} {S : Mv} {ls : List Nat} : frz (chartD n S ls) = chartD n S ls := frz_stb _ stb_ch
theorem end_bd {n : Nat} {b c : Int} {f z : List Int} (hf : IsV n b f) (hz : IsV n c z) (h0 : 0 ≤ b + c) : -1 ≤ endV f z ∧ endV f z ≤ b + c := by
  unfold endV
  rcases low_cases (sums2 f z) with ⟨_, e⟩ | ⟨e, _⟩
  · rw [e]; omega
  · obtain ⟨k, x, y, h1, h2, h3, h4, e2⟩ := sums2_mem.mp e
    have := hf.2 x (List.mem_of_getElem? h1)
    have := hz.2 y (List.mem_of_getElem? h2)
    rw [e2]; omega
theorem wp_law (ns : List Int) (h : ns.length ≤ 63) : fs_law.wp [.scr ns] (fun d _ => d = .bl true) (fun _ => False) := by
  show tb_law (rtE [] (fun d _ => d = .bl true)) (fun _ => False) [some (.scr ns), none, none, none, none, none, none, none, none, none, none]
  unfold tb_law
  simp! []
  refine ⟨rfl, wpI (wp_stream h fun L hL hl => ?_)⟩
  have hl2 : L.length < 1073741824 := by omega
  simp! []
  refine ⟨⟨by decide, by decide⟩, forI (for_inv (fun j r => ∃ (k' : Int) (a b c d e f g : Option FM.D), r = [some (.scr ns), some (sD L k'), a, b, c, d, e, f, g, none, none] ∧ 0 ≤ k' ∧ k' ≤ 4000 * j) ⟨0, none, none, none, none, none, none, none, rfl, by omega, by omega⟩ ?_ ?_)⟩
  · rintro j d r kk hd ⟨k', a, b, c, d1, e1, f1, g1, rfl, h1, h2⟩ hkk
    obtain ⟨rfl, hj⟩ := rng0_at hd
    obtain ⟨mo, em, m, rfl, m1, m2⟩ := pick_in (α := FM.D) (P := fun d => ∃ v : Int, d = FM.D.int v ∧ 0 < v ∧ v ≤ 8) (xs := [.int 3, .int 5, .int 8]) (i := (j : Int)) (fun x hx => by
      simp only [List.mem_cons, List.not_mem_nil, or_false] at hx
      rcases hx with rfl | rfl | rfl
      · exact ⟨_, rfl, by decide, by decide⟩
      · exact ⟨_, rfl, by decide, by decide⟩
      · exact ⟨_, rfl, by decide, by decide⟩) (by omega) (by simp only [List.length_cons, List.length_nil]; omega)
    simp! [em]
    refine ⟨rfl, wpI (wp_some hL hl2 (by omega) (by omega) m1 m2 fun T F S Z n k1 k2 k3 hT4 hT8 hTo hn0 M => ?_)⟩
    have e0 : FM.ixD (encM T F S Z) (.int 0) = some (tsD T) := rfl
    have e4 : wk (encM T F S Z) = encM T F S Z := rfl
    have hT := M.t1
    have hTl : 0 < T.length := List.length_pos_iff.mpr hT
    have sT : stb (tsD T) = true := s_ts
    have fT : frz (tsD T) = tsD T := frz_stb _ sT
    simp! [e0, e4, sT, fT]
    refine ⟨rfl, wpI (wp_next hL hl2 (by omega) (by omega) (by decide) fun y hy hy2 => ?_)⟩
    simp! [fT]
    refine ⟨rfl, wpI (wp_log hL hl2 (by omega) (by omega) (by omega) (by omega) hT (by omega) fun W k5 k6 k7 hW hWT => ?_)⟩
    have hW30 : W.length ≤ 30 := by omega
    have sW : stb (tsD W) = true := s_ts
    have fW : frz (tsD W) = tsD W := frz_stb _ sW
    have okM := ok_M M hTo hT8 hT4
    have okW : OkR (tsD W) 270 1 := ok_ts (fun s hs => hTo s (hWT s hs)) (fun s hs => hT8 s (hWT s hs)) hW30
    have okP : OkR (.tup [encM T F S Z, tsD W]) 200002 6 := ok_l (n := 2) (s := 100000) (p := 5) (fun x hx => by
      simp only [List.mem_cons, List.not_mem_nil, or_false] at hx
      rcases hx with rfl | rfl
      · exact okM
      · exact okW.mono (by decide) (by decide)) (Nat.le_refl _)
    have eR : gRepr [.tup [encM T F S Z, tsD W]] = some (.str (rep (.tup [encM T F S Z, tsD W]))) := o_repr rfl okP.o (Nat.le_trans okP.z (by decide)) (Nat.le_trans okP.d (by decide))
    simp! [stb_M, fz_M, sW, fW, eR, ts_map]
    refine ⟨rfl, wpI (wp_next hL hl2 (by omega) (by omega) (by omega) fun one o1 o2 => ?_)⟩
    obtain ⟨n1, rfl⟩ : ∃ n1 : Nat, one = n1 := ⟨one.toNat, by omega⟩
    simp! [stb_M, fz_M, sW, fW, ts_map]
    refine ⟨rfl, wpI (wp_next hL hl2 (by omega) (by omega) (by omega) fun df d1 d2 => ?_)⟩
    obtain ⟨n2, e2⟩ : ∃ n2 : Nat, (n1 : Int) + df = n2 := ⟨((n1 : Int) + df).toNat, by omega⟩
    simp! [stb_M, fz_M, sW, fW, ts_map, e2]
    have hn12 : n1 ≤ n2 := by omega
    have hn2l : n2 ≤ W.length := by omega
    have hc1 : frzL (List.take n1 (List.map FM.D.str W)) = (W.take n1).map FM.D.str := by rw [← List.map_take]; exact fz_map fun _ => rfl
    have hc2 : frzL (FM.cutD (List.map FM.D.str W) (some (n1 : Int)) (some (n2 : Int))) = ((W.drop n1).take (n2 - n1)).map FM.D.str := by rw [cut_mid hn12 (by rw [List.length_map]; exact hn2l), ← List.map_drop, ← List.map_take]; exact fz_map fun _ => rfl
    have hc3 : frzL (List.drop n2 (List.map FM.D.str W)) = (W.drop n2).map FM.D.str := by rw [← List.map_drop]; exact fz_map fun _ => rfl
    rw [hc1, hc2, hc3]
    have parts : ∀ p ∈ ([(W.take n1, .tup ((W.take n1).map FM.D.str)), ((W.drop n1).take (n2 - n1), .tup (((W.drop n1).take (n2 - n1)).map FM.D.str)), (W.drop n2, .tup ((W.drop n2).map FM.D.str)), (W, tsD W)] : List (List Str × FM.D)), isLg p.1 p.2 ∧ (∀ z ∈ p.1, z ∈ T) ∧ p.1.length ≤ 800 := fun p hp => by
      simp only [List.mem_cons, List.not_mem_nil, or_false] at hp
      rcases hp with rfl | rfl | rfl | rfl
      · exact ⟨.inr rfl, fun z hz => hWT z (List.mem_of_mem_take hz), by simp only [List.length_take]; omega⟩
      · exact ⟨.inr rfl, fun z hz => hWT z (List.mem_of_mem_drop (List.mem_of_mem_take hz)), by simp only [List.length_take, List.length_drop]; omega⟩
      · exact ⟨.inr rfl, fun z hz => hWT z (List.mem_of_mem_drop hz), by simp only [List.length_drop]; omega⟩
      · exact ⟨.inl rfl, hWT, show W.length ≤ 800 by omega⟩
    have hS := M.sb
    have hn8 := M.n8
    have sc : ∀ ls, stb (chartD n S ls) = true := fun ls => stb_ch
    have fc : ∀ ls, frz (chartD n S ls) = chartD n S ls := fun ls => fz_ch
    refine compI (comp_map (enc := fun p : List Str × FM.D => p.2) (f := fun p => chartD n S (p.1.map (ixS T))) [(W.take n1, .tup ((W.take n1).map FM.D.str)), ((W.drop n1).take (n2 - n1), .tup (((W.drop n1).take (n2 - n1)).map FM.D.str)), (W.drop n2, .tup ((W.drop n2).map FM.D.str)), (W, tsD W)] [] _ (fun p hp k hk => ?_) ?_)
    · obtain ⟨q1, q2, q3⟩ := parts p hp
      have q4 := lg_stb q1
      have q5 : frz p.2 = p.2 := frz_stb _ q4
      simp! [q4, q5, stb_M, fz_M]
      refine ⟨rfl, wpI (wp_lchart M q1 q2 q3 ?_)⟩
      simp! [q4, stb_M, sc]
      exact hk
    have em : ([(W.take n1, .tup ((W.take n1).map FM.D.str)), ((W.drop n1).take (n2 - n1), .tup (((W.drop n1).take (n2 - n1)).map FM.D.str)), (W.drop n2, .tup ((W.drop n2).map FM.D.str)), (W, tsD W)] : List (List Str × FM.D)).map (fun p => chartD n S (p.1.map (ixS T))) = [chartD n S ((W.take n1).map (ixS T)), chartD n S (((W.drop n1).take (n2 - n1)).map (ixS T)), chartD n S ((W.drop n2).map (ixS T)), chartD n S (W.map (ixS T))] := rfl
    rw [List.nil_append, em]
    clear em parts
    have eW : (W.take n1).map (ixS T) ++ ((W.drop n1).take (n2 - n1)).map (ixS T) ++ (W.drop n2).map (ixS T) = W.map (ixS T) := by
      rw [← List.map_append, ← List.map_append]
      congr 1
      rw [List.append_assoc]
      have : ((W.drop n1).take (n2 - n1)) ++ W.drop n2 = W.drop n1 := by
        have e := List.take_append_drop (n2 - n1) (W.drop n1)
        rw [List.drop_drop, show n1 + (n2 - n1) = n2 by omega] at e
        exact e
      rw [this, List.take_append_drop]
    generalize (W.take n1).map (ixS T) = l0 at *
    generalize ((W.drop n1).take (n2 - n1)).map (ixS T) = l1 at *
    generalize (W.drop n2).map (ixS T) = l2 at *
    have lk := log_ok hWT (show W.length ≤ 400 by omega)
    have okC : OkR (chartD n S (W.map (ixS T))) 2632 2 := ok_chart hS hn8 (by rw [List.length_map]; omega)
    have okT := ok_pair okC (by decide)
    have sT2 : stb (.tup [.str "told", chartD n S (W.map (ixS T))]) = true := by rw [s_tup, s_cons, s_cons, sc]; rfl
    have hz : IsV n 99 Z := ⟨M.z, M.zb⟩
    have eb := end_bd (runV_is hS (ls := W.map (ixS T)) M.first (by decide)) hz (by omega)
    have hlW : (W.map (ixS T)).length ≤ 30 := by rw [List.length_map]; exact hW30
    have okE := ok_pair ((ok_int (x := endV (runV S (W.map (ixS T)) F) Z) (by omega))) (by decide)
    have lim : ∀ {d : FM.D}, OkR d 100000 60 → szD d ≤ 1000000 ∧ dpD d ≤ 60 := fun o => ⟨Nat.le_trans o.z (by decide), o.d⟩
    simp! [sc, fc, stb_M, fz_M, sW, fW]
    refine ⟨rfl, wpI (wp_told0 M (by omega) (.inl rfl) (fun _ => rfl) (fun _ => ?_) fun no => ?_)⟩
    case refine_2 => rw [lk] at no; cases no
    simp! [sc, fc, stb_M, fz_M, sW, fW]
    refine ⟨rfl, wpI (wp_same sT2 okT.o (lim (okT.mono (by decide) (by decide))).1 (lim (okT.mono (by decide) (by decide))).2 ?_)⟩
    simp! [sc, fc, stb_M, fz_M, sW, fW]
    have facts : True := trivial
    refine ⟨rfl, wpI (wp_told1 M ?_)⟩
    simp! [sc, fc, stb_M, fz_M, sW, fW]
    refine ⟨rfl, wpI (wp_lfare M hWT (by omega) ?_)⟩
    simp! [sc, fc, stb_M, fz_M, sW, fW]
    refine ⟨rfl, wpI (wp_same rfl okE.o (lim (okE.mono (by decide) (by decide))).1 (lim (okE.mono (by decide) (by decide))).2 ?_)⟩
    simp! [sc, fc, stb_M, fz_M, sW, fW]
    refine ⟨rfl, wpI (wp_product hS hn8 ?_)⟩
    simp! [sc, fc, stb_M, fz_M, sW, fW]
    refine ⟨rfl, wpI (wp_product hS hn8 ?_)⟩
    simp! [sc, fc, stb_M, fz_M, sW, fW, eW]
    refine ⟨rfl, wpI (wp_same (sc _) okC.o (lim (okC.mono (by decide) (by decide))).1 (lim (okC.mono (by decide) (by decide))).2 ?_)⟩
    simp! [sc, fc, stb_M, fz_M, sW, fW]
    refine ⟨rfl, wpI (wp_product hS hn8 ?_)⟩
    simp! [sc, fc, stb_M, fz_M, sW, fW]
    refine ⟨rfl, wpI (wp_product hS hn8 ?_)⟩
    have eW2 : l0 ++ (l1 ++ l2) = W.map (ixS T) := by rw [← List.append_assoc]; exact eW
    simp! [sc, fc, stb_M, fz_M, sW, fW, eW2]
    refine ⟨rfl, wpI (wp_same (sc _) okC.o (lim (okC.mono (by decide) (by decide))).1 (lim (okC.mono (by decide) (by decide))).2 ?_)⟩
    simp! [sc, fc, stb_M, fz_M, sW, fW]
    have ok0 : OkR (chartD n S ([].map (ixS T))) 2632 2 := ok_chart hS hn8 (Nat.zero_le _)
    have okT0 := ok_pair ok0 (by decide)
    have sT0 : stb (.tup [.str "told", chartD n S ([].map (ixS T))]) = true := by rw [s_tup, s_cons, s_cons, sc]; rfl
    refine ⟨rfl, wpI (wp_told0 (W := []) (lg := .tup []) M (by decide) (.inr rfl) (fun _ => rfl) (fun _ => ?_) fun no => ?_)⟩
    case refine_2 => cases no
    simp! [sc, fc, stb_M, fz_M, sW, fW]
    refine ⟨rfl, wpI (wp_lchart (W := []) (lg := .tup []) M (.inr rfl) (fun z hz => (nomatch hz)) (by decide) ?_)⟩
    simp! [sc, fc, stb_M, fz_M, sW, fW]
    refine ⟨rfl, wpI (wp_same sT0 okT0.o (lim (okT0.mono (by decide) (by decide))).1 (lim (okT0.mono (by decide) (by decide))).2 ?_)⟩
    obtain ⟨z, hz⟩ : ∃ z, T[0]? = some z := ⟨T[0], List.getElem?_eq_getElem hTl⟩
    have ez : atI (T.map FM.D.str) 0 = some (.str z) := atI_map (f := FM.D.str) (n := 0) hz
    have eT : wk (tsD T) = .tup (T.map FM.D.str) := ts_map
    have lq := log_q (W := W) hTo
    have ll : logOk T (List.replicate 401 z) = false := log_long (by rw [List.length_replicate]; decide)
    have e401 : repD (401 : Int).toNat [FM.D.str z] = (List.replicate 401 z).map FM.D.str := rep_str
    have eq1 : W.map FM.D.str ++ [FM.D.str "q"] = (W ++ [("q" : Str)]).map FM.D.str := map_snocS W "q"
    simp! [sc, fc, stb_M, fz_M, sW, fW, e0, e4, ez, eT, ts_map, e401, eq1]
    have sq : stb (.tup ((W ++ [("q" : Str)]).map FM.D.str)) = true := by rw [s_tup]; exact s_map fun _ => rfl
    have s401 : stb (.tup ((List.replicate 401 z).map FM.D.str)) = true := by rw [s_tup]; exact s_map fun _ => rfl
    refine ⟨by omega, List.cons_ne_nil _ _, compI (comp_map (enc := fun p : List Str => .tup (p.map FM.D.str)) (f := fun _ => FM.D.str "refused") [W ++ [("q" : Str)], List.replicate 401 z] [] _ (fun p hp k hk => ?_) ?_)⟩
    · have q1 : logOk T p = false ∧ p.length ≤ 1000 := by
        simp only [List.mem_cons, List.not_mem_nil, or_false] at hp
        rcases hp with rfl | rfl
        · exact ⟨lq, by rw [List.length_append, List.length_cons, List.length_nil]; omega⟩
        · exact ⟨ll, by rw [List.length_replicate]; decide⟩
      have q4 : stb (.tup (p.map FM.D.str)) = true := by rw [s_tup]; exact s_map fun _ => rfl
      have q5 : frz (.tup (p.map FM.D.str)) = .tup (p.map FM.D.str) := frz_stb _ q4
      simp! [q4, q5, stb_M, fz_M]
      refine ⟨rfl, wpI (wp_told0 (W := p) M (by omega) (.inr rfl) (fun ok => ?_) (fun ok => ?_) fun _ => ?_)⟩
      · rw [q1.1] at ok; cases ok
      · rw [q1.1] at ok; cases ok
      · simp! [q4, q5, stb_M, fz_M]
        exact hk
    have em2 : ([W ++ [("q" : Str)], List.replicate 401 z]).map (fun _ => FM.D.str ("refused" : Str)) = [.str ("refused" : Str), .str ("refused" : Str)] := rfl
    rw [List.nil_append, em2]
    show apT _ _ _
    simp! [o_repL, ref2]
    refine ⟨by decide, ?_⟩
    simp! [sW, stb_M, eR, fz_M, fW]
    exact hkk _ ⟨_, _, _, _, _, _, _, _, rfl, by omega, by omega⟩
  · rintro r ⟨k', a, b, c, d1, e1, f1, g1, rfl, h1, h2⟩
    simp! []
end K16


open PySem PySem.W PyProof.Rows
set_option maxRecDepth 100000 in
set_option maxHeartbeats 8000000 in
theorem PySem.Challenge.cw_faremachines_k16_charts_of_logs_holds : PySem.Challenge.rw_faremachines_k16_charts_of_logs.Holds := by
  w_on; o_law; k_head; (case hw => w_witness2)
  k_fill
  refine FM.law_end (l := PySem.Challenge.rw_faremachines_k16_charts_of_logs) (n := 63) (k := 6) (x := "script") (fs := K16.fs_law) rfl (by decide) rfl ⟨rfl, by decide, by decide⟩ ⟨rfl, rfl⟩ K16.wp_law (fun w h Y => PySem.W.kIn_of Y) ?F
  case F =>
    intro w mg fa h KX G hmg
    refine' K16.all_mk KX G hmg ?a9 ?l9 ?c9 ?k9 ?a10 ?l10 ?c10 ?k10 ?a13 ?l13 ?c13 ?k13 ?a14 ?l14 ?c14 ?k14 ?a15 ?l15 ?c15 ?k15 ?a16 ?l16 ?c16 ?k16 ?a17 ?l17 ?c17 ?k17 ?a19 ?l19 ?c19 ?k19 ?a20 ?l20 ?c20 ?k20 ?a21 ?l21 ?c21 ?k21 ?a23 ?l23 ?c23 ?k23 ?a24 ?l24 ?c24 ?k24 ?a25 ?l25 ?c25 ?k25 ?a26 ?l26 ?c26 ?k26 ?a27 ?l27 ?c27 ?k27 ?a28 ?l28 ?c28 ?k28 ?a29 ?l29 ?c29 ?k29 ?a30 ?l30 ?c30 ?k30 ?a31 ?l31 ?c31 ?k31 ?a32 ?l32 ?c32 ?k32 ?a33 ?l33 ?c33 ?k33 ?a34 ?l34 ?c34 ?k34 ?a35 ?l35 ?c35 ?k35 ?a36 ?l36 ?c36 ?k36 ?a37 ?l37 ?c37 ?k37 ?a38 ?l38 ?c38 ?k38 ?a39 ?l39 ?c39 ?k39 ?z_abs ?z_all ?z_enumerate ?z_int ?z_isinstance ?z_len ?z_min ?z_range ?z_repr ?z_sum ?z_tuple ?z_zip ?n_MAX_LOG ?n_NONE ?q_FareError ?b_FareError ?t_FareError ?i_FareError ?s_FareError ?q_NotAllowed ?b_NotAllowed ?t_NotAllowed ?i_NotAllowed ?s_NotAllowed ?q_TooLarge ?b_TooLarge ?t_TooLarge ?i_TooLarge ?s_TooLarge ?q_Missing ?b_Missing ?t_Missing ?i_Missing ?s_Missing ?q_BadPaper ?b_BadPaper ?t_BadPaper ?i_BadPaper ?s_BadPaper ?q_BadForm ?b_BadForm ?t_BadForm ?i_BadForm ?s_BadForm ?x_NotAllowed ?w_NotAllowed ?ob1 ?ob2 ?e1_FareError ?e2_FareError ?e3_FareError ?e4_FareError ?e5_FareError ?u_FareError_NotAllowed ?u_FareError_TooLarge ?u_FareError_Missing ?u_FareError_BadPaper ?u_FareError_BadForm ?e1_NotAllowed ?e2_NotAllowed ?e3_NotAllowed ?e4_NotAllowed ?e5_NotAllowed ?u_NotAllowed_FareError ?u_NotAllowed_TooLarge ?u_NotAllowed_Missing ?u_NotAllowed_BadPaper ?u_NotAllowed_BadForm ?e1_TooLarge ?e2_TooLarge ?e3_TooLarge ?e4_TooLarge ?e5_TooLarge ?u_TooLarge_FareError ?u_TooLarge_NotAllowed ?u_TooLarge_Missing ?u_TooLarge_BadPaper ?u_TooLarge_BadForm ?e1_Missing ?e2_Missing ?e3_Missing ?e4_Missing ?e5_Missing ?u_Missing_FareError ?u_Missing_NotAllowed ?u_Missing_TooLarge ?u_Missing_BadPaper ?u_Missing_BadForm ?e1_BadPaper ?e2_BadPaper ?e3_BadPaper ?e4_BadPaper ?e5_BadPaper ?u_BadPaper_FareError ?u_BadPaper_NotAllowed ?u_BadPaper_TooLarge ?u_BadPaper_Missing ?u_BadPaper_BadForm
    (case a9 => k_is)
    (case l9 => k_is)
    (case c9 => k_is)
    (case k9 => k_is)
    (case a10 => k_is)
    (case l10 => k_is)
    (case c10 => k_is)
    (case k10 => k_is)
    (case a13 => k_is)
    (case l13 => k_is)
    (case c13 => k_is)
    (case k13 => k_is)
    (case a14 => k_is)
    (case l14 => k_is)
    (case c14 => k_is)
    (case k14 => k_is)
    (case a15 => k_is)
    (case l15 => k_is)
    (case c15 => k_is)
    (case k15 => k_is)
    (case a16 => k_is)
    (case l16 => k_is)
    (case c16 => k_is)
    (case k16 => k_is)
    (case a17 => k_is)
    (case l17 => k_is)
    (case c17 => k_is)
    (case k17 => k_is)
    (case a19 => k_is)
    (case l19 => k_is)
    (case c19 => k_is)
    (case k19 => k_is)
    (case a20 => k_is)
    (case l20 => k_is)
    (case c20 => k_is)
    (case k20 => k_is)
    (case a21 => k_is)
    (case l21 => k_is)
    (case c21 => k_is)
    (case k21 => k_is)
    (case a23 => k_is)
    (case l23 => k_is)
    (case c23 => k_is)
    (case k23 => k_is)
    (case a24 => k_is)
    (case l24 => k_is)
    (case c24 => k_is)
    (case k24 => k_is)
    (case a25 => k_is)
    (case l25 => k_is)
    (case c25 => k_is)
    (case k25 => k_is)
    (case a26 => k_is)
    (case l26 => k_is)
    (case c26 => k_is)
    (case k26 => k_is)
    (case a27 => k_is)
    (case l27 => k_is)
    (case c27 => k_is)
    (case k27 => k_is)
    (case a28 => k_is)
    (case l28 => k_is)
    (case c28 => k_is)
    (case k28 => k_is)
    (case a29 => k_is)
    (case l29 => k_is)
    (case c29 => k_is)
    (case k29 => k_is)
    (case a30 => k_is)
    (case l30 => k_is)
    (case c30 => k_is)
    (case k30 => k_is)
    (case a31 => k_is)
    (case l31 => k_is)
    (case c31 => k_is)
    (case k31 => k_is)
    (case a32 => k_is)
    (case l32 => k_is)
    (case c32 => k_is)
    (case k32 => k_is)
    (case a33 => k_is)
    (case l33 => k_is)
    (case c33 => k_is)
    (case k33 => k_is)
    (case a34 => k_is)
    (case l34 => k_is)
    (case c34 => k_is)
    (case k34 => k_is)
    (case a35 => k_is)
    (case l35 => k_is)
    (case c35 => k_is)
    (case k35 => k_is)
    (case a36 => k_is)
    (case l36 => k_is)
    (case c36 => k_is)
    (case k36 => k_is)
    (case a37 => k_is)
    (case l37 => k_is)
    (case c37 => k_is)
    (case k37 => k_is)
    (case a38 => k_is)
    (case l38 => k_is)
    (case c38 => k_is)
    (case k38 => k_is)
    (case a39 => k_is)
    (case l39 => k_is)
    (case c39 => k_is)
    (case k39 => k_is)
    (case z_abs => k_is)
    (case z_all => k_is)
    (case z_enumerate => k_is)
    (case z_int => k_is)
    (case z_isinstance => k_is)
    (case z_len => k_is)
    (case z_min => k_is)
    (case z_range => k_is)
    (case z_repr => k_is)
    (case z_sum => k_is)
    (case z_tuple => k_is)
    (case z_zip => k_is)
    (case n_MAX_LOG => k_is)
    (case n_NONE => k_is)
    (case q_FareError => k_is)
    (case b_FareError => k_is)
    (case t_FareError => k_is)
    (case i_FareError => k_is)
    (case s_FareError => first | rfl | k_is)
    (case q_NotAllowed => k_is)
    (case b_NotAllowed => k_is)
    (case t_NotAllowed => k_is)
    (case i_NotAllowed => k_is)
    (case s_NotAllowed => first | rfl | k_is)
    (case q_TooLarge => k_is)
    (case b_TooLarge => k_is)
    (case t_TooLarge => k_is)
    (case i_TooLarge => k_is)
    (case s_TooLarge => first | rfl | k_is)
    (case q_Missing => k_is)
    (case b_Missing => k_is)
    (case t_Missing => k_is)
    (case i_Missing => k_is)
    (case s_Missing => first | rfl | k_is)
    (case q_BadPaper => k_is)
    (case b_BadPaper => k_is)
    (case t_BadPaper => k_is)
    (case i_BadPaper => k_is)
    (case s_BadPaper => first | rfl | k_is)
    (case q_BadForm => k_is)
    (case b_BadForm => k_is)
    (case t_BadForm => k_is)
    (case i_BadForm => k_is)
    (case s_BadForm => first | rfl | k_is)
    (case x_NotAllowed => k_exc)
    (case w_NotAllowed => k_is)
    (case ob1 => k_is)
    (case ob2 => k_is)
    (case e1_FareError => k_is)
    (case e2_FareError => k_is)
    (case e3_FareError => k_is)
    (case e4_FareError => k_is)
    (case e5_FareError => k_is)
    (case u_FareError_NotAllowed => k_is)
    (case u_FareError_TooLarge => k_is)
    (case u_FareError_Missing => k_is)
    (case u_FareError_BadPaper => k_is)
    (case u_FareError_BadForm => k_is)
    (case e1_NotAllowed => k_is)
    (case e2_NotAllowed => k_is)
    (case e3_NotAllowed => k_is)
    (case e4_NotAllowed => k_is)
    (case e5_NotAllowed => k_is)
    (case u_NotAllowed_FareError => k_is)
    (case u_NotAllowed_TooLarge => k_is)
    (case u_NotAllowed_Missing => k_is)
    (case u_NotAllowed_BadPaper => k_is)
    (case u_NotAllowed_BadForm => k_is)
    (case e1_TooLarge => k_is)
    (case e2_TooLarge => k_is)
    (case e3_TooLarge => k_is)
    (case e4_TooLarge => k_is)
    (case e5_TooLarge => k_is)
    (case u_TooLarge_FareError => k_is)
    (case u_TooLarge_NotAllowed => k_is)
    (case u_TooLarge_Missing => k_is)
    (case u_TooLarge_BadPaper => k_is)
    (case u_TooLarge_BadForm => k_is)
    (case e1_Missing => k_is)
    (case e2_Missing => k_is)
    (case e3_Missing => k_is)
    (case e4_Missing => k_is)
    (case e5_Missing => k_is)
    (case u_Missing_FareError => k_is)
    (case u_Missing_NotAllowed => k_is)
    (case u_Missing_TooLarge => k_is)
    (case u_Missing_BadPaper => k_is)
    (case u_Missing_BadForm => k_is)
    (case e1_BadPaper => k_is)
    (case e2_BadPaper => k_is)
    (case e3_BadPaper => k_is)
    (case e4_BadPaper => k_is)
    (case e5_BadPaper => k_is)
    (case u_BadPaper_FareError => k_is)
    (case u_BadPaper_NotAllowed => k_is)
    (case u_BadPaper_TooLarge => k_is)
    (case u_BadPaper_Missing => k_is)
    (case u_BadPaper_BadForm => k_is)
