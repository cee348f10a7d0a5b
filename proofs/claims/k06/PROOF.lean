import PyProof.Rows.All
import HandS.ForMost
import HandS.IsInst
import HandS.Wide
import HandS.Deep
import HandS.Walk
import HandS.Zip
import PyProof.ReprReads
import PyProof.ReprRoads
import HandS.Conv
import HandS.Style
import HandS.SortInts
import HandS.SetFor
import HandS.Strs
import KE.KUnpack
import HandS.SetBool
import HandS.Star
import HandS.Set
import HandS.WideMore
import PySem.Challenge.RW_valuesmoved_k06_rows_alike_and_turned
set_option Elab.async false
set_option linter.all false
set_option maxRecDepth 100000
set_option maxHeartbeats 2000000
namespace VL
open PySem PySem.Spec PyProof.Rows L2

abbrev D := PyData
/-! ### data in a heap -/
mutual
inductive Dv (K : PySem.W.Frag) (G : Hp) : V → D → Prop
  | non : Dv K G .non .none
  | bl (b : Bool) : Dv K G (.bl b) (.bool b)
  | int (i : Int) : Dv K G (.int i) (.int i)
  | str (x : Str) : Dv K G (.str x) (.str x)
  | lst {a : Addr} {xs : List V} {ds : List D} : SqL K G a xs → DvA K G xs ds → Dv K G (.ref a) (.list ds)
  | tup {a : Addr} {xs : List V} {ds : List D} : SqT K G a xs → DvA K G xs ds → Dv K G (.ref a) (.tuple ds)
  | dct {a : Addr} : G a = some (.dK []) → Dv K G (.ref a) (.dict [])
inductive DvA (K : PySem.W.Frag) (G : Hp) : List V → List D → Prop
  | nil : DvA K G [] []
  | cons {v : V} {vs : List V} {d : D} {ds : List D} : Dv K G v d → DvA K G vs ds → DvA K G (v :: vs) (d :: ds)
end
theorem rd_mono {G H : Hp} {a : Addr} {u : HO} (e : Same G H) (h : Rd G a u) : Rd H a u := by
  rcases h with h | ⟨o, h⟩
  · exact .inl (e a _ h)
  · exact .inr ⟨o, e a _ h⟩
theorem sqt_mono {K : PySem.W.Frag} {G H : Hp} {a : Addr} {xs : List V} (e : Same G H) (h : SqT K G a xs) : SqT K H a xs := by
  rcases h with h | h
  · exact .inl (rd_mono e h)
  · exact .inr h
section
variable {K : PySem.W.Frag} {G H : Hp}
mutual
theorem Dv.mono (e : Same G H) : ∀ {v : V} {d : D}, Dv K G v d → Dv K H v d
  | _, _, .non => .non
  | _, _, .bl b => .bl b
  | _, _, .int i => .int i
  | _, _, .str x => .str x
  | _, _, .lst h t => .lst (e.seq h) (DvA.mono e t)
  | _, _, .tup h t => .tup (sqt_mono e h) (DvA.mono e t)
  | _, _, .dct h => .dct (e _ _ h)
theorem DvA.mono (e : Same G H) : ∀ {vs : List V} {ds : List D}, DvA K G vs ds → DvA K H vs ds
  | _, _, .nil => .nil
  | _, _, .cons h t => .cons (Dv.mono e h) (DvA.mono e t)
end
theorem DvA.length : ∀ {vs : List V} {ds : List D}, DvA K G vs ds → vs.length = ds.length
  | _, _, .nil => rfl
  | _, _, .cons _ t => congrArg (· + 1) (DvA.length t)
theorem DvA.get : ∀ {vs : List V} {ds : List D} {i : Nat} {d : D}, DvA K G vs ds → ds[i]? = some d → ∃ v, vs[i]? = some v ∧ Dv K G v d
  | _, _, _, _, .nil, h => by simp at h
  | _, _, 0, _, .cons h _, e => by
    simp at e
    subst e
    exact ⟨_, rfl, h⟩
  | _, _, i + 1, _, .cons _ t, e => by
    obtain ⟨v, h1, h2⟩ := DvA.get (i := i) t (by simpa using e)
    exact ⟨v, by simpa using h1, h2⟩
theorem DvA.getV : ∀ {vs : List V} {ds : List D} {i : Nat} {v : V}, DvA K G vs ds → vs[i]? = some v → ∃ d, ds[i]? = some d ∧ Dv K G v d
  | _, _, _, _, .nil, h => by simp at h
  | _, _, 0, _, .cons h _, e => by
    simp at e
    subst e
    exact ⟨_, rfl, h⟩
  | _, _, i + 1, _, .cons _ t, e => by
    obtain ⟨v, h1, h2⟩ := DvA.getV (i := i) t (by simpa using e)
    exact ⟨v, by simpa using h1, h2⟩
theorem DvA.append : ∀ {vs ws : List V} {ds es : List D}, DvA K G vs ds → DvA K G ws es → DvA K G (vs ++ ws) (ds ++ es)
  | _, _, _, _, .nil, h => h
  | _, _, _, _, .cons h t, k => .cons h (DvA.append t k)
theorem DvA.one {v : V} {d : D} (h : Dv K G v d) : DvA K G [v] [d] := .cons h .nil
theorem DvA.take : ∀ (n : Nat) {vs : List V} {ds : List D}, DvA K G vs ds → DvA K G (vs.take n) (ds.take n)
  | 0, _, _, _ => by simp; exact .nil
  | _ + 1, _, _, .nil => by simp; exact .nil
  | n + 1, _, _, .cons h t => .cons h (DvA.take n t)
theorem DvA.drop : ∀ (n : Nat) {vs : List V} {ds : List D}, DvA K G vs ds → DvA K G (vs.drop n) (ds.drop n)
  | 0, _, _, h => h
  | _ + 1, _, _, .nil => by simp; exact .nil
  | n + 1, _, _, .cons _ t => DvA.drop n t
theorem DvA.set {v : V} {d : D} (h : Dv K G v d) : ∀ (n : Nat) {vs : List V} {ds : List D}, DvA K G vs ds → DvA K G (vs.set n v) (ds.set n d)
  | _, _, _, .nil => .nil
  | 0, _, _, .cons _ t => .cons h t
  | n + 1, _, _, .cons k t => .cons k (DvA.set h n t)
theorem DvA.erase : ∀ (n : Nat) {vs : List V} {ds : List D}, DvA K G vs ds → DvA K G (vs.eraseIdx n) (ds.eraseIdx n)
  | _, _, _, .nil => .nil
  | 0, _, _, .cons _ t => t
  | n + 1, _, _, .cons k t => .cons k (DvA.erase n t)
theorem DvA.rep {vs : List V} {ds : List D} (h : DvA K G vs ds) : ∀ n : Nat, DvA K G (List.replicate n vs).flatten (List.replicate n ds).flatten
  | 0 => .nil
  | n + 1 => by
    rw [List.replicate_succ, List.replicate_succ, List.flatten_cons, List.flatten_cons]
    exact h.append (DvA.rep h n)
theorem DvA.ints : ∀ ns : List Int, DvA K G (ns.map V.int) (ns.map PyData.int)
  | [] => .nil
  | n :: ns => .cons (.int n) (DvA.ints ns)
end
/-! ### data read, for the library's rules -/
mutual
theorem Dv.dp {K : PySem.W.Frag} {H : Hp} : ∀ {v : V} {d : D}, Dv K H v d → d.canLay0 = true → Dp K H v d
  | _, _, .non, _ => .non
  | _, _, .bl b, _ => .bl b
  | _, _, .int i, _ => .int i
  | _, _, .str x, _ => .str x
  | _, _, .lst h t, e => .lst h (DvA.dp t e)
  | _, _, .tup h t, e => .tup h (DvA.dp t e)
  | _, _, .dct _, e => by cases e
theorem DvA.dp {K : PySem.W.Frag} {H : Hp} : ∀ {vs : List V} {ds : List D}, DvA K H vs ds → PyData.canLayAll0 ds = true → DpAll K H vs ds
  | _, _, .nil, _ => .nil
  | _, _, .cons h t, e => by
    have e' := Bool.and_eq_true_iff.mp e
    exact .cons (Dv.dp h e'.1) (DvA.dp t e'.2)
end
section
variable {X : Cx} {pins : List (Addr × Obj)} {σ : L2.St} {H : Hp} {s : Shared}
mutual
theorem Dv.reads (I : Inv X pins σ H s) : ∀ (d : D) (v : V) (u : Value), Dv X.K H v d → RelV v u → ∃ as, Reads s.heap u d as
  | .none, _, _, h, r => by
    cases h
    cases r
    exact ⟨_, Reads.none⟩
  | .bool b, _, _, h, r => by
    cases h
    cases r
    exact ⟨_, Reads.bool b⟩
  | .int i, _, _, h, r => by
    cases h
    obtain ⟨t, rfl⟩ := r
    exact ⟨_, Reads.int i t⟩
  | .str x, _, _, h, r => by
    cases h
    obtain ⟨t, rfl⟩ := r
    exact ⟨_, Reads.str x t⟩
  | .list ds, _, _, h, r => by
    cases h with
    | lst hs ha =>
      cases r
      obtain ⟨its, rv, ⟨o, n, ho, hc, _, hd⟩, _⟩ := I.list hs
      obtain ⟨as, hr⟩ := Dv.readsAll I ds _ its ha rv
      exact ⟨_, Reads.list ho hc hd hr⟩
  | .tuple ds, _, _, h, r => by
    cases h with
    | tup hs ha =>
      cases r
      obtain ⟨its, rv, ⟨o, ho, hc, n, hd⟩, _⟩ := I.tuple hs
      obtain ⟨as, hr⟩ := Dv.readsAll I ds _ its ha rv
      exact ⟨_, Reads.tuple ho hc hd hr⟩
  | .dict kvs, _, _, h, r => by
    cases h with
    | dct hs =>
      cases r
      obtain ⟨_, _, vs, kv, o, es, ep, h1, h2, h3, _, h4, _⟩ := I.hok _ _ hs
      cases kv
      have h5 : es.toList = [] := List.length_eq_zero_iff.mp h4.length
      exact ⟨_, Reads.dict (kvs := []) h1 h2.1 h3 (by rw [h5]; exact .nil) (by rw [h5]; exact .nil)⟩
theorem Dv.readsAll (I : Inv X pins σ H s) : ∀ (ds : List D) (vs : List V) (us : List Value), DvA X.K H vs ds → Vals vs us → ∃ as, ReadsAll s.heap us ds as
  | [], _, _, h, r => by
    cases h
    cases r
    exact ⟨_, ReadsAll.nil⟩
  | d :: ds, _, _, h, r => by
    cases h with
    | cons h1 h2 =>
      cases r with
      | cons r1 r2 =>
        obtain ⟨as, q1⟩ := Dv.reads I d _ _ h1 r1
        obtain ⟨bs, q2⟩ := Dv.readsAll I ds _ _ h2 r2
        exact ⟨_, ReadsAll.cons q1 q2⟩
end
end
end VL

set_option Elab.async false
set_option linter.all false
set_option maxRecDepth 100000
set_option maxHeartbeats 2000000
namespace VL
open PySem PySem.Spec PyProof.Rows L2
/-! ### slots by data -/
/-- im: data that nothing changes; ow: a list that this slot alone holds (true: the one that the caller handed in, at A) -/
inductive OV where
  | im (d : D)
  | ow (pin : Bool) (ds : List D)
abbrev Gm := List (Option OV)
/-- a result: data; a new list that nobody holds; the list that a slot holds -/
inductive Rs where
  | im (d : D)
  | fr (ds : List D)
  | sl (i : Nat)
def SlotOk (K : PySem.W.Frag) (A : Addr) (G H : Hp) (v : Option (Option V)) : Option OV → Prop
  | none => True
  | some (.im d) => ∃ x, v = some (some x) ∧ Dv K G x d
  | some (.ow pin ds) => ∃ a xs, v = some (some (.ref a)) ∧ G a = none ∧ H a = some (.lst xs) ∧ DvA K G xs ds ∧ (pin = true → a = A)
/-- Γ tells the slots σ in the heap H: G what stands still and is known, F what stands still besides -/
structure GS (K : PySem.W.Frag) (A : Addr) (F : Hp) (Γ : Gm) (σ : L2.St) (G H : Hp) : Prop where
  ex : Same G H
  fr : Same F H
  dj : ∀ b, F b ≠ none → G b = none
  len : Γ.length = σ.length
  sl : ∀ (i : Nat) o, Γ[i]? = some o → SlotOk K A G H σ[i]? o
  of : ∀ (i : Nat) b ds a, Γ[i]? = some (some (.ow b ds)) → σ[i]? = some (some (.ref a)) → F a = none
  ne : ∀ (i j : Nat) b c ds es a, Γ[i]? = some (some (.ow b ds)) → Γ[j]? = some (some (.ow c es)) → σ[i]? = some (some (.ref a)) → σ[j]? = some (some (.ref a)) → i = j
def RsOk (K : PySem.W.Frag) (F : Hp) (Γ : Gm) (σ : L2.St) (G H : Hp) (v : V) : Rs → Prop
  | .im d => Dv K G v d
  | .fr ds => ∃ a xs, v = .ref a ∧ G a = none ∧ F a = none ∧ H a = some (.lst xs) ∧ DvA K G xs ds ∧ ∀ (i : Nat) c es, Γ[i]? = some (some (.ow c es)) → σ[i]? ≠ some (some (.ref a))
  | .sl i => σ[i]? = some (some v)
/-- data whose top stands in H, its items in G -/
def Pk (K : PySem.W.Frag) (G H : Hp) (v : V) : D → Prop
  | .list ds => ∃ a xs, v = .ref a ∧ SqL K H a xs ∧ DvA K G xs ds
  | .tuple ds => ∃ a xs, v = .ref a ∧ SqT K H a xs ∧ DvA K G xs ds
  | d => Dv K H v d
theorem same_new {G : Hp} {p : Addr} {o : HO} (h : G p = none) : Same G (upd G p o) := fun b x e => by
  rw [upd_ne (ne_of_none e h)]
  exact e
section
variable {K : PySem.W.Frag} {A : Addr} {F : Hp} {Γ Γ' : Gm} {σ : L2.St} {G G' H H' : Hp} {v : V} {d : D} {ds : List D} {r : Rs} {a p : Addr} {xs : List V}
theorem Pk.dv (e : Same G H) : ∀ {d : D}, Pk K G H v d → Dv K H v d
  | .list _, h => by
    obtain ⟨a, xs, rfl, h1, h2⟩ := h
    exact .lst h1 (h2.mono e)
  | .tuple _, h => by
    obtain ⟨a, xs, rfl, h1, h2⟩ := h
    exact .tup h1 (h2.mono e)
  | .none, h => h
  | .bool _, h => h
  | .int _, h => h
  | .str _, h => h
  | .dict _, h => h
theorem Dv.pk (e : Same G H) : ∀ {d : D}, Dv K G v d → Pk K G H v d
  | .list _, h => by
    cases h with
    | lst h1 h2 => exact ⟨_, _, rfl, e.seq h1, h2⟩
  | .tuple _, h => by
    cases h with
    | tup h1 h2 => exact ⟨_, _, rfl, sqt_mono e h1, h2⟩
  | .none, h => h.mono e
  | .bool _, h => h.mono e
  | .int _, h => h.mono e
  | .str _, h => h.mono e
  | .dict _, h => h.mono e
theorem SlotOk.im (h : SlotOk K A G H (some (some v)) (some (.im d))) : Dv K G v d := by
  obtain ⟨x, e, h⟩ := h
  cases e
  exact h
theorem GS.im (g : GS K A F Γ σ G H) {i : Nat} (e : Γ[i]? = some (some (.im d))) : ∃ x, σ[i]? = some (some x) ∧ Dv K G x d := g.sl i _ e
theorem GS.ow (g : GS K A F Γ σ G H) {i : Nat} {b : Bool} (e : Γ[i]? = some (some (.ow b ds))) : ∃ a xs, σ[i]? = some (some (.ref a)) ∧ G a = none ∧ H a = some (.lst xs) ∧ DvA K G xs ds ∧ (b = true → a = A) := g.sl i _ e
theorem SlotOk.mono {w : Option (Option V)} {o : Option OV} (e : Same G G') (ho : ∀ a c ds, o = some (.ow c ds) → w = some (some (.ref a)) → G' a = none ∧ H' a = H a) (h : SlotOk K A G H w o) : SlotOk K A G' H' w o := by
  cases o with
  | none => trivial
  | some o =>
    cases o with
    | im d =>
      obtain ⟨x, h1, h2⟩ := h
      exact ⟨x, h1, h2.mono e⟩
    | ow c ds =>
      obtain ⟨a, xs, h1, h2, h3, h4, h5⟩ := h
      obtain ⟨q1, q2⟩ := ho a c ds rfl h1
      exact ⟨a, xs, h1, q1, by rw [q2]; exact h3, h4.mono e, h5⟩
/-- an object of H that no slot holds is known from now on -/
theorem GS.know (g : GS K A F Γ σ G H) {o : HO} (h0 : G a = none) (hF : F a = none) (hH : H a = some o) (hs : ∀ (i : Nat) c es, Γ[i]? = some (some (.ow c es)) → σ[i]? ≠ some (some (.ref a))) : GS K A F Γ σ (upd G a o) H where
  ex := fun b u e => by
    by_cases hb : b = a
    · subst hb
      rw [upd_same] at e
      cases e
      exact hH
    · rw [upd_ne hb] at e
      exact g.ex b u e
  fr := g.fr
  dj := fun b hb => by
    rw [upd_ne (fun z => hb (by rw [z]; exact hF))]
    exact g.dj b hb
  len := g.len
  sl := fun i o e => (g.sl i o e).mono (same_new h0) fun b c ds e1 e2 => by
    subst e1
    refine ⟨?_, rfl⟩
    rw [upd_ne (fun z => hs i c ds e (by rw [← z]; exact e2))]
    obtain ⟨c, xs, h1, h2, _⟩ := g.ow e
    rw [e2] at h1
    cases h1
    exact h2
  of := g.of
  ne := g.ne
/-- a new object -/
theorem GS.new (g : GS K A F Γ σ G H) {o : HO} (h0 : H p = none) : GS K A F Γ σ G (upd H p o) where
  ex := fun b u e => same_new h0 b u (g.ex b u e)
  fr := fun b u e => same_new h0 b u (g.fr b u e)
  dj := g.dj
  len := g.len
  sl := fun i o e => (g.sl i o e).mono (Same.refl _) fun b c ds e1 e2 => by
    subst e1
    obtain ⟨c, xs, h1, h2, h3, _⟩ := g.ow e
    rw [e2] at h1
    cases h1
    exact ⟨h2, upd_ne (ne_of_none h3 h0)⟩
  of := g.of
  ne := g.ne
theorem free_G (g : GS K A F Γ σ G H) (h : H p = none) : G p = none := g.ex.free h
theorem free_F (g : GS K A F Γ σ G H) (h : H p = none) : F p = none := g.fr.free h
theorem free_sl (g : GS K A F Γ σ G H) (h : H p = none) : ∀ (i : Nat) c es, Γ[i]? = some (some (.ow c es)) → σ[i]? ≠ some (some (.ref p)) := fun i c es e z => by
  obtain ⟨c, xs, h1, _, h3, _⟩ := g.ow e
  rw [z] at h1
  cases h1
  rw [h] at h3
  cases h3
/-! ### what is done with a result -/
def hold : Rs → Rs
  | .fr ds => .im (.list ds)
  | r => r
theorem hold_ok (g : GS K A F Γ σ G H) (h : RsOk K F Γ σ G H v r) : ∃ G', Same G G' ∧ GS K A F Γ σ G' H ∧ RsOk K F Γ σ G' H v (hold r) := by
  cases r with
  | im d => exact ⟨G, Same.refl _, g, h⟩
  | sl i => exact ⟨G, Same.refl _, g, h⟩
  | fr ds =>
    obtain ⟨a, xs, rfl, h1, h2, h3, h4, h5⟩ := h
    exact ⟨upd G a (.lst xs), same_new h1, g.know h1 h2 h3 h5, .lst (SqL.of upd_same) (h4.mono (same_new h1))⟩
/-- a held result stays what it is -/
theorem held_mono {F : Hp} {Γ Γ' : Gm} {G G' H H' : Hp} (e : Same G G') (h : RsOk K F Γ σ G H v (hold r)) : RsOk K F Γ' σ G' H' v (hold r) := by
  cases r with
  | im d => exact Dv.mono e h
  | sl i => exact h
  | fr ds => exact Dv.mono e h
def peekO : Option (Option OV) → Option D
  | some (some (.im d)) => some d
  | some (some (.ow _ ds)) => some (.list ds)
  | _ => none
def peek (Γ : Gm) : Rs → Option D
  | .im d => some d
  | .fr ds => some (.list ds)
  | .sl i => peekO Γ[i]?
theorem peek_ok (g : GS K A F Γ σ G H) (h : RsOk K F Γ σ G H v r) (e : peek Γ r = some d) : Pk K G H v d := by
  cases r with
  | im d' =>
    cases e
    exact Dv.pk g.ex h
  | fr ds =>
    cases e
    obtain ⟨a, xs, rfl, h1, h2, h3, h4, h5⟩ := h
    exact ⟨a, xs, rfl, SqL.of h3, h4⟩
  | sl i =>
    have h : σ[i]? = some (some v) := h
    have e : peekO Γ[i]? = some d := e
    unfold peekO at e
    split at e
    · rename_i d' e1
      cases e
      obtain ⟨x, h1, h2⟩ := g.im e1
      rw [h] at h1
      cases h1
      exact Dv.pk g.ex h2
    · rename_i _ ds e1
      cases e
      obtain ⟨a, xs, h1, h2, h3, h4, _⟩ := g.ow e1
      rw [h] at h1
      cases h1
      exact ⟨a, xs, rfl, SqL.of h3, h4⟩
    · cases e
def frzO (Γ : Gm) (i : Nat) : Option (Option OV) → Option (D × Gm)
  | some (some (.im d)) => some (d, Γ)
  | some (some (.ow false ds)) => some (.list ds, Γ.set i (some (.im (.list ds))))
  | _ => none
def frz (Γ : Gm) : Rs → Option (D × Gm)
  | .im d => some (d, Γ)
  | .fr ds => some (.list ds, Γ)
  | .sl i => frzO Γ i Γ[i]?
theorem GS.setIm (g : GS K A F Γ σ G H) {i : Nat} {x : V} (h1 : σ[i]? = some (some x)) (h2 : Dv K G x d) : GS K A F (Γ.set i (some (.im d))) σ G H where
  ex := g.ex
  fr := g.fr
  dj := g.dj
  len := by rw [List.length_set]; exact g.len
  sl := fun j o e => by
    by_cases hj : i = j
    · subst hj
      by_cases hl : i < Γ.length
      · rw [List.getElem?_set_self hl] at e
        cases e
        exact ⟨x, h1, h2⟩
      · rw [List.getElem?_eq_none (by rw [List.length_set]; omega)] at e
        cases e
    · rw [List.getElem?_set_ne hj] at e
      exact g.sl j o e
  of := fun j b ds a e => by
    by_cases hj : i = j
    · subst hj
      by_cases hl : i < Γ.length
      · rw [List.getElem?_set_self hl] at e
        cases e
      · rw [List.getElem?_eq_none (by rw [List.length_set]; omega)] at e
        cases e
    · rw [List.getElem?_set_ne hj] at e
      exact g.of j b ds a e
  ne := fun j k b c ds es a e1 e2 => by
    have q : ∀ (j : Nat) (b : Bool) (ds : List D), (Γ.set i (some (.im d)))[j]? = some (some (.ow b ds)) → Γ[j]? = some (some (.ow b ds)) := fun j b ds e => by
      by_cases hj : i = j
      · subst hj
        by_cases hl : i < Γ.length
        · rw [List.getElem?_set_self hl] at e
          cases e
        · rw [List.getElem?_eq_none (by rw [List.length_set]; omega)] at e
          cases e
      · rw [List.getElem?_set_ne hj] at e
        exact e
    exact g.ne j k b c ds es a (q j b ds e1) (q k c es e2)
theorem set_get {Γ : Gm} {i j : Nat} {o q : Option OV} (e : (Γ.set i o)[j]? = some q) : (i = j ∧ q = o) ∨ (i ≠ j ∧ Γ[j]? = some q) := by
  by_cases hj : i = j
  · subst hj
    by_cases hl : i < Γ.length
    · rw [List.getElem?_set_self hl] at e
      cases e
      exact .inl ⟨rfl, rfl⟩
    · rw [List.getElem?_eq_none (by rw [List.length_set]; omega)] at e
      cases e
  · rw [List.getElem?_set_ne hj] at e
    exact .inr ⟨hj, e⟩
/-- a slot is forgotten -/
theorem GS.drop (g : GS K A F Γ σ G H) (i : Nat) : GS K A F (Γ.set i none) σ G H where
  ex := g.ex
  fr := g.fr
  dj := g.dj
  len := by rw [List.length_set]; exact g.len
  sl := fun j o e => by
    rcases set_get e with ⟨_, rfl⟩ | ⟨_, e⟩
    · trivial
    · exact g.sl j o e
  of := fun j b ds a e => by
    rcases set_get e with ⟨_, q⟩ | ⟨_, e⟩
    · cases q
    · exact g.of j b ds a e
  ne := fun j k b c ds es a e1 e2 => by
    rcases set_get e1 with ⟨_, q⟩ | ⟨_, e1⟩
    · cases q
    · rcases set_get e2 with ⟨_, q⟩ | ⟨_, e2⟩
      · cases q
      · exact g.ne j k b c ds es a e1 e2
theorem frz_ok (g : GS K A F Γ σ G H) (h : RsOk K F Γ σ G H v r) (e : frz Γ r = some (d, Γ')) : ∃ G', Same G G' ∧ GS K A F Γ' σ G' H ∧ Dv K G' v d := by
  cases r with
  | im d' =>
    cases e
    exact ⟨G, Same.refl _, g, h⟩
  | fr ds =>
    cases e
    exact hold_ok g h
  | sl i =>
    have h : σ[i]? = some (some v) := h
    have e : frzO Γ i Γ[i]? = some (d, Γ') := e
    unfold frzO at e
    split at e
    · rename_i d' e1
      cases e
      obtain ⟨x, h1, h2⟩ := g.im e1
      rw [h] at h1
      cases h1
      exact ⟨G, Same.refl _, g, h2⟩
    · rename_i ds e1
      cases e
      obtain ⟨a, xs, h1, h2, h3, h4, _⟩ := g.ow e1
      rw [h] at h1
      cases h1
      have g2 : GS K A F (Γ.set i none) σ G H := g.drop i
      have g3 := g2.know (o := .lst xs) h2 (g.of i false ds a e1 h) h3 fun j c es ej z => by
        rcases set_get ej with ⟨_, q⟩ | ⟨hj, ej⟩
        · cases q
        · exact hj (g.ne i j false c ds es a e1 ej h z)
      have hv : Dv K (upd G a (.lst xs)) (.ref a) (.list ds) := .lst (SqL.of upd_same) (h4.mono (same_new h2))
      have g4 := g3.setIm h hv
      rw [List.set_set] at g4
      exact ⟨_, same_new h2, g4, hv⟩
    · cases e
/-! ### results of operations on values -/
inductive Rr where
  | im (d : D)
  | fr (ds : List D)
  | nt (ds : List D)
def RrOk (K : PySem.W.Frag) (G H : Hp) (v : V) (H' : Hp) : Rr → Prop
  | .im d => H' = H ∧ Dv K G v d
  | .fr ds => ∃ p xs, v = .ref p ∧ H p = none ∧ H' = upd H p (.lst xs) ∧ DvA K G xs ds
  | .nt ds => ∃ p xs, v = .ref p ∧ H p = none ∧ H' = upd H p (.tup xs) ∧ DvA K G xs ds
def fin : Rr → Rs
  | .im d => .im d
  | .fr ds => .fr ds
  | .nt ds => .im (.tuple ds)
theorem fin_ok {rr : Rr} (g : GS K A F Γ σ G H) (h : RrOk K G H v H' rr) : ∃ G', Same G G' ∧ GS K A F Γ σ G' H' ∧ RsOk K F Γ σ G' H' v (fin rr) := by
  cases rr with
  | im d =>
    obtain ⟨rfl, h⟩ := h
    exact ⟨G, Same.refl _, g, h⟩
  | fr ds =>
    obtain ⟨p, xs, rfl, h1, rfl, h2⟩ := h
    exact ⟨G, Same.refl _, g.new h1, p, xs, rfl, free_G g h1, free_F g h1, upd_same, h2, free_sl g h1⟩
  | nt ds =>
    obtain ⟨p, xs, rfl, h1, rfl, h2⟩ := h
    have g2 := (g.new (o := .tup xs) h1).know (o := .tup xs) (free_G g h1) (free_F g h1) upd_same (free_sl g h1)
    exact ⟨_, same_new (free_G g h1), g2, .tup (SqT.of upd_same) (h2.mono (same_new (free_G g h1)))⟩
end
end VL

set_option Elab.async false
set_option linter.all false
set_option maxRecDepth 100000
set_option maxHeartbeats 2000000
namespace VL
open PySem PySem.Spec PyProof.Rows L2
abbrev Me := Gm → Option (Rs × Gm)
abbrev Ma := Gm → Option (List Rs × Gm)
abbrev Mt := Gm → Option (Bool × Gm)
abbrev Mo := Gm → Option (Option Int × Gm)
/-- a reading is told by m -/
def TEok (K : PySem.W.Frag) (t : TE) (m : Me) : Prop := ∀ (A : Addr) (F : Hp) (Γ : Gm) (r : Rs) (Γ' : Gm), m Γ = some (r, Γ') → ∀ (σ : L2.St) (G H : Hp), GS K A F Γ σ G H → ∀ Q : VK,
  (∀ v G' H', Same G G' → GS K A F Γ' σ G' H' → RsOk K F Γ' σ G' H' v r → Q v H') → t σ H Q
def TTok (K : PySem.W.Frag) (t : TT) (m : Mt) : Prop := ∀ (A : Addr) (F : Hp) (Γ : Gm) (b : Bool) (Γ' : Gm), m Γ = some (b, Γ') → ∀ (σ : L2.St) (G H : Hp), GS K A F Γ σ G H → ∀ Q : Bool → Hp → Prop,
  (∀ G' H', Same G G' → GS K A F Γ' σ G' H' → Q b H') → t σ H Q
def TOok (K : PySem.W.Frag) (t : TO) (m : Mo) : Prop := ∀ (A : Addr) (F : Hp) (Γ : Gm) (o : Option Int) (Γ' : Gm), m Γ = some (o, Γ') → ∀ (σ : L2.St) (G H : Hp), GS K A F Γ σ G H → ∀ Q : Option Int → Hp → Prop,
  (∀ G' H', Same G G' → GS K A F Γ' σ G' H' → Q o H') → t σ H Q
inductive RsA (K : PySem.W.Frag) (F : Hp) (Γ : Gm) (σ : L2.St) (G H : Hp) : List V → List Rs → Prop
  | nil : RsA K F Γ σ G H [] []
  | cons {v : V} {vs : List V} {r : Rs} {rs : List Rs} : RsOk K F Γ σ G H v (hold r) → RsA K F Γ σ G H vs rs → RsA K F Γ σ G H (v :: vs) (hold r :: rs)
def TAok (K : PySem.W.Frag) (t : TA) (m : Ma) : Prop := ∀ (A : Addr) (F : Hp) (Γ : Gm) (rs : List Rs) (Γ' : Gm), m Γ = some (rs, Γ') → ∀ (σ : L2.St) (G H : Hp), GS K A F Γ σ G H → ∀ Q : List V → Hp → Prop,
  (∀ vs G' H', Same G G' → GS K A F Γ' σ G' H' → RsA K F Γ' σ G' H' vs rs → Q vs H') → t σ H Q
inductive PkA (K : PySem.W.Frag) (G H : Hp) : List V → List D → Prop
  | nil : PkA K G H [] []
  | cons {v : V} {vs : List V} {d : D} {ds : List D} : Pk K G H v d → PkA K G H vs ds → PkA K G H (v :: vs) (d :: ds)
theorem obind {α β : Type} {x : Option α} {f : α → Option β} {b : β} (h : x.bind f = some b) : ∃ a, x = some a ∧ f a = some b := by
  cases x with
  | none => cases h
  | some a => exact ⟨a, rfl, h⟩
section
variable {K : PySem.W.Frag}
/-! ### names, constants -/
def mVarO (Γ : Gm) (i : Nat) : Option (Option OV) → Option (Rs × Gm)
  | some (some (.im d)) => some (.im d, Γ)
  | some (some (.ow _ _)) => some (.sl i, Γ)
  | _ => none
def mVar (i : Nat) : Me := fun Γ => mVarO Γ i Γ[i]?
theorem te_var (i : Nat) : TEok K (tVar i) (mVar i) := fun A F Γ r Γ' e σ G H g Q q => by
  have e : mVarO Γ i Γ[i]? = some (r, Γ') := e
  unfold mVarO at e
  split at e
  · rename_i d e1
    cases e
    obtain ⟨x, h1, h2⟩ := g.im e1
    exact ⟨x, h1, q x G H (Same.refl _) g h2⟩
  · rename_i b ds e1
    cases e
    obtain ⟨a, xs, h1, _⟩ := g.ow e1
    exact ⟨_, h1, q _ G H (Same.refl _) g h1⟩
  · cases e
def mC (d : D) : Me := fun Γ => some (.im d, Γ)
theorem te_c {v : V} {d : D} (h : ∀ G, Dv K G v d) : TEok K (tC v) (mC d) := fun A F Γ r Γ' e σ G H g Q q => by
  cases e
  exact q v G H (Same.refl _) g (h G)
theorem te_int (i : Int) : TEok K (tC (.int i)) (mC (.int i)) := te_c fun _ => .int i
theorem te_bl (b : Bool) : TEok K (tC (.bl b)) (mC (.bool b)) := te_c fun _ => .bl b
theorem te_str (x : Str) : TEok K (tC (.str x)) (mC (.str x)) := te_c fun _ => .str x
theorem te_non : TEok K (tC .non) (mC .none) := te_c fun _ => .non
/-! ### two operands -/
def m2 (f : D → D → Option Rr) (ma mb : Me) : Me := fun Γ => (ma Γ).bind fun p => (mb p.2).bind fun q => (peek q.2 (hold p.1)).bind fun d => (peek q.2 q.1).bind fun e => (f d e).bind fun rr => some (fin rr, q.2)
def Op2 (K : PySem.W.Frag) (r : R2) (f : D → D → Option Rr) : Prop := ∀ (G H : Hp) (x y : V) (d e : D) (rr : Rr), Same G H → Pk K G H x d → Pk K G H y e → f d e = some rr → ∀ Q : VK, (∀ v H', RrOk K G H v H' rr → Q v H') → r x y H Q
theorem te_op {r : R2} {f : D → D → Option Rr} {ta tb : TE} {ma mb : Me} (o : Op2 K r f) (ha : TEok K ta ma) (hb : TEok K tb mb) : TEok K (tOp r ta tb) (m2 f ma mb) := fun A F Γ rs Γ' e σ G H g Q q => by
  obtain ⟨⟨r1, Γ1⟩, e1, e⟩ := obind e
  obtain ⟨⟨r2, Γ2⟩, e2, e⟩ := obind e
  obtain ⟨d, e3, e⟩ := obind e
  obtain ⟨d2, e4, e⟩ := obind e
  obtain ⟨rr, e5, e⟩ := obind e
  cases e
  refine ha A F Γ r1 Γ1 e1 σ G H g _ fun x G1 H1 s1 g1 h1 => ?_
  obtain ⟨G1', s1', g1', h1'⟩ := hold_ok g1 h1
  refine hb A F Γ1 r2 _ e2 σ G1' H1 g1' _ fun y G2 H2 s2 g2 h2 => ?_
  have k1 := peek_ok g2 (held_mono (Γ' := Γ2) (H' := H2) s2 h1') e3
  have k2 := peek_ok g2 h2 e4
  refine o G2 H2 x y d d2 rr g2.ex k1 k2 e5 Q fun v H' hr => ?_
  obtain ⟨G3, s3, g3, h3⟩ := fin_ok g2 hr
  exact q v G3 H' ((s1.trans s1').trans (s2.trans s3)) g3 h3
def m1 (f : D → Option Rr) (ma : Me) : Me := fun Γ => (ma Γ).bind fun p => (peek p.2 p.1).bind fun d => (f d).bind fun rr => some (fin rr, p.2)
def Op1 (K : PySem.W.Frag) (r : V → Hp → VK → Prop) (f : D → Option Rr) : Prop := ∀ (G H : Hp) (x : V) (d : D) (rr : Rr), Same G H → Pk K G H x d → f d = some rr → ∀ Q : VK, (∀ v H', RrOk K G H v H' rr → Q v H') → r x H Q
theorem te_un {r : V → Hp → VK → Prop} {f : D → Option Rr} {ta : TE} {ma : Me} (o : Op1 K r f) (ha : TEok K ta ma) : TEok K (tUn r ta) (m1 f ma) := fun A F Γ rs Γ' e σ G H g Q q => by
  obtain ⟨⟨r1, Γ1⟩, e1, e⟩ := obind e
  obtain ⟨d, e3, e⟩ := obind e
  obtain ⟨rr, e5, e⟩ := obind e
  cases e
  refine ha A F Γ r1 _ e1 σ G H g _ fun x G1 H1 s1 g1 h1 => ?_
  refine o G1 H1 x d rr g1.ex (peek_ok g1 h1 e3) e5 Q fun v H' hr => ?_
  obtain ⟨G3, s3, g3, h3⟩ := fin_ok g1 hr
  exact q v G3 H' (s1.trans s3) g3 h3
/-! ### arguments -/
def mNil : Ma := fun Γ => some ([], Γ)
def mCons (me : Me) (ma : Ma) : Ma := fun Γ => (me Γ).bind fun p => (ma p.2).bind fun q => some (hold p.1 :: q.1, q.2)
theorem ta_nil : TAok K tNil mNil := fun A F Γ rs Γ' e σ G H g Q q => by
  cases e
  exact q [] G H (Same.refl _) g .nil
theorem ta_cons {te : TE} {ta : TA} {me : Me} {ma : Ma} (ha : TEok K te me) (hb : TAok K ta ma) : TAok K (tCons te ta) (mCons me ma) := fun A F Γ rs Γ' e σ G H g Q q => by
  obtain ⟨⟨r1, Γ1⟩, e1, e⟩ := obind e
  obtain ⟨⟨r2, Γ2⟩, e2, e⟩ := obind e
  cases e
  refine ha A F Γ r1 Γ1 e1 σ G H g _ fun x G1 H1 s1 g1 h1 => ?_
  obtain ⟨G1', s1', g1', h1'⟩ := hold_ok g1 h1
  refine hb A F Γ1 r2 _ e2 σ G1' H1 g1' _ fun vs G2 H2 s2 g2 h2 => ?_
  exact q (x :: vs) G2 H2 ((s1.trans s1').trans s2) g2 (.cons (held_mono s2 h1') h2)
def peekA (Γ : Gm) : List Rs → Option (List D)
  | [] => some []
  | r :: rs => (peek Γ r).bind fun d => (peekA Γ rs).bind fun ds => some (d :: ds)
theorem peekA_ok {A : Addr} {F : Hp} {Γ : Gm} {σ : L2.St} {G H : Hp} (g : GS K A F Γ σ G H) : ∀ {vs : List V} {rs : List Rs} {ds : List D}, RsA K F Γ σ G H vs rs → peekA Γ rs = some ds → PkA K G H vs ds
  | _, _, _, .nil, e => by
    cases e
    exact .nil
  | _, _, _, .cons h t, e => by
    obtain ⟨d, e1, e⟩ := obind e
    obtain ⟨ds, e2, e⟩ := obind e
    cases e
    exact .cons (peek_ok g h e1) (peekA_ok g t e2)
def frzA (Γ : Gm) : List Rs → Option (List D × Gm)
  | [] => some ([], Γ)
  | r :: rs => (frz Γ r).bind fun p => (frzA p.2 rs).bind fun q => some (p.1 :: q.1, q.2)
theorem RsA.mono {F : Hp} {Γ Γ' : Gm} {σ : L2.St} {G G' H H' : Hp} (e : Same G G') : ∀ {vs : List V} {rs : List Rs}, RsA K F Γ σ G H vs rs → RsA K F Γ' σ G' H' vs rs
  | _, _, .nil => .nil
  | _, _, .cons h t => .cons (held_mono e h) (RsA.mono e t)
theorem frzA_ok {A : Addr} {F : Hp} {σ : L2.St} : ∀ {Γ Γ' : Gm} {G H : Hp} {vs : List V} {rs : List Rs} {ds : List D}, GS K A F Γ σ G H → RsA K F Γ σ G H vs rs → frzA Γ rs = some (ds, Γ') → ∃ G', Same G G' ∧ GS K A F Γ' σ G' H ∧ DvA K G' vs ds
  | _, _, G, _, _, _, _, g, .nil, e => by
    cases e
    exact ⟨G, Same.refl _, g, .nil⟩
  | _, _, G, _, _, _, _, g, .cons h t, e => by
    obtain ⟨⟨d, Γ1⟩, e1, e⟩ := obind e
    obtain ⟨⟨ds, Γ2⟩, e2, e⟩ := obind e
    cases e
    obtain ⟨G1, s1, g1, h1⟩ := frz_ok g h e1
    obtain ⟨G2, s2, g2, h2⟩ := frzA_ok g1 (t.mono s1) e2
    exact ⟨G2, s1.trans s2, g2, .cons (h1.mono s2) h2⟩
/-! ### calls of built-ins by values -/
def mCB (f : List D → Option Rr) (ma : Ma) : Me := fun Γ => (ma Γ).bind fun p => (peekA p.2 p.1).bind fun ds => (f ds).bind fun rr => some (fin rr, p.2)
def OpN (K : PySem.W.Frag) (r : List V → Hp → VK → Prop) (f : List D → Option Rr) : Prop := ∀ (G H : Hp) (vs : List V) (ds : List D) (rr : Rr), Same G H → PkA K G H vs ds → f ds = some rr → ∀ Q : VK, (∀ v H', RrOk K G H v H' rr → Q v H') → r vs H Q
theorem te_cb {r : List V → Hp → VK → Prop} {f : List D → Option Rr} {ta : TA} {ma : Ma} (o : OpN K r f) (ha : TAok K ta ma) : TEok K (tCB r ta) (mCB f ma) := fun A F Γ rs Γ' e σ G H g Q q => by
  obtain ⟨⟨r1, Γ1⟩, e1, e⟩ := obind e
  obtain ⟨ds, e3, e⟩ := obind e
  obtain ⟨rr, e5, e⟩ := obind e
  cases e
  refine ha A F Γ r1 _ e1 σ G H g _ fun vs G1 H1 s1 g1 h1 => ?_
  refine o G1 H1 vs ds rr g1.ex (peekA_ok g1 h1 e3) e5 Q fun v H' hr => ?_
  obtain ⟨G3, s3, g3, h3⟩ := fin_ok g1 hr
  exact q v G3 H' (s1.trans s3) g3 h3
/-! ### displays -/
def LIM : Nat := 4000000
theorem lim_line {n : Nat} (h : n ≤ LIM) : n ≤ sizeLine := Nat.le_trans h (by decide)
def mSeq (tup : Bool) (ma : Ma) : Me := fun Γ => (ma Γ).bind fun p => (frzA p.2 p.1).bind fun q => if q.1.length ≤ LIM then some (fin (if tup then .nt q.1 else .fr q.1), q.2) else none
theorem te_tup {ta : TA} {ma : Ma} (ha : TAok K ta ma) : TEok K (tTup ta) (mSeq true ma) := fun A F Γ rs Γ' e σ G H g Q q => by
  obtain ⟨⟨r1, Γ1⟩, e1, e⟩ := obind e
  obtain ⟨⟨ds, Γ2⟩, e2, e⟩ := obind e
  by_cases hz : ds.length ≤ LIM
  · rw [if_pos hz] at e
    cases e
    refine ha A F Γ r1 Γ1 e1 σ G H g _ fun vs G1 H1 s1 g1 h1 => ?_
    obtain ⟨G2, s2, g2, h2⟩ := frzA_ok g1 h1 e2
    refine ⟨by rw [h2.length]; exact lim_line hz, fun p hp => ?_⟩
    obtain ⟨G3, s3, g3, h3⟩ := fin_ok (rr := .nt ds) (v := .ref p) (H' := upd H1 p (.tup vs)) g2 ⟨p, vs, rfl, hp, rfl, h2⟩
    exact q _ G3 _ ((s1.trans s2).trans s3) g3 h3
  · rw [if_neg hz] at e
    cases e
theorem te_lst {ta : TA} {ma : Ma} (ha : TAok K ta ma) : TEok K (tLst ta) (mSeq false ma) := fun A F Γ rs Γ' e σ G H g Q q => by
  obtain ⟨⟨r1, Γ1⟩, e1, e⟩ := obind e
  obtain ⟨⟨ds, Γ2⟩, e2, e⟩ := obind e
  by_cases hz : ds.length ≤ LIM
  · rw [if_pos hz] at e
    cases e
    refine ha A F Γ r1 Γ1 e1 σ G H g _ fun vs G1 H1 s1 g1 h1 => ?_
    obtain ⟨G2, s2, g2, h2⟩ := frzA_ok g1 h1 e2
    refine ⟨by rw [h2.length]; exact lim_line hz, fun p hp => ?_⟩
    obtain ⟨G3, s3, g3, h3⟩ := fin_ok (rr := .fr ds) (v := .ref p) (H' := upd H1 p (.lst vs)) g2 ⟨p, vs, rfl, hp, rfl, h2⟩
    exact q _ G3 _ ((s1.trans s2).trans s3) g3 h3
  · rw [if_neg hz] at e
    cases e
/-! ### tests -/
def mB (me : Me) : Mt := fun Γ => (me Γ).bind fun p => match p.1 with
  | .im (.bool b) => some (b, p.2)
  | _ => none
theorem mB_some {me : Me} {Γ Γ' : Gm} {b : Bool} (e : mB me Γ = some (b, Γ')) : me Γ = some (.im (.bool b), Γ') := by
  obtain ⟨⟨r, Γ1⟩, e1, e⟩ := obind e
  dsimp only at e
  split at e
  · cases e
    exact e1
  · cases e
theorem tt_test {te : TE} {me : Me} (ha : TEok K te me) : TTok K (tTest te) (mB me) := fun A F Γ b Γ' e σ G H g Q q =>
  ha A F Γ _ Γ' (mB_some e) σ G H g _ fun v G1 H1 s1 g1 h1 => by
    cases h1
    exact ⟨b, rfl, q G1 H1 s1 g1⟩
theorem tt_b {te : TE} {me : Me} (ha : TEok K te me) : TTok K (tB te) (mB me) := fun A F Γ b Γ' e σ G H g Q q =>
  ha A F Γ _ Γ' (mB_some e) σ G H g _ fun v G1 H1 s1 g1 h1 => by
    cases h1
    exact ⟨b, rfl, q G1 H1 s1 g1⟩
def mAnd (ma mb : Mt) : Mt := fun Γ => (ma Γ).bind fun p => if p.1 = true then mb p.2 else some (false, p.2)
def mOr (ma mb : Mt) : Mt := fun Γ => (ma Γ).bind fun p => if p.1 = true then some (true, p.2) else mb p.2
def mNot (ma : Mt) : Mt := fun Γ => (ma Γ).bind fun p => some (!p.1, p.2)
theorem tt_and {t u : TT} {ma mb : Mt} (ha : TTok K t ma) (hb : TTok K u mb) : TTok K (tAnd t u) (mAnd ma mb) := fun A F Γ b Γ' e σ G H g Q q => by
  obtain ⟨⟨c, Γ1⟩, e1, e⟩ := obind e
  refine ha A F Γ c Γ1 e1 σ G H g _ fun G1 H1 s1 g1 => ?_
  cases c with
  | true => exact iteT (hb A F Γ1 b Γ' e σ G1 H1 g1 Q fun G2 H2 s2 g2 => q G2 H2 (s1.trans s2) g2)
  | false =>
    have e : some (false, Γ1) = some (b, Γ') := e
    cases e
    exact iteF (q G1 H1 s1 g1)
theorem tt_or {t u : TT} {ma mb : Mt} (ha : TTok K t ma) (hb : TTok K u mb) : TTok K (tOr t u) (mOr ma mb) := fun A F Γ b Γ' e σ G H g Q q => by
  obtain ⟨⟨c, Γ1⟩, e1, e⟩ := obind e
  refine ha A F Γ c Γ1 e1 σ G H g _ fun G1 H1 s1 g1 => ?_
  cases c with
  | false => exact iteF (hb A F Γ1 b Γ' e σ G1 H1 g1 Q fun G2 H2 s2 g2 => q G2 H2 (s1.trans s2) g2)
  | true =>
    have e : some (true, Γ1) = some (b, Γ') := e
    cases e
    exact iteT (q G1 H1 s1 g1)
theorem tt_not {t : TT} {ma : Mt} (ha : TTok K t ma) : TTok K (tNot t) (mNot ma) := fun A F Γ b Γ' e σ G H g Q q => by
  obtain ⟨⟨c, Γ1⟩, e1, e⟩ := obind e
  cases e
  exact ha A F Γ c _ e1 σ G H g _ fun G1 H1 s1 g1 => q G1 H1 s1 g1
/-- a test as a value -/
def mBV (m : Mt) : Me := fun Γ => (m Γ).bind fun p => some (.im (.bool p.1), p.2)
theorem te_andV {ta tb : TE} {ma mb : Me} (ha : TEok K ta ma) (hb : TEok K tb mb) : TEok K (tAndV ta tb) (mBV (mAnd (mB ma) (mB mb))) := fun A F Γ r Γ' e σ G H g Q q => by
  obtain ⟨⟨b, Γ2⟩, ee, e0⟩ := obind e
  obtain ⟨⟨c, Γ1⟩, e1, e⟩ := obind ee
  cases e0
  refine ha A F Γ _ Γ1 (mB_some e1) σ G H g _ fun v G1 H1 s1 g1 h1 => ?_
  cases h1
  refine ⟨c, rfl, ?_⟩
  cases c with
  | true =>
    refine iteT (hb A F Γ1 _ _ (mB_some e) σ G1 H1 g1 Q fun v G2 H2 s2 g2 h2 => q v G2 H2 (s1.trans s2) g2 h2)
  | false =>
    have e : some (false, Γ1) = some (b, _) := e
    cases e
    exact iteF (q _ G1 H1 s1 g1 (.bl false))
theorem te_orV {ta tb : TE} {ma mb : Me} (ha : TEok K ta ma) (hb : TEok K tb mb) : TEok K (tOrV ta tb) (mBV (mOr (mB ma) (mB mb))) := fun A F Γ r Γ' e σ G H g Q q => by
  obtain ⟨⟨b, Γ2⟩, ee, e0⟩ := obind e
  obtain ⟨⟨c, Γ1⟩, e1, e⟩ := obind ee
  cases e0
  refine ha A F Γ _ Γ1 (mB_some e1) σ G H g _ fun v G1 H1 s1 g1 h1 => ?_
  cases h1
  refine ⟨c, rfl, ?_⟩
  cases c with
  | false =>
    refine iteF (hb A F Γ1 _ _ (mB_some e) σ G1 H1 g1 Q fun v G2 H2 s2 g2 h2 => q v G2 H2 (s1.trans s2) g2 h2)
  | true =>
    have e : some (true, Γ1) = some (b, _) := e
    cases e
    exact iteT (q _ G1 H1 s1 g1 (.bl true))
theorem te_notV {ta : TE} {ma : Me} (ha : TEok K ta ma) : TEok K (tNotV ta) (mBV (mNot (mB ma))) := fun A F Γ r Γ' e σ G H g Q q => by
  obtain ⟨⟨b, Γ2⟩, ee, e0⟩ := obind e
  obtain ⟨⟨c, Γ1⟩, e1, e9⟩ := obind ee
  cases e0
  cases e9
  refine ha A F Γ _ Γ1 (mB_some e1) σ G H g _ fun v G1 H1 s1 g1 h1 => ?_
  cases h1
  exact ⟨c, rfl, q _ G1 H1 s1 g1 (.bl (!c))⟩
def mIf (mt : Mt) (ma mb : Me) : Me := fun Γ => (mt Γ).bind fun p => if p.1 = true then ma p.2 else mb p.2
theorem te_if {t : TT} {ta tb : TE} {mt : Mt} {ma mb : Me} (h : TTok K t mt) (ha : TEok K ta ma) (hb : TEok K tb mb) : TEok K (tIf t ta tb) (mIf mt ma mb) := fun A F Γ r Γ' e σ G H g Q q => by
  obtain ⟨⟨c, Γ1⟩, e1, e⟩ := obind e
  refine h A F Γ c Γ1 e1 σ G H g _ fun G1 H1 s1 g1 => ?_
  cases c with
  | true => exact iteT (ha A F Γ1 r Γ' e σ G1 H1 g1 Q fun v G2 H2 s2 g2 h2 => q v G2 H2 (s1.trans s2) g2 h2)
  | false => exact iteF (hb A F Γ1 r Γ' e σ G1 H1 g1 Q fun v G2 H2 s2 g2 h2 => q v G2 H2 (s1.trans s2) g2 h2)
/-- a op b op' c, ints or data: each step a test -/
def mChain (f f' : D → D → Option Bool) (ma mb mc : Me) : Me := fun Γ => (ma Γ).bind fun p => (mb p.2).bind fun q => (peek q.2 (hold p.1)).bind fun d => (peek q.2 (hold q.1)).bind fun e => (f d e).bind fun b =>
  if b = true then (mc q.2).bind fun u => (peek u.2 (hold q.1)).bind fun e' => (peek u.2 u.1).bind fun c => (f' e' c).bind fun b' => some (.im (.bool b'), u.2) else some (.im (.bool false), q.2)
def OpB (K : PySem.W.Frag) (r : R2) (f : D → D → Option Bool) : Prop := ∀ (G H : Hp) (x y : V) (d e : D) (b : Bool), Same G H → Pk K G H x d → Pk K G H y e → f d e = some b → ∀ Q : VK, Q (.bl b) H → r x y H Q
theorem te_chain {r r' : R2} {f f' : D → D → Option Bool} {ta tb tc : TE} {ma mb mc : Me} (o : OpB K r f) (o' : OpB K r' f') (ha : TEok K ta ma) (hb : TEok K tb mb) (hc : TEok K tc mc) : TEok K (tChain r r' ta tb tc) (mChain f f' ma mb mc) := fun A F Γ rs Γ' e σ G H g Q q => by
  obtain ⟨⟨r1, Γ1⟩, e1, e⟩ := obind e
  obtain ⟨⟨r2, Γ2⟩, e2, e⟩ := obind e
  obtain ⟨d, e3, e⟩ := obind e
  obtain ⟨d2, e4, e⟩ := obind e
  obtain ⟨b, e5, e⟩ := obind e
  refine ha A F Γ r1 Γ1 e1 σ G H g _ fun x G1 H1 s1 g1 h1 => ?_
  obtain ⟨G1', s1', g1', h1'⟩ := hold_ok g1 h1
  refine hb A F Γ1 r2 Γ2 e2 σ G1' H1 g1' _ fun y G2 H2 s2 g2 h2 => ?_
  obtain ⟨G2', s2', g2', h2'⟩ := hold_ok g2 h2
  have k1 := peek_ok g2' (held_mono (Γ' := Γ2) (H' := H2) (s2.trans s2') h1') e3
  have k2 := peek_ok g2' h2' e4
  refine o G2' H2 x y d d2 b g2'.ex k1 k2 e5 _ ⟨b, rfl, ?_⟩
  cases b with
  | true =>
    refine iteT ?_
    obtain ⟨⟨r3, Γ3⟩, e6, e⟩ := obind e
    obtain ⟨d3, e7, e⟩ := obind e
    obtain ⟨d4, e8, e⟩ := obind e
    obtain ⟨b', e9, e⟩ := obind e
    cases e
    refine hc A F Γ2 r3 _ e6 σ G2' H2 g2' _ fun z G3 H3 s3 g3 h3 => ?_
    have k3 := peek_ok g3 (held_mono (Γ' := Γ3) (H' := H3) s3 h2') e7
    have k4 := peek_ok g3 h3 e8
    exact o' G3 H3 y z d3 d4 b' g3.ex k3 k4 e9 _ (q _ G3 H3 (((s1.trans s1').trans (s2.trans s2')).trans s3) g3 (.bl b'))
  | false =>
    have e : some (Rs.im (.bool false), Γ2) = some (rs, Γ') := e
    cases e
    exact iteF (q _ G2' H2 ((s1.trans s1').trans (s2.trans s2')) g2' (.bl false))
/-! ### slices -/
def mNoPart : Mo := fun Γ => some (none, Γ)
def mPart (me : Me) : Mo := fun Γ => (me Γ).bind fun p => match p.1 with
  | .im (.int i) => some (some i, p.2)
  | _ => none
theorem to_none : TOok K tNoPart mNoPart := fun A F Γ o Γ' e σ G H g Q q => by
  cases e
  exact q G H (Same.refl _) g
theorem to_some {te : TE} {me : Me} (h : TEok K te me) : TOok K (tPart te) (mPart me) := fun A F Γ o Γ' e σ G H g Q q => by
  obtain ⟨⟨r, Γ1⟩, e1, e⟩ := obind e
  dsimp only at e
  split at e
  · rename_i i
    cases e
    refine h A F Γ _ _ e1 σ G H g _ fun v G1 H1 s1 g1 h1 => ?_
    cases h1
    exact ⟨i, rfl, q G1 H1 s1 g1⟩
  · cases e
def cutD (xs : List D) (lo hi : Option Int) : List D := (xs.drop (HT.sIx xs.length 0 lo)).take (HT.sIx xs.length xs.length hi - HT.sIx xs.length 0 lo)
def mSl (me : Me) (ml mh : Mo) : Me := fun Γ => (me Γ).bind fun p => (ml p.2).bind fun q => (mh q.2).bind fun u => (peek u.2 (hold p.1)).bind fun d => match d with
  | .list ds => some (.fr (cutD ds q.1 u.1), u.2)
  | _ => none
theorem te_sl {te : TE} {tl th : TO} {me : Me} {ml mh : Mo} (h : TEok K te me) (hl : TOok K tl ml) (hh : TOok K th mh) : TEok K (tSl (rSlL K) te tl th) (mSl me ml mh) := fun A F Γ rs Γ' e σ G H g Q q => by
  obtain ⟨⟨r1, Γ1⟩, e1, e⟩ := obind e
  obtain ⟨⟨lo, Γ2⟩, e2, e⟩ := obind e
  obtain ⟨⟨hi, Γ3⟩, e3, e⟩ := obind e
  obtain ⟨d, e4, e⟩ := obind e
  dsimp only at e
  split at e
  · rename_i ds
    cases e
    refine h A F Γ r1 Γ1 e1 σ G H g _ fun x G1 H1 s1 g1 h1 => ?_
    obtain ⟨G1', s1', g1', h1'⟩ := hold_ok g1 h1
    refine hl A F Γ1 lo Γ2 e2 σ G1' H1 g1' _ fun G2 H2 s2 g2 => ?_
    refine hh A F Γ2 hi _ e3 σ G2 H2 g2 _ fun G3 H3 s3 g3 => ?_
    obtain ⟨a, xs, rfl, k1, k2⟩ := peek_ok g3 (held_mono (Γ' := Γ') (H' := H3) (s2.trans s3) h1') e4
    refine ⟨a, xs, rfl, k1, fun p hp => ?_⟩
    have k3 : DvA K G3 (cutV xs lo hi) (cutD ds lo hi) := by
      unfold cutV cutD
      rw [k2.length]
      exact (k2.drop _).take _
    obtain ⟨G4, s4, g4, h4⟩ := fin_ok (rr := .fr (cutD ds lo hi)) (v := .ref p) (H' := upd H3 p (.lst (cutV xs lo hi))) g3 ⟨p, _, rfl, hp, rfl, k3⟩
    exact q _ G4 _ ((s1.trans s1').trans ((s2.trans s3).trans s4)) g4 h4
  · cases e
end
end VL

set_option Elab.async false
set_option linter.all false
set_option maxRecDepth 100000
set_option maxHeartbeats 2000000
namespace VL
open PySem PySem.Spec PyProof.Rows L2
section
variable {K : PySem.W.Frag} {A : Addr} {F : Hp} {Γ Γ' : Gm} {σ : L2.St} {G G' H H' : Hp} {v : V} {d : D} {ds : List D} {r : Rs} {a p : Addr} {xs : List V}
/-! ### slots are stored -/
theorem set_getS {σ : L2.St} {i j : Nat} {o : Option V} {q : Option V} (e : (σ.set i o)[j]? = some q) : (i = j ∧ q = o) ∨ (i ≠ j ∧ σ[j]? = some q) := by
  by_cases hj : i = j
  · subst hj
    by_cases hl : i < σ.length
    · rw [List.getElem?_set_self hl] at e
      cases e
      exact .inl ⟨rfl, rfl⟩
    · rw [List.getElem?_eq_none (by rw [List.length_set]; omega)] at e
      cases e
  · rw [List.getElem?_set_ne hj] at e
    exact .inr ⟨hj, e⟩
theorem lt_of_get {α : Type} {l : List α} {i : Nat} {x : α} (e : l[i]? = some x) : i < l.length := (List.getElem?_eq_some_iff.mp e).1
theorem GS.asgIm (g : GS K A F Γ σ G H) (h : Dv K G v d) (i : Nat) : GS K A F (Γ.set i (some (.im d))) (σ.set i (some v)) G H where
  ex := g.ex
  fr := g.fr
  dj := g.dj
  len := by rw [List.length_set, List.length_set]; exact g.len
  sl := fun j o e => by
    have hl := lt_of_get e
    rw [List.length_set] at hl
    rcases set_get e with ⟨rfl, rfl⟩ | ⟨hj, e⟩
    · rw [List.getElem?_set_self (by rw [← g.len]; exact hl)]
      exact ⟨v, rfl, h⟩
    · rw [List.getElem?_set_ne hj]
      exact g.sl j o e
  of := fun j b ds a e1 e2 => by
    rcases set_get e1 with ⟨_, q⟩ | ⟨hj, e1⟩
    · cases q
    · rw [List.getElem?_set_ne hj] at e2
      exact g.of j b ds a e1 e2
  ne := fun j k b c ds es a e1 e2 e3 e4 => by
    rcases set_get e1 with ⟨_, q⟩ | ⟨hj, e1⟩
    · cases q
    · rcases set_get e2 with ⟨_, q⟩ | ⟨hk, e2⟩
      · cases q
      · rw [List.getElem?_set_ne hj] at e3
        rw [List.getElem?_set_ne hk] at e4
        exact g.ne j k b c ds es a e1 e2 e3 e4
theorem GS.asgOw (g : GS K A F Γ σ G H) (h : RsOk K F Γ σ G H v (.fr ds)) (i : Nat) : GS K A F (Γ.set i (some (.ow false ds))) (σ.set i (some v)) G H := by
  obtain ⟨a, xs, rfl, h1, h2, h3, h4, h5⟩ := h
  exact {
    ex := g.ex
    fr := g.fr
    dj := g.dj
    len := by rw [List.length_set, List.length_set]; exact g.len
    sl := fun j o e => by
      have hl := lt_of_get e
      rw [List.length_set] at hl
      rcases set_get e with ⟨rfl, rfl⟩ | ⟨hj, e⟩
      · rw [List.getElem?_set_self (by rw [← g.len]; exact hl)]
        exact ⟨a, xs, rfl, h1, h3, h4, fun z => by cases z⟩
      · rw [List.getElem?_set_ne hj]
        exact g.sl j o e
    of := fun j b es c e1 e2 => by
      rcases set_get e1 with ⟨rfl, _⟩ | ⟨hj, e1⟩
      · rcases set_getS e2 with ⟨_, q⟩ | ⟨hj, _⟩
        · cases q
          exact h2
        · exact absurd rfl hj
      · rw [List.getElem?_set_ne hj] at e2
        exact g.of j b es c e1 e2
    ne := fun j k b c es fs x e1 e2 e3 e4 => by
      rcases set_get e1 with ⟨rfl, _⟩ | ⟨hj, e1⟩
      · rcases set_get e2 with ⟨rfl, _⟩ | ⟨hk, e2⟩
        · rfl
        · rcases set_getS e3 with ⟨_, q⟩ | ⟨hj, _⟩
          · cases q
            rw [List.getElem?_set_ne hk] at e4
            exact absurd e4 (h5 k c fs e2)
          · exact absurd rfl hj
      · rcases set_get e2 with ⟨rfl, _⟩ | ⟨hk, e2⟩
        · rcases set_getS e4 with ⟨_, q⟩ | ⟨hk, _⟩
          · cases q
            rw [List.getElem?_set_ne hj] at e3
            exact absurd e3 (h5 j b es e1)
          · exact absurd rfl hk
        · rw [List.getElem?_set_ne hj] at e3
          rw [List.getElem?_set_ne hk] at e4
          exact g.ne j k b c es fs x e1 e2 e3 e4 }
/-- a slot's own list is changed -/
theorem GS.mut (g : GS K A F Γ σ G H) {i : Nat} {b : Bool} (e : Γ[i]? = some (some (.ow b ds))) (ha : σ[i]? = some (some (.ref a))) {ds' : List D} (h : DvA K G xs ds') : GS K A F (Γ.set i (some (.ow b ds'))) σ G (upd H a (.lst xs)) := by
  obtain ⟨c, ys, q1, q2, q3, q4, q5⟩ := g.ow e
  rw [ha] at q1
  cases q1
  have hF := g.of i b ds a e ha
  exact {
    ex := fun x u hx => by
      rw [upd_ne (ne_of_none hx q2)]
      exact g.ex x u hx
    fr := fun x u hx => by
      rw [upd_ne (ne_of_none hx hF)]
      exact g.fr x u hx
    dj := g.dj
    len := by rw [List.length_set]; exact g.len
    sl := fun j o ej => by
      rcases set_get ej with ⟨rfl, rfl⟩ | ⟨hj, ej⟩
      · exact ⟨a, xs, ha, q2, upd_same, h, q5⟩
      · refine (g.sl j o ej).mono (Same.refl _) fun x c es eo ex => ?_
        subst eo
        obtain ⟨y, ys, k1, k2, k3, _⟩ := g.ow ej
        rw [ex] at k1
        cases k1
        exact ⟨k2, upd_ne fun z => hj (g.ne i j b c ds es a e ej ha (by rw [← z]; exact ex))⟩
    of := fun j c es x ej ex => by
      rcases set_get ej with ⟨rfl, _⟩ | ⟨hj, ej⟩
      · rw [ha] at ex
        cases ex
        exact hF
      · exact g.of j c es x ej ex
    ne := fun j k c c' es fs x e1 e2 e3 e4 => by
      rcases set_get e1 with ⟨rfl, _⟩ | ⟨hj, e1⟩
      · rcases set_get e2 with ⟨rfl, _⟩ | ⟨hk, e2⟩
        · rfl
        · exact g.ne i k b c' ds fs x e e2 e3 e4
      · rcases set_get e2 with ⟨rfl, _⟩ | ⟨hk, e2⟩
        · exact g.ne j i c b es ds x e1 e e3 e4
        · exact g.ne j k c c' es fs x e1 e2 e3 e4 }
/-! ### frames -/
theorem GS.frameNew (g : GS K A F Γ σ G H) {o : HO} (h : H p = none) : GS K A (upd F p o) Γ σ G (upd H p o) := by
  have g2 := g.new (o := o) h
  exact {
    ex := g2.ex
    fr := fun b u e => by
      by_cases hb : b = p
      · subst hb
        rw [upd_same] at e ⊢
        exact e
      · rw [upd_ne hb] at e ⊢
        exact g.fr b u e
    dj := fun b hb => by
      by_cases hp : b = p
      · subst hp
        exact free_G g h
      · rw [upd_ne hp] at hb
        exact g.dj b hb
    len := g2.len
    sl := g2.sl
    of := fun i b ds a e1 e2 => by
      rw [upd_ne (fun z => by rw [z] at e2; exact free_sl g h i b ds e1 e2)]
      exact g.of i b ds a e1 e2
    ne := g2.ne }
theorem GS.frameSet {o o' : HO} (g : GS K A (upd F p o) Γ σ G H) : GS K A (upd F p o') Γ σ G (upd H p o') where
  ex := fun b u e => by
    have hp : G p = none := g.dj p (by rw [upd_same]; intro z; cases z)
    rw [upd_ne (ne_of_none e hp)]
    exact g.ex b u e
  fr := fun b u e => by
    by_cases hb : b = p
    · subst hb
      rw [upd_same] at e ⊢
      exact e
    · rw [upd_ne hb] at e ⊢
      exact g.fr b u (by rw [upd_ne hb]; exact e)
  dj := fun b hb => by
    by_cases hp : b = p
    · subst hp
      exact g.dj b (by rw [upd_same]; intro z; cases z)
    · rw [upd_ne hp] at hb
      exact g.dj b (by rw [upd_ne hp]; exact hb)
  len := g.len
  sl := fun i q e => (g.sl i q e).mono (Same.refl _) fun b c ds e1 e2 => by
    subst e1
    obtain ⟨y, ys, k1, k2, k3, _⟩ := g.ow e
    rw [e2] at k1
    cases k1
    refine ⟨k2, upd_ne fun z => ?_⟩
    have := g.of i c ds b e e2
    rw [z, upd_same] at this
    cases this
  of := fun i b ds a e1 e2 => by
    have h := g.of i b ds a e1 e2
    by_cases ha : a = p
    · subst ha
      rw [upd_same] at h
      cases h
    · rw [upd_ne ha] at h ⊢
      exact h
  ne := g.ne
theorem GS.frameDrop {o : HO} (g : GS K A (upd F p o) Γ σ G H) (h : F p = none) : GS K A F Γ σ G H where
  ex := g.ex
  fr := fun b u e => g.fr b u (by rw [upd_ne (ne_of_none e h)]; exact e)
  dj := fun b hb => g.dj b (by rw [upd_ne (fun z => hb (by rw [z]; exact h))]; exact hb)
  len := g.len
  sl := g.sl
  of := fun i b ds a e1 e2 => by
    have q := g.of i b ds a e1 e2
    by_cases ha : a = p
    · subst ha
      rw [upd_same] at q
      cases q
    · rw [upd_ne ha] at q
      exact q
  ne := g.ne
theorem GS.frameSl {o : HO} (g : GS K A (upd F p o) Γ σ G H) : ∀ (i : Nat) c es, Γ[i]? = some (some (.ow c es)) → σ[i]? ≠ some (some (.ref p)) := fun i c es e z => by
  have q := g.of i c es p e z
  rw [upd_same] at q
  cases q
/-! ### walks -/
def rrD : Rr → Option D
  | .im d => some d
  | .nt ds => some (.tuple ds)
  | .fr _ => none
theorem RrOk.mono {rr : Rr} (e : Same G G') (h : RrOk K G H v H' rr) : RrOk K G' H v H' rr := by
  cases rr with
  | im d => exact ⟨h.1, h.2.mono e⟩
  | fr ds =>
    obtain ⟨p, xs, h1, h2, h3, h4⟩ := h
    exact ⟨p, xs, h1, h2, h3, h4.mono e⟩
  | nt ds =>
    obtain ⟨p, xs, h1, h2, h3, h4⟩ := h
    exact ⟨p, xs, h1, h2, h3, h4.mono e⟩
/-- an item that a walk gives is data from then on -/
theorem item_ok {rr : Rr} (g : GS K A F Γ σ G H) (h : RrOk K G H v H' rr) (e : rrD rr = some d) : ∃ G', Same G G' ∧ GS K A F Γ σ G' H' ∧ Dv K G' v d := by
  cases rr with
  | im d' =>
    cases e
    obtain ⟨rfl, h⟩ := h
    exact ⟨G, Same.refl _, g, h⟩
  | nt ds =>
    cases e
    exact fin_ok (rr := .nt ds) g h
  | fr ds => cases e
abbrev Mi := Gm → Option (List D × Gm)
def ITok (K : PySem.W.Frag) (wi : TI) (m : Mi) : Prop := ∀ (A : Addr) (F : Hp) (Γ : Gm) (ds : List D) (Γ' : Gm), m Γ = some (ds, Γ') → ∀ (σ : L2.St) (G H : Hp), GS K A F Γ σ G H → ∀ R : It → Hp → Prop,
  (∀ J G' H' Gd Y, Same G G' → GS K A F Γ' σ G' H' → Walk J ds.length Gd Y → (∀ H2, Same G' H2 → Gd H2) → (∀ i H2 x H3, i < ds.length → Same G' H2 → Y i H2 x H3 → ∃ rr d, RrOk K G' H2 x H3 rr ∧ rrD rr = some d ∧ ds[i]? = some d) → R J H') → wi σ H R
/-! ### targets -/
def TGok (K : PySem.W.Frag) (g : TG) (m : D → Gm → Option Gm) (S : List Nat) : Prop := ∀ (A : Addr) (F : Hp) (Γ : Gm) (d : D) (Γ' : Gm), m d Γ = some Γ' → ∀ (σ : L2.St) (G H : Hp) (v : V), GS K A F Γ σ G H → Dv K G v d → ∀ Q : L2.St → Hp → Prop,
  (∀ σ', GS K A F Γ' σ' G H → (∀ vs : List Nat, (∀ i ∈ S, i ∈ vs) → wipe σ' vs = wipe σ vs) → Q σ' H) → g v σ H Q
def TGsok (K : PySem.W.Frag) (g : TGs) (m : List D → Gm → Option Gm) (S : List Nat) : Prop := ∀ (A : Addr) (F : Hp) (Γ : Gm) (ds : List D) (Γ' : Gm), m ds Γ = some Γ' → ∀ (σ : L2.St) (G H : Hp) (xs : List V), GS K A F Γ σ G H → DvA K G xs ds → ∀ Q : L2.St → Hp → Prop,
  (∀ σ', GS K A F Γ' σ' G H → (∀ vs : List Nat, (∀ i ∈ S, i ∈ vs) → wipe σ' vs = wipe σ vs) → Q σ' H) → g xs σ H Q
theorem wipe_get (σ : L2.St) (i : Nat) : ∀ vs : List Nat, (wipe σ vs)[i]? = if i ∈ vs then σ[i]?.map (fun _ => none) else σ[i]?
  | [] => by simp [wipe]
  | v :: vs => by
    show ((wipe σ vs).set v none)[i]? = _
    rw [List.getElem?_set, wipe_get σ i vs, wipe_length]
    by_cases h : v = i
    · subst h
      simp
      by_cases hl : v < σ.length
      · simp [hl]
      · simp [hl]
    · have h' : i ≠ v := fun z => h z.symm
      simp [h, h']
theorem wipe_set {σ : L2.St} {i : Nat} {x : Option V} {vs : List Nat} (h : i ∈ vs) : wipe (σ.set i x) vs = wipe σ vs := by
  apply List.ext_getElem?
  intro k
  rw [wipe_get, wipe_get]
  by_cases hk : k ∈ vs
  · rw [if_pos hk, if_pos hk]
    by_cases hik : i = k
    · subst hik
      by_cases hl : i < σ.length
      · simp [hl]
      · simp [hl]
    · rw [List.getElem?_set_ne hik]
  · rw [if_neg hk, if_neg hk, List.getElem?_set_ne (fun (z : i = k) => hk (z ▸ h))]
def gmName (i : Nat) : D → Gm → Option Gm := fun d Γ => some (Γ.set i (some (.im d)))
theorem tg_name (i : Nat) : TGok K (gName i) (gmName i) [i] := fun A F Γ d Γ' e σ G H v g h Q q => by
  cases e
  exact q _ (g.asgIm h i) fun vs hvs => wipe_set (hvs i (List.mem_singleton.mpr rfl))
def gmNil : List D → Gm → Option Gm := fun ds Γ => match ds with | [] => some Γ | _ => none
def gmCons (m : D → Gm → Option Gm) (ms : List D → Gm → Option Gm) : List D → Gm → Option Gm := fun ds Γ => match ds with | [] => none | d :: ds => (m d Γ).bind fun Γ1 => ms ds Γ1
theorem tgs_nil : TGsok K gNil gmNil [] := fun A F Γ ds Γ' e σ G H xs g h Q q => by
  cases h with
  | nil =>
    cases e
    exact ⟨rfl, q σ g fun _ _ => rfl⟩
  | cons _ _ => cases e
theorem tgs_cons {t : TG} {u : TGs} {m : D → Gm → Option Gm} {ms : List D → Gm → Option Gm} {S S' : List Nat} (h1 : TGok K t m S) (h2 : TGsok K u ms S') : TGsok K (gCons t u) (gmCons m ms) (S ++ S') := fun A F Γ ds Γ' e σ G H xs g h Q q => by
  cases h with
  | nil => cases e
  | @cons v vs d ds hv hs =>
    obtain ⟨Γ1, e1, e2⟩ := obind e
    refine ⟨v, vs, rfl, h1 A F Γ d Γ1 e1 σ G H v g hv _ fun σ1 g1 w1 => ?_⟩
    refine h2 A F Γ1 ds Γ' e2 σ1 G H vs g1 hs Q fun σ2 g2 w2 => q σ2 g2 fun vs' hvs => ?_
    rw [w2 vs' fun i hi => hvs i (List.mem_append_right _ hi), w1 vs' fun i hi => hvs i (List.mem_append_left _ hi)]
def gmTup (n : Nat) (ms : List D → Gm → Option Gm) : D → Gm → Option Gm := fun d Γ => match d with | .tuple ds => if ds.length = n then ms ds Γ else none | _ => none
theorem tg_tup {n : Nat} {u : TGs} {ms : List D → Gm → Option Gm} {S : List Nat} (h : TGsok K u ms S) : TGok K (gTup K n u) (gmTup n ms) S := fun A F Γ d Γ' e σ G H v g hv Q q => by
  cases hv with
  | @tup a xs ds h1 h2 =>
    have e : (if ds.length = n then ms ds Γ else none) = some Γ' := e
    by_cases hn : ds.length = n
    · rw [if_pos hn] at e
      exact ⟨a, xs, rfl, sqt_mono g.ex h1, by rw [h2.length]; exact hn, h A F Γ ds Γ' e σ G H xs g h2 Q q⟩
    · rw [if_neg hn] at e
      cases e
  | _ => cases e
end
end VL

set_option Elab.async false
set_option linter.all false
set_option maxRecDepth 100000
set_option maxHeartbeats 2000000
namespace VL
open PySem PySem.Spec PyProof.Rows L2
section
variable {K : PySem.W.Frag}
/-! ### comprehensions -/
def wipeG (Γ : Gm) : List Nat → Gm
  | [] => Γ
  | v :: vs => (wipeG Γ vs).set v none
def hidOk (Γ : Gm) (vs : List Nat) : Bool := vs.all fun i => match Γ[i]? with | some (some (.ow _ _)) => false | _ => true
def mergeG (Γ0 Γb : Gm) : List Nat → Gm
  | [] => Γb
  | v :: vs => (mergeG Γ0 Γb vs).set v (Γ0[v]?.getD none)
theorem wipeG_length (Γ : Gm) : ∀ vs : List Nat, (wipeG Γ vs).length = Γ.length
  | [] => rfl
  | v :: vs => by
    show ((wipeG Γ vs).set v none).length = _
    rw [List.length_set, wipeG_length Γ vs]
theorem mergeG_length (Γ Γb : Gm) : ∀ vs : List Nat, (mergeG Γ Γb vs).length = Γb.length
  | [] => rfl
  | v :: vs => by
    show ((mergeG Γ Γb vs).set v _).length = _
    rw [List.length_set, mergeG_length Γ Γb vs]
theorem wipeG_get {Γ : Gm} {i : Nat} {o : OV} : ∀ {vs : List Nat}, (wipeG Γ vs)[i]? = some (some o) → i ∉ vs ∧ Γ[i]? = some (some o)
  | [], h => ⟨by simp, h⟩
  | v :: vs, h => by
    rcases set_get h with ⟨_, q⟩ | ⟨hj, q⟩
    · cases q
    · obtain ⟨q1, q2⟩ := wipeG_get q
      exact ⟨fun z => (List.mem_cons.mp z).elim (fun e => hj e.symm) q1, q2⟩
theorem mergeG_get {Γ Γb : Gm} {i : Nat} {o : OV} : ∀ {vs : List Nat}, (mergeG Γ Γb vs)[i]? = some (some o) → (i ∈ vs ∧ Γ[i]? = some (some o)) ∨ (i ∉ vs ∧ Γb[i]? = some (some o))
  | [], h => .inr ⟨by simp, h⟩
  | v :: vs, h => by
    rcases set_get h with ⟨rfl, q⟩ | ⟨hj, q⟩
    · refine .inl ⟨List.mem_cons_self, ?_⟩
      cases e : Γ[v]? with
      | none => rw [e] at q; cases q
      | some w =>
        rw [e] at q
        have q : some o = w := q
        rw [← q]
    · rcases mergeG_get q with ⟨q1, q2⟩ | ⟨q1, q2⟩
      · exact .inl ⟨List.mem_cons_of_mem _ q1, q2⟩
      · exact .inr ⟨fun z => (List.mem_cons.mp z).elim (fun e => hj e.symm) q1, q2⟩
theorem wipe_out {σ : L2.St} {i : Nat} {vs : List Nat} (h : i ∉ vs) : (wipe σ vs)[i]? = σ[i]? := by rw [wipe_get, if_neg h]
theorem GS.wiped {A : Addr} {F : Hp} {Γ : Gm} {σ : L2.St} {G H : Hp} (g : GS K A F Γ σ G H) (vs : List Nat) : GS K A F (wipeG Γ vs) (wipe σ vs) G H where
  ex := g.ex
  fr := g.fr
  dj := g.dj
  len := by rw [wipeG_length, wipe_length]; exact g.len
  sl := fun i o e => by
    cases o with
    | none => trivial
    | some o =>
      obtain ⟨q1, q2⟩ := wipeG_get e
      rw [wipe_out q1]
      exact g.sl i _ q2
  of := fun i b ds a e1 e2 => by
    obtain ⟨q1, q2⟩ := wipeG_get e1
    rw [wipe_out q1] at e2
    exact g.of i b ds a q2 e2
  ne := fun i j b c ds es a e1 e2 e3 e4 => by
    obtain ⟨q1, q2⟩ := wipeG_get e1
    obtain ⟨q3, q4⟩ := wipeG_get e2
    rw [wipe_out q1] at e3
    rw [wipe_out q3] at e4
    exact g.ne i j b c ds es a q2 q4 e3 e4
/-- back from the block: the names of the block are as they were -/
theorem GS.merged {A : Addr} {F : Hp} {Γ Γb : Gm} {σ : L2.St} {vs : List Nat} {G Gb H Hb : Hp} (g : GS K A F Γ σ G H) (hid : hidOk Γ vs = true) (gb : GS K A F Γb (wipe σ vs) Gb Hb) (e : Same G Gb) : GS K A F (mergeG Γ Γb vs) σ Gb Hb := by
  have noOw : ∀ (i : Nat) b ds, i ∈ vs → Γ[i]? ≠ some (some (.ow b ds)) := fun i b ds hi z => by
    have := List.all_eq_true.mp hid i hi
    rw [z] at this
    cases this
  have back : ∀ (i : Nat) b ds, (mergeG Γ Γb vs)[i]? = some (some (.ow b ds)) → i ∉ vs ∧ Γb[i]? = some (some (.ow b ds)) := fun i b ds h => by
    rcases mergeG_get h with ⟨q1, q2⟩ | q
    · exact absurd q2 (noOw i b ds q1)
    · exact q
  exact {
    ex := gb.ex
    fr := gb.fr
    dj := gb.dj
    len := by rw [mergeG_length, gb.len, wipe_length]
    sl := fun i o h => by
      cases o with
      | none => trivial
      | some o =>
        rcases mergeG_get h with ⟨q1, q2⟩ | ⟨q1, q2⟩
        · cases o with
          | ow b ds => exact absurd q2 (noOw i b ds q1)
          | im d =>
            obtain ⟨x, k1, k2⟩ := g.im q2
            exact ⟨x, k1, k2.mono e⟩
        · have := gb.sl i _ q2
          rw [wipe_out q1] at this
          exact this
    of := fun i b ds a e1 e2 => by
      obtain ⟨q1, q2⟩ := back i b ds e1
      exact gb.of i b ds a q2 (by rw [wipe_out q1]; exact e2)
    ne := fun i j b c ds es a e1 e2 e3 e4 => by
      obtain ⟨q1, q2⟩ := back i b ds e1
      obtain ⟨q3, q4⟩ := back j c es e2
      exact gb.ne i j b c ds es a q2 q4 (by rw [wipe_out q1]; exact e3) (by rw [wipe_out q3]; exact e4) }
def mYes : Mt := fun Γ => some (true, Γ)
theorem tt_yes : TTok K tYes mYes := fun A F Γ b Γ' e σ G H g Q q => by
  cases e
  exact q G H (Same.refl _) g
/-- one turn of a comprehension -/
def lcTurn (mt : D → Gm → Option Gm) (mc : Mt) (me : Me) (d : D) (Γ : Gm) : Option (Option D × Gm) := (mt d Γ).bind fun Γ1 => (mc Γ1).bind fun p => if p.1 = true then (me p.2).bind fun q => (frz q.2 q.1).bind fun u => some (some u.1, u.2) else some (none, p.2)
def lcGo (mt : D → Gm → Option Gm) (mc : Mt) (me : Me) (vs : List Nat) : List D → Gm → List D → Option (List D × Gm)
  | [], Γ, acc => some (acc, Γ)
  | d :: ds, Γ, acc => (lcTurn mt mc me d Γ).bind fun p => lcGo mt mc me vs ds (wipeG p.2 vs) (acc ++ p.1.toList)
def mLc (mi : Mi) (mt : D → Gm → Option Gm) (mc : Mt) (me : Me) (vs : List Nat) : Me := fun Γ => (mi Γ).bind fun p =>
  if hidOk p.2 vs && decide (p.1.length ≤ LIM) then (lcGo mt mc me vs p.1 (wipeG p.2 vs) []).bind fun q => some (.fr q.1, mergeG p.2 q.2 vs) else none
theorem lim_lt {n : Nat} (h : n ≤ LIM) : n < sizeLine := Nat.lt_of_le_of_lt h (by decide)
theorem wipe_wipe (σ : L2.St) (vs : List Nat) : wipe (wipe σ vs) vs = wipe σ vs := by
  apply List.ext_getElem?
  intro k
  rw [wipe_get, wipe_get]
  by_cases hk : k ∈ vs
  · simp only [hk, if_true]
    cases σ[k]? <;> rfl
  · simp [hk]
theorem te_lc {wi : TI} {g : TG} {tt : TT} {te : TE} {mi : Mi} {mt : D → Gm → Option Gm} {mc : Mt} {me : Me} {S vs : List Nat} (hi : ITok K wi mi) (hg : TGok K g mt S) (hc : TTok K tt mc) (he : TEok K te me) (hS : ∀ i ∈ S, i ∈ vs) :
    TEok K (tLc wi g tt te vs) (mLc mi mt mc me vs) := fun A F Γ rs Γ' e σ G H gs Q q => by
  obtain ⟨⟨ds, Γ1⟩, e1, e⟩ := obind e
  dsimp only at e
  split at e
  case isFalse => cases e
  rename_i hh
  obtain ⟨hid, hz⟩ := Bool.and_eq_true_iff.mp hh
  have hz := of_decide_eq_true hz
  obtain ⟨⟨out, Γb⟩, e2, e⟩ := obind e
  cases e
  refine hi A F Γ ds Γ1 e1 σ G H gs _ fun J G1 H1 Gd Y s1 g1 wk hGd hY => ?_
  intro Dl hD
  refine lc_it wk (fun i Hi => ∃ Γi Gi xs acc, lcGo mt mc me vs (ds.drop i) Γi acc = some (out, Γb) ∧ Same G1 Gi ∧ GS K A (upd F Dl (.lst xs)) Γi (wipe σ vs) Gi Hi ∧ DvA K Gi xs acc ∧ acc.length ≤ i) ?_ ?_ ?_ ?_
  · exact ⟨wipeG Γ1 vs, G1, [], [], by rw [List.drop_zero]; exact e2, Same.refl _, (g1.wiped vs).frameNew hD, .nil, Nat.zero_le _⟩
  · rintro i Hi _ ⟨Γi, Gi, xs, acc, _, k2, k3, _⟩
    exact hGd Hi (k2.trans k3.ex)
  · rintro i x Hi H' hi ⟨Γi, Gi, xs, acc, k1, k2, k3, k4, k5⟩ y
    obtain ⟨rr, d, r1, r2, r3⟩ := hY i Hi x H' hi (k2.trans k3.ex) y
    have hdrop : ds.drop i = d :: ds.drop (i + 1) := by
      have hlt := lt_of_get r3
      rw [List.drop_eq_getElem_cons hlt]
      congr 1
      exact Option.some.inj ((List.getElem?_eq_getElem hlt).symm.trans r3)
    rw [hdrop] at k1
    obtain ⟨⟨od, Γt⟩, t1, k1⟩ := obind k1
    obtain ⟨Γ2, t2, t1⟩ := obind t1
    obtain ⟨⟨b, Γ3⟩, t3, t1⟩ := obind t1
    obtain ⟨G2, s2, g2, h2⟩ := item_ok k3 (r1.mono k2) r2
    refine hg A _ Γi d Γ2 t2 (wipe σ vs) G2 H' x g2 h2 _ fun σ3 g3 w3 => ?_
    have w3' := w3 vs hS
    rw [wipe_wipe] at w3'
    refine ⟨w3', ?_⟩
    refine hc A _ Γ2 b Γ3 t3 σ3 G2 H' g3 _ fun G4 H4 s4 g4 => ?_
    cases b with
    | false =>
      have t1 : some (none, Γ3) = some (od, Γt) := t1
      cases t1
      refine iteF ⟨wipeG Γt vs, G4, xs, acc, ?_, (k2.trans s2).trans s4, ?_, k4.mono (s2.trans s4), by omega⟩
      · rw [show acc ++ (none : Option D).toList = acc by simp] at k1
        exact k1
      · have := g4.wiped vs
        rw [w3'] at this
        exact this
    | true =>
      have t1 : ((me Γ3).bind fun q => (frz q.2 q.1).bind fun u => some (some u.1, u.2)) = some (od, Γt) := t1
      obtain ⟨⟨rv, Γ5⟩, t5, t1⟩ := obind t1
      obtain ⟨⟨dv, Γ6⟩, t6, t1⟩ := obind t1
      cases t1
      refine iteT (he A _ Γ3 rv Γ5 t5 σ3 G4 H4 g4 _ fun y G5 H5 s5 g5 h5 => ?_)
      obtain ⟨G6, s6, g6, h6⟩ := frz_ok g5 h5 t6
      refine ⟨xs, g6.fr Dl _ upd_same, ?_, ?_⟩
      · rw [k4.length]
        exact lim_lt (by omega)
      · refine ⟨wipeG Γ6 vs, G6, xs ++ [y], acc ++ [dv], k1, ((k2.trans s2).trans s4).trans (s5.trans s6), ?_, (k4.mono ((s2.trans s4).trans (s5.trans s6))).append (.one h6), ?_⟩
        · have := (g6.wiped vs).frameSet (o' := .lst (xs ++ [y]))
          rw [w3'] at this
          exact this
        · rw [List.length_append]
          show acc.length + 1 ≤ i + 1
          omega
  · rintro H9 ⟨Γi, Gi, xs, acc, k1, k2, k3, k4, _⟩
    rw [List.drop_length] at k1
    cases k1
    have g9 := k3.frameDrop (free_F g1 hD)
    have gm := g1.merged hid g9 k2
    refine q (.ref Dl) Gi H9 (s1.trans k2) gm ⟨Dl, xs, rfl, k3.dj Dl (by rw [upd_same]; intro z; cases z), free_F g1 hD, k3.fr Dl _ upd_same, k4, fun i c es ei z => ?_⟩
    have noOw : i ∉ vs ∧ Γb[i]? = some (some (.ow c es)) := by
      rcases mergeG_get ei with ⟨q1, q2⟩ | q
      · have := List.all_eq_true.mp hid i q1
        rw [q2] at this
        cases this
      · exact q
    exact k3.frameSl i c es noOw.2 (by rw [wipe_out noOw.1]; exact z)
end
end VL

set_option Elab.async false
set_option linter.all false
set_option maxRecDepth 100000
set_option maxHeartbeats 2000000
namespace VL
open PySem PySem.Spec PyProof.Rows L2
/-! ### statements -/
inductive Out where
  | nx (Γ : Gm)
  | rt (r : Rs) (Γ : Gm)
  | bk (Γ : Gm)
  | ct (Γ : Gm)
abbrev Ms := Gm → Option Out
def OutOk (K : PySem.W.Frag) (A : Addr) (F : Hp) (D : Ends) (G0 : Hp) : Out → Prop
  | .nx Γ' => ∀ σ' G' H', Same G0 G' → GS K A F Γ' σ' G' H' → D.nx σ' H'
  | .rt r Γ' => ∀ v σ' G' H', Same G0 G' → GS K A F Γ' σ' G' H' → RsOk K F Γ' σ' G' H' v r → D.rt v H'
  | .bk Γ' => ∀ σ' G' H', Same G0 G' → GS K A F Γ' σ' G' H' → D.bk σ' H'
  | .ct Γ' => ∀ σ' G' H', Same G0 G' → GS K A F Γ' σ' G' H' → D.ct σ' H'
def TSok (K : PySem.W.Frag) (t : TS) (m : Ms) : Prop := ∀ (A : Addr) (F : Hp) (Γ : Gm) (o : Out), m Γ = some o → ∀ (σ : L2.St) (G H : Hp) (D : Ends), GS K A F Γ σ G H → OutOk K A F D G o → t D σ H
section
variable {K : PySem.W.Frag}
theorem OutOk.mono {A : Addr} {F : Hp} {D : Ends} {G0 G1 : Hp} (e : Same G0 G1) : ∀ {o : Out}, OutOk K A F D G0 o → OutOk K A F D G1 o
  | .nx _, h => fun σ' G' H' s => h σ' G' H' (e.trans s)
  | .rt _ _, h => fun v σ' G' H' s => h v σ' G' H' (e.trans s)
  | .bk _, h => fun σ' G' H' s => h σ' G' H' (e.trans s)
  | .ct _, h => fun σ' G' H' s => h σ' G' H' (e.trans s)
def sNext : Ms := fun Γ => some (.nx Γ)
theorem ts_next : TSok K tNext sNext := fun A F Γ o e σ G H D g q => by
  cases e
  exact q σ G H (Same.refl _) g
def sSeq (m n : Ms) : Ms := fun Γ => (m Γ).bind fun o => match o with
  | .nx Γ' => n Γ'
  | o => some o
theorem ts_seq {t u : TS} {m n : Ms} (h : TSok K t m) (k : TSok K u n) : TSok K (tSeq t u) (sSeq m n) := fun A F Γ o e σ G H D g q => by
  obtain ⟨o1, e1, e⟩ := obind e
  refine h A F Γ o1 e1 σ G H { D with nx := u D } g ?_
  cases o1 with
  | nx Γ1 => exact fun σ' G' H' s g' => k A F Γ1 o e σ' G' H' D g' (q.mono s)
  | rt r Γ1 =>
    cases e
    exact q
  | bk Γ1 =>
    cases e
    exact q
  | ct Γ1 =>
    cases e
    exact q
def sBreak : Ms := fun Γ => some (.bk Γ)
def sCont : Ms := fun Γ => some (.ct Γ)
theorem ts_break : TSok K tBreak sBreak := fun A F Γ o e σ G H D g q => by
  cases e
  exact q σ G H (Same.refl _) g
theorem ts_cont : TSok K tCont sCont := fun A F Γ o e σ G H D g q => by
  cases e
  exact q σ G H (Same.refl _) g
def sNever : Ms := fun _ => none
theorem ts_never : TSok K tNever sNever := fun A F Γ o e => by cases e
def sDrop (me : Me) : Ms := fun Γ => (me Γ).bind fun p => some (.nx p.2)
theorem ts_drop {te : TE} {me : Me} (h : TEok K te me) : TSok K (tDrop te) (sDrop me) := fun A F Γ o e σ G H D g q => by
  obtain ⟨⟨r, Γ1⟩, e1, e⟩ := obind e
  cases e
  exact h A F Γ r Γ1 e1 σ G H g _ fun v G1 H1 s1 g1 _ => q σ G1 H1 s1 g1
def retO (Γ : Gm) (i : Nat) : Option (Option OV) → Option Out
  | some (some (.im d)) => some (.rt (.im d) Γ)
  | some (some (.ow false ds)) => some (.rt (.fr ds) (Γ.set i none))
  | _ => none
def retR (Γ : Gm) : Rs → Option Out
  | .im d => some (.rt (.im d) Γ)
  | .fr ds => some (.rt (.fr ds) Γ)
  | .sl i => retO Γ i Γ[i]?
def sRet (me : Me) : Ms := fun Γ => (me Γ).bind fun p => retR p.2 p.1
theorem ts_ret {te : TE} {me : Me} (h : TEok K te me) : TSok K (tRet te) (sRet me) := fun A F Γ o e σ G H D g q => by
  obtain ⟨⟨r, Γ1⟩, e1, e⟩ := obind e
  refine h A F Γ r Γ1 e1 σ G H g _ fun v G1 H1 s1 g1 h1 => ?_
  cases r with
  | im d =>
    cases e
    exact q v σ G1 H1 s1 g1 h1
  | fr ds =>
    cases e
    exact q v σ G1 H1 s1 g1 h1
  | sl i =>
    have h1 : σ[i]? = some (some v) := h1
    have e : retO Γ1 i Γ1[i]? = some o := e
    unfold retO at e
    split at e
    · rename_i d e2
      cases e
      obtain ⟨x, k1, k2⟩ := g1.im e2
      rw [h1] at k1
      cases k1
      exact q v σ G1 H1 s1 g1 k2
    · rename_i ds e2
      cases e
      obtain ⟨a, xs, k1, k2, k3, k4, _⟩ := g1.ow e2
      rw [h1] at k1
      cases k1
      exact q _ σ G1 H1 s1 (g1.drop i) ⟨a, xs, rfl, k2, g1.of i false ds a e2 h1, k3, k4, fun j c es ej z => by
        rcases set_get ej with ⟨_, w⟩ | ⟨hj, ej⟩
        · cases w
        · exact hj (g1.ne i j false c ds es a e2 ej h1 z)⟩
    · cases e
def sRetN : Ms := fun Γ => some (.rt (.im .none) Γ)
theorem ts_retN : TSok K tRetN sRetN := fun A F Γ o e σ G H D g q => by
  cases e
  exact q .non σ G H (Same.refl _) g .non
def sIf (mt : Mt) (m n : Ms) : Ms := fun Γ => (mt Γ).bind fun p => if p.1 = true then m p.2 else n p.2
theorem ts_if {c : TT} {t u : TS} {mt : Mt} {m n : Ms} (hc : TTok K c mt) (h : TSok K t m) (k : TSok K u n) : TSok K (tIfS c t u) (sIf mt m n) := fun A F Γ o e σ G H D g q => by
  obtain ⟨⟨b, Γ1⟩, e1, e⟩ := obind e
  refine hc A F Γ b Γ1 e1 σ G H g _ fun G1 H1 s1 g1 => ?_
  cases b with
  | true => exact iteT (h A F Γ1 o e σ G1 H1 D g1 (q.mono s1))
  | false => exact iteF (k A F Γ1 o e σ G1 H1 D g1 (q.mono s1))
/-! ### stores -/
def asgR (Γ : Gm) (i : Nat) : Rs → Option Gm
  | .im d => some (Γ.set i (some (.im d)))
  | .fr ds => some (Γ.set i (some (.ow false ds)))
  | .sl j => (frz Γ (.sl j)).bind fun p => some (p.2.set i (some (.im p.1)))
def sAsg (i : Nat) (me : Me) : Ms := fun Γ => (me Γ).bind fun p => (asgR p.2 i p.1).bind fun Γ' => some (.nx Γ')
theorem ts_asg {te : TE} {me : Me} (i : Nat) (h : TEok K te me) : TSok K (tAsg te (gName i)) (sAsg i me) := fun A F Γ o e σ G H D g q => by
  obtain ⟨⟨r, Γ1⟩, e1, e⟩ := obind e
  obtain ⟨Γ2, e2, e⟩ := obind e
  cases e
  refine h A F Γ r Γ1 e1 σ G H g _ fun v G1 H1 s1 g1 h1 => ?_
  show D.nx (σ.set i (some v)) H1
  cases r with
  | im d =>
    cases e2
    exact q _ G1 H1 s1 (g1.asgIm h1 i)
  | fr ds =>
    cases e2
    exact q _ G1 H1 s1 (g1.asgOw h1 i)
  | sl j =>
    obtain ⟨⟨d, Γ3⟩, e3, e2⟩ := obind e2
    cases e2
    obtain ⟨G3, s3, g3, h3⟩ := frz_ok g1 h1 e3
    exact q _ G3 H1 (s1.trans s3) (g3.asgIm h3 i)
def sAsgT (mt : D → Gm → Option Gm) (me : Me) : Ms := fun Γ => (me Γ).bind fun p => (frz p.2 p.1).bind fun u => (mt u.1 u.2).bind fun Γ' => some (.nx Γ')
theorem ts_asgT {te : TE} {me : Me} {t : TG} {mt : D → Gm → Option Gm} {S : List Nat} (h : TEok K te me) (ht : TGok K t mt S) : TSok K (tAsg te t) (sAsgT mt me) := fun A F Γ o e σ G H D g q => by
  obtain ⟨⟨r, Γ1⟩, e1, e⟩ := obind e
  obtain ⟨⟨d, Γ2⟩, e2, e⟩ := obind e
  obtain ⟨Γ3, e3, e⟩ := obind e
  cases e
  refine h A F Γ r Γ1 e1 σ G H g _ fun v G1 H1 s1 g1 h1 => ?_
  obtain ⟨G2, s2, g2, h2⟩ := frz_ok g1 h1 e2
  exact ht A F Γ2 d Γ3 e3 σ G2 H1 v g2 h2 _ fun σ' g' _ => q σ' G2 H1 (s1.trans s2) g'
/-- a, b = e, f -/
def sPar (i j : Nat) (ma : Ma) : Ms := fun Γ => (ma Γ).bind fun p => (frzA p.2 p.1).bind fun q => match q.1 with
  | [d, e] => some (.nx ((q.2.set i (some (.im d))).set j (some (.im e))))
  | _ => none
theorem ts_par {i j : Nat} {ta : TA} {ma : Ma} (h : TAok K ta ma) : TSok K (tPar i j ta) (sPar i j ma) := fun A F Γ o e σ G H D g q => by
  obtain ⟨⟨rs, Γ1⟩, e1, e⟩ := obind e
  obtain ⟨⟨ds, Γ2⟩, e2, e⟩ := obind e
  dsimp only at e
  split at e
  · rename_i d d2
    cases e
    refine h A F Γ rs Γ1 e1 σ G H g _ fun vs G1 H1 s1 g1 h1 => ?_
    obtain ⟨G2, s2, g2, h2⟩ := frzA_ok g1 h1 e2
    cases h2 with
    | cons k1 k2 =>
      cases k2 with
      | cons k2 k3 =>
        cases k3
        exact ⟨_, _, rfl, q _ G2 H1 (s1.trans s2) ((g2.asgIm k1 i).asgIm k2 j)⟩
  · cases e
/-! ### methods that change a list -/
def slotUp (Γ : Gm) (f : List D → Option (D × List D)) : Rs → Option (Rs × Gm)
  | .sl j => match Γ[j]? with
    | some (some (.ow b ds)) => (f ds).bind fun p => some (.im p.1, Γ.set j (some (.ow b p.2)))
    | _ => none
  | _ => none
theorem slotUp_some {Γ : Gm} {f : List D → Option (D × List D)} {r : Rs} {rs : Rs} {Γ' : Gm} (e : slotUp Γ f r = some (rs, Γ')) : ∃ j b ds d ds', r = .sl j ∧ Γ[j]? = some (some (.ow b ds)) ∧ f ds = some (d, ds') ∧ rs = .im d ∧ Γ' = Γ.set j (some (.ow b ds')) := by
  unfold slotUp at e
  split at e
  · rename_i j
    split at e
    · rename_i b ds e5
      obtain ⟨⟨d, ds'⟩, e6, e⟩ := obind e
      cases e
      exact ⟨j, b, ds, d, ds', rfl, e5, e6, rfl, rfl⟩
    · cases e
  · cases e
def intR : Rs → Option Int
  | .im (.int i) => some i
  | _ => none
theorem intR_some {r : Rs} {i : Int} (e : intR r = some i) : r = .im (.int i) := by
  unfold intR at e
  split at e
  · cases e
    rfl
  · cases e
def isL : D → Option Unit
  | .list _ => some ()
  | _ => none
theorem ty_list {A : Addr} {F : Hp} {Γ : Gm} {σ : L2.St} {G H : Hp} {v : V} {r : Rs} {d : D} (g : GS K A F Γ σ G H) (h : RsOk K F Γ σ G H v r) (e1 : peek Γ r = some d) (e2 : isL d = some ()) : tyV K "list" v H := by
  cases d with
  | list ds =>
    obtain ⟨a, xs, rfl, k1, _⟩ := peek_ok g h e1
    exact .inl ⟨rfl, xs, k1⟩
  | _ => cases e2
/-- x[i] = e of a list that a name alone holds -/
def sSetL (me mo mi : Me) : Ms := fun Γ => (me Γ).bind fun p => (frz p.2 p.1).bind fun u => (mo u.2).bind fun po => (mi po.2).bind fun pi => (intR pi.1).bind fun k =>
  (slotUp pi.2 (fun ds => (ixN ds.length k).bind fun n => some (.none, ds.set n u.1)) po.1).bind fun w => some (.nx w.2)
theorem ts_setL {te to ti : TE} {me mo mi : Me} (h : TEok K te me) (ho : TEok K to mo) (hi : TEok K ti mi) : TSok K (tAsg te (gSub to ti rSetL)) (sSetL me mo mi) := fun A F Γ o e σ G H D g q => by
  obtain ⟨⟨r, Γ1⟩, e1, e⟩ := obind e
  obtain ⟨⟨d, Γ2⟩, e2, e⟩ := obind e
  obtain ⟨⟨ro, Γ3⟩, e3, e⟩ := obind e
  obtain ⟨⟨ri, Γ4⟩, e4, e⟩ := obind e
  obtain ⟨k, e5, e⟩ := obind e
  obtain ⟨⟨rw', Γ5⟩, e6, e⟩ := obind e
  cases e
  obtain ⟨j, b, ds, d2, ds', er, e7, e8, e9, e10⟩ := slotUp_some e6
  obtain ⟨n, e11, e12⟩ := obind e8
  have er : ro = .sl j := er
  have e5 : ri = .im (.int k) := intR_some e5
  subst er e5
  cases e12
  refine h A F Γ r Γ1 e1 σ G H g _ fun v G1 H1 s1 g1 h1 => ?_
  obtain ⟨G2, s2, g2, h2⟩ := frz_ok g1 h1 e2
  refine ho A F Γ2 _ Γ3 e3 σ G2 H1 g2 _ fun w G3 H3 s3 g3 h3 => ?_
  refine hi A F Γ3 _ Γ4 e4 σ G3 H3 g3 _ fun z G4 H4 s4 g4 h4 => ?_
  cases h4
  have h3 : σ[j]? = some (some w) := h3
  obtain ⟨a, xs, k1, k2, k3, k4, _⟩ := g4.ow e7
  rw [h3] at k1
  cases k1
  refine ⟨a, xs, k, n, rfl, rfl, k3, by rw [k4.length]; exact e11, ?_⟩
  have gm := g4.mut e7 h3 (k4.set (h2.mono (s3.trans s4)) n)
  have e10 : Γ5 = _ := e10
  rw [← e10] at gm
  exact q σ G4 _ ((s1.trans s2).trans (s3.trans s4)) gm
def mApp (mo me : Me) : Me := fun Γ => (mo Γ).bind fun p => (peek p.2 p.1).bind fun d => (isL d).bind fun _ => (me p.2).bind fun q => (frz q.2 q.1).bind fun u => slotUp u.2 (fun ds => if ds.length < LIM then some (.none, ds ++ [u.1]) else none) p.1
theorem te_app {to te : TE} {mo me : Me} (ho : TEok K to mo) (h : TEok K te me) : TEok K (tBM K "list" rAppend to (tCons te tNil)) (mApp mo me) := fun A F Γ rs Γ' e σ G H g Q q => by
  obtain ⟨⟨r, Γ1⟩, e1, e⟩ := obind e
  obtain ⟨dl, el, e⟩ := obind e
  obtain ⟨_, el2, e⟩ := obind e
  obtain ⟨⟨r2, Γ2⟩, e2, e⟩ := obind e
  obtain ⟨⟨d, Γ3⟩, e3, e⟩ := obind e
  obtain ⟨j, b, ds, d2, ds', er, e5, e6, er2, e10⟩ := slotUp_some e
  have er : r = .sl j := er
  subst er er2
  by_cases hz : ds.length < LIM
  · rw [if_pos hz] at e6
    cases e6
    refine ho A F Γ _ Γ1 e1 σ G H g _ fun v G1 H1 s1 g1 h1 => ?_
    refine ⟨ty_list g1 h1 el el2, h A F Γ1 r2 Γ2 e2 σ G1 H1 g1 _ fun y G2 H2 s2 g2 h2 => ?_⟩
    have h1 : σ[j]? = some (some v) := h1
    obtain ⟨G3, s3, g3, h3⟩ := frz_ok g2 h2 e3
    obtain ⟨a, xs, k1, k2, k3, k4, _⟩ := g3.ow e5
    rw [h1] at k1
    cases k1
    refine ⟨a, xs, y, rfl, rfl, k3, by rw [k4.length]; exact lim_lt (Nat.le_of_lt hz), ?_⟩
    have gm := g3.mut e5 h1 (k4.append (.one h3))
    have e10 : Γ' = _ := e10
    rw [← e10] at gm
    exact q .non G3 _ ((s1.trans s2).trans s3) gm .non
  · rw [if_neg hz] at e6
    cases e6
/-- x.pop(i) -/
def mPopAt (mo mi : Me) : Me := fun Γ => (mo Γ).bind fun p => (peek p.2 p.1).bind fun d => (isL d).bind fun _ => (mi p.2).bind fun q => (intR q.1).bind fun k => slotUp q.2 (fun ds => (ixN ds.length k).bind fun n => (ds[n]?).bind fun x => if ds.length ≤ LIM then some (x, ds.eraseIdx n) else none) p.1
theorem te_popAt {to ti : TE} {mo mi : Me} (ho : TEok K to mo) (h : TEok K ti mi) : TEok K (tBM K "list" rPopAt to (tCons ti tNil)) (mPopAt mo mi) := fun A F Γ rs Γ' e σ G H g Q q => by
  obtain ⟨⟨r, Γ1⟩, e1, e⟩ := obind e
  obtain ⟨dl, el, e⟩ := obind e
  obtain ⟨_, el2, e⟩ := obind e
  obtain ⟨⟨r2, Γ2⟩, e2, e⟩ := obind e
  obtain ⟨k, e3, e⟩ := obind e
  obtain ⟨j, b, ds, d2, ds', er, e5, e6, er2, e10⟩ := slotUp_some e
  obtain ⟨n, e7, e6⟩ := obind e6
  obtain ⟨x, e8, e6⟩ := obind e6
  have er : r = .sl j := er
  have e3 : r2 = .im (.int k) := intR_some e3
  subst er er2 e3
  by_cases hz : ds.length ≤ LIM
  · rw [if_pos hz] at e6
    cases e6
    refine ho A F Γ _ Γ1 e1 σ G H g _ fun v G1 H1 s1 g1 h1 => ?_
    refine ⟨ty_list g1 h1 el el2, h A F Γ1 _ Γ2 e2 σ G1 H1 g1 _ fun y G2 H2 s2 g2 h2 => ?_⟩
    have h1 : σ[j]? = some (some v) := h1
    cases h2
    obtain ⟨a, xs, k1, k2, k3, k4, _⟩ := g2.ow e5
    rw [h1] at k1
    cases k1
    obtain ⟨w1, w2, w3, w4⟩ := ixN_seq e7
    obtain ⟨vx, w5, w6⟩ := k4.get e8
    have lim : (LIM : Int) < 2 ^ 63 := by decide
    have hz' : (ds.length : Int) ≤ (LIM : Int) := Int.ofNat_le.mpr hz
    refine ⟨a, xs, k, n, vx, rfl, rfl, k3, by omega, by omega, by rw [k4.length]; exact w1, w5, ?_⟩
    have gm := g2.mut e5 h1 (k4.erase n)
    have e10 : Γ' = _ := e10
    rw [← e10] at gm
    exact q vx G2 _ (s1.trans s2) gm w6
  · rw [if_neg hz] at e6
    cases e6
end
end VL

set_option Elab.async false
set_option linter.all false
set_option maxRecDepth 100000
set_option maxHeartbeats 2000000
namespace VL
open PySem PySem.Spec PyProof.Rows L2
section
variable {K : PySem.W.Frag}
/-! ### for -/
def forGo (mt : D → Gm → Option Gm) (m : Ms) : List D → Gm → Option Out
  | [], Γ => some (.nx Γ)
  | d :: ds, Γ => (mt d Γ).bind fun Γ1 => (m Γ1).bind fun o => match o with
    | .nx Γ2 => forGo mt m ds Γ2
    | .ct Γ2 => forGo mt m ds Γ2
    | .bk Γ2 => some (.nx Γ2)
    | .rt r Γ2 => some (.rt r Γ2)
def sFor (mi : Mi) (mt : D → Gm → Option Gm) (m : Ms) : Ms := fun Γ => (mi Γ).bind fun p => forGo mt m p.1 p.2
theorem ts_for {wi : TI} {g : TG} {tb : TS} {mi : Mi} {mt : D → Gm → Option Gm} {m : Ms} {S : List Nat} (hi : ITok K wi mi) (hg : TGok K g mt S) (hb : TSok K tb m) : TSok K (tFor wi g tb) (sFor mi mt m) := fun A F Γ o e σ G H D gs q => by
  obtain ⟨⟨ds, Γ1⟩, e1, e⟩ := obind e
  refine hi A F Γ ds Γ1 e1 σ G H gs _ fun J G1 H1 Gd Y s1 g1 wk hGd hY => ?_
  refine for_it wk (fun i σi Hi => ∃ Γi Gi, forGo mt m (ds.drop i) Γi = some o ∧ Same G1 Gi ∧ GS K A F Γi σi Gi Hi) ⟨Γ1, G1, by rw [List.drop_zero]; exact e, Same.refl _, g1⟩ ?_ ?_ ?_
  · rintro i σi Hi _ ⟨Γi, Gi, _, k2, k3⟩
    exact hGd Hi (k2.trans k3.ex)
  · rintro i x σi Hi H' hi ⟨Γi, Gi, k1, k2, k3⟩ y
    obtain ⟨rr, d, r1, r2, r3⟩ := hY i Hi x H' hi (k2.trans k3.ex) y
    have hdrop : ds.drop i = d :: ds.drop (i + 1) := by
      have hlt := lt_of_get r3
      rw [List.drop_eq_getElem_cons hlt]
      congr 1
      exact Option.some.inj ((List.getElem?_eq_getElem hlt).symm.trans r3)
    rw [hdrop] at k1
    obtain ⟨Γ2, t1, k1⟩ := obind k1
    obtain ⟨o1, t2, k1⟩ := obind k1
    obtain ⟨G2, s2, g2, h2⟩ := item_ok k3 (r1.mono k2) r2
    refine hg A F Γi d Γ2 t1 σi G2 H' x g2 h2 _ fun σ3 g3 _ => ?_
    refine hb A F Γ2 o1 t2 σ3 G2 H' _ g3 ?_
    cases o1 with
    | nx Γ3 => exact fun σ4 G4 H4 s4 g4 => ⟨Γ3, G4, k1, (k2.trans s2).trans s4, g4⟩
    | ct Γ3 => exact fun σ4 G4 H4 s4 g4 => ⟨Γ3, G4, k1, (k2.trans s2).trans s4, g4⟩
    | bk Γ3 =>
      cases k1
      exact fun σ4 G4 H4 s4 g4 => q σ4 G4 H4 (s1.trans ((k2.trans s2).trans s4)) g4
    | rt r Γ3 =>
      cases k1
      exact fun v σ4 G4 H4 s4 g4 h4 => q v σ4 G4 H4 (s1.trans ((k2.trans s2).trans s4)) g4 h4
  · rintro σi Hi ⟨Γi, Gi, k1, k2, k3⟩
    rw [List.drop_length] at k1
    cases k1
    exact q σi Gi Hi (s1.trans k2) k3
/-! ### while -/
def FUEL : Nat := 1000000
def whGo (mt : Mt) (m : Ms) : Nat → Gm → Option Out
  | 0, _ => none
  | n + 1, Γ => (mt Γ).bind fun p => if p.1 = true then (m p.2).bind fun o => match o with
    | .nx Γ2 => whGo mt m n Γ2
    | .ct Γ2 => whGo mt m n Γ2
    | .bk Γ2 => some (.nx Γ2)
    | .rt r Γ2 => some (.rt r Γ2) else some (.nx p.2)
def sWhile (mt : Mt) (m : Ms) : Ms := whGo mt m FUEL
theorem ts_while {c : TT} {tb : TS} {mt : Mt} {m : Ms} (hc : TTok K c mt) (hb : TSok K tb m) : TSok K (tWhile c tb) (sWhile mt m) := fun A F Γ o e σ G H D gs q => by
  refine ⟨fun n σ' H' => ∃ Γ' G', Same G G' ∧ GS K A F Γ' σ' G' H' ∧ whGo mt m n Γ' = some o, ⟨FUEL, Γ, G, Same.refl _, gs, e⟩, ?_⟩
  rintro n σ' H' ⟨Γ', G', s1, g1, k1⟩
  cases n with
  | zero => cases k1
  | succ n =>
    obtain ⟨⟨b, Γ2⟩, t1, k1⟩ := obind k1
    refine hc A F Γ' b Γ2 t1 σ' G' H' g1 _ fun G2 H2 s2 g2 => ?_
    cases b with
    | true =>
      obtain ⟨o1, t2, k1⟩ := obind k1
      refine iteT ⟨_, fun σ3 H3 h => ⟨n, Nat.lt_succ_self n, h⟩, hb A F Γ2 o1 t2 σ' G2 H2 _ g2 ?_⟩
      cases o1 with
      | nx Γ3 => exact fun σ4 G4 H4 s4 g4 => ⟨Γ3, G4, (s1.trans s2).trans s4, g4, k1⟩
      | ct Γ3 => exact fun σ4 G4 H4 s4 g4 => ⟨Γ3, G4, (s1.trans s2).trans s4, g4, k1⟩
      | bk Γ3 =>
        cases k1
        exact fun σ4 G4 H4 s4 g4 => q σ4 G4 H4 ((s1.trans s2).trans s4) g4
      | rt r Γ3 =>
        cases k1
        exact fun v σ4 G4 H4 s4 g4 h4 => q v σ4 G4 H4 ((s1.trans s2).trans s4) g4 h4
    | false =>
      cases k1
      exact iteF (q σ' G2 H2 (s1.trans s2) g2)
/-! ### what is walked -/
def mWalk (me : Me) : Mi := fun Γ => (me Γ).bind fun p => (frz p.2 p.1).bind fun u => match u.1 with
  | .list ds => some (ds, u.2)
  | _ => none
theorem it_list {te : TE} {me : Me} (h : TEok K te me) : ITok K (iList K te) (mWalk me) := fun A F Γ ds Γ' e σ G H g R q => by
  obtain ⟨⟨r, Γ1⟩, e1, e⟩ := obind e
  obtain ⟨⟨d, Γ2⟩, e2, e⟩ := obind e
  cases d with
  | list es =>
    cases e
    refine h A F Γ r Γ1 e1 σ G H g _ fun v G1 H1 s1 g1 h1 => ?_
    obtain ⟨G2, s2, g2, h2⟩ := frz_ok g1 h1 e2
    cases h2 with
    | @lst a xs _ k1 k2 =>
      refine ⟨a, rfl, ⟨xs, g2.ex.seq k1⟩, q _ G2 H1 (fun H2 => SqL K H2 a xs) (YAt xs) (s1.trans s2) g2 (by rw [← k2.length]; exact walk_list) (fun H2 s => s.seq k1) fun i H2 x H3 hi _ y => ?_⟩
      obtain ⟨d, w1, w2⟩ := k2.getV y.2
      exact ⟨.im d, d, ⟨y.1, w2⟩, rfl, w1⟩
  | _ => cases e
def mWalkT (me : Me) : Mi := fun Γ => (me Γ).bind fun p => (frz p.2 p.1).bind fun u => match u.1 with
  | .tuple ds => some (ds, u.2)
  | _ => none
theorem it_tup {te : TE} {me : Me} (h : TEok K te me) : ITok K (iTup K te) (mWalkT me) := fun A F Γ ds Γ' e σ G H g R q => by
  obtain ⟨⟨r, Γ1⟩, e1, e⟩ := obind e
  obtain ⟨⟨d, Γ2⟩, e2, e⟩ := obind e
  cases d with
  | tuple es =>
    cases e
    refine h A F Γ r Γ1 e1 σ G H g _ fun v G1 H1 s1 g1 h1 => ?_
    obtain ⟨G2, s2, g2, h2⟩ := frz_ok g1 h1 e2
    cases h2 with
    | @tup a xs _ k1 k2 =>
      refine ⟨a, rfl, ⟨xs, sqt_mono g2.ex k1⟩, q _ G2 H1 (fun H2 => SqT K H2 a xs) (YAt xs) (s1.trans s2) g2 (by rw [← k2.length]; exact walk_tup) (fun H2 s => sqt_mono s k1) fun i H2 x H3 hi _ y => ?_⟩
      obtain ⟨d, w1, w2⟩ := k2.getV y.2
      exact ⟨.im d, d, ⟨y.1, w2⟩, rfl, w1⟩
  | _ => cases e
def rangeD (lo : Int) (n : Nat) : List D := (List.range n).map fun (i : Nat) => PyData.int (lo + (i : Int))
theorem rangeD_get {lo : Int} {n i : Nat} (h : i < n) : (rangeD lo n)[i]? = some (.int (lo + i)) := by
  unfold rangeD
  rw [List.getElem?_map, List.getElem?_range h]
  rfl
def rng1 : List D → Option (Int × Nat)
  | [.int j] => if -1000000000 ≤ j ∧ j ≤ 1000000000 then some (0, j.toNat) else none
  | _ => none
def rng2 : List D → Option (Int × Nat)
  | [.int i, .int j] => if (-1000000000 ≤ i ∧ i ≤ 1000000000) ∧ -1000000000 ≤ j ∧ j ≤ 1000000000 then some (i, (j - i).toNat) else none
  | _ => none
def mRng (f : List D → Option (Int × Nat)) (ma : Ma) : Mi := fun Γ => (ma Γ).bind fun p => (peekA p.2 p.1).bind fun ds => (f ds).bind fun u => some (rangeD u.1 u.2, p.2)
theorem pkInt {G H : Hp} {v : V} {i : Int} (h : Pk K G H v (.int i)) : v = .int i := by
  cases (show Dv K H v (.int i) from h)
  rfl
theorem walk_rangeD {lo : Int} {n : Nat} : Walk (Itr lo n) (rangeD lo n).length (fun _ => True) (YFn fun i => .int (lo + i)) := by
  unfold rangeD
  rw [List.length_map, List.length_range]
  exact walk_range
theorem it_rng1 {ta : TA} {ma : Ma} (h : TAok K ta ma) : ITok K (iRng1 ta) (mRng rng1 ma) := fun A F Γ ds Γ' e σ G H g R q => by
  obtain ⟨⟨rs, Γ1⟩, e1, e⟩ := obind e
  obtain ⟨es, e2, e⟩ := obind e
  obtain ⟨⟨lo, n⟩, e3, e⟩ := obind e
  cases e
  unfold rng1 at e3
  split at e3
  · rename_i j
    by_cases hj : -1000000000 ≤ j ∧ j ≤ 1000000000
    · rw [if_pos hj] at e3
      cases e3
      refine h A F Γ rs _ e1 σ G H g _ fun vs G1 H1 s1 g1 h1 => ?_
      cases peekA_ok g1 h1 e2 with
      | cons k1 k2 =>
        cases k2
        have := pkInt k1
        subst this
        refine ⟨j, rfl, by omega, by omega, q _ G1 H1 (fun _ => True) _ s1 g1 walk_rangeD (fun _ _ => True.intro) fun i H2 x H3 hi _ y => ?_⟩
        rw [rangeD, List.length_map, List.length_range] at hi
        exact ⟨.im _, _, ⟨y.1, by rw [y.2]; exact .int _⟩, rfl, rangeD_get hi⟩
    · rw [if_neg hj] at e3
      cases e3
  · cases e3
theorem it_rng2 {ta : TA} {ma : Ma} (h : TAok K ta ma) : ITok K (iRng2 ta) (mRng rng2 ma) := fun A F Γ ds Γ' e σ G H g R q => by
  obtain ⟨⟨rs, Γ1⟩, e1, e⟩ := obind e
  obtain ⟨es, e2, e⟩ := obind e
  obtain ⟨⟨lo, n⟩, e3, e⟩ := obind e
  cases e
  unfold rng2 at e3
  split at e3
  · rename_i i j
    by_cases hj : (-1000000000 ≤ i ∧ i ≤ 1000000000) ∧ -1000000000 ≤ j ∧ j ≤ 1000000000
    · rw [if_pos hj] at e3
      cases e3
      refine h A F Γ rs _ e1 σ G H g _ fun vs G1 H1 s1 g1 h1 => ?_
      cases peekA_ok g1 h1 e2 with
      | cons k1 k2 =>
        cases k2 with
        | cons k2 k3 =>
          cases k3
          have := pkInt k1
          subst this
          have := pkInt k2
          subst this
          refine ⟨lo, j, rfl, by omega, q _ G1 H1 (fun _ => True) _ s1 g1 walk_rangeD (fun _ _ => True.intro) fun i H2 x H3 hi _ y => ?_⟩
          rw [rangeD, List.length_map, List.length_range] at hi
          exact ⟨.im _, _, ⟨y.1, by rw [y.2]; exact .int _⟩, rfl, rangeD_get hi⟩
    · rw [if_neg hj] at e3
      cases e3
  · cases e3
def enumD (ds : List D) : List D := ds.zipIdx.map fun p => .tuple [.int (p.2 : Nat), p.1]
def zipD (ds es : List D) : List D := (ds.zip es).map fun p => .tuple [p.1, p.2]
def mEnum (ma : Ma) : Mi := fun Γ => (ma Γ).bind fun p => (frzA p.2 p.1).bind fun u => match u.1 with
  | [.list ds] => some (enumD ds, u.2)
  | _ => none
def mZip (ma : Ma) : Mi := fun Γ => (ma Γ).bind fun p => (frzA p.2 p.1).bind fun u => match u.1 with
  | [.list ds, .list es] => some (zipD ds es, u.2)
  | _ => none
theorem enumD_len (ds : List D) : (enumD ds).length = ds.length := by
  unfold enumD
  rw [List.length_map, List.length_zipIdx]
theorem it_enum {ta : TA} {ma : Ma} (h : TAok K ta ma) : ITok K (iEnum K ta) (mEnum ma) := fun A F Γ ds Γ' e σ G H g R q => by
  obtain ⟨⟨rs, Γ1⟩, e1, e⟩ := obind e
  obtain ⟨⟨es, Γ2⟩, e2, e⟩ := obind e
  dsimp only at e
  split at e
  · rename_i fs
    cases e
    refine h A F Γ rs Γ1 e1 σ G H g _ fun vs G1 H1 s1 g1 h1 => ?_
    obtain ⟨G2, s2, g2, h2⟩ := frzA_ok g1 h1 e2
    cases h2 with
    | cons k1 k2 =>
      cases k2
      cases k1 with
      | @lst a xs _ k1 k2 =>
        refine ⟨a, xs, rfl, g2.ex.seq k1, q _ G2 H1 (fun H2 => SqL K H2 a xs) _ (s1.trans s2) g2 (by rw [enumD_len, ← k2.length]; exact walk_enum) (fun H2 s => s.seq k1) fun i H2 x H3 hi _ y => ?_⟩
        obtain ⟨T, w, z, rfl, w2, w3, w4, w5⟩ := y
        cases w4
        obtain ⟨d, w6, w7⟩ := k2.getV w5
        refine ⟨.nt [.int (i : Nat), d], _, ⟨T, _, rfl, w2, w3, .cons (.int _) (.one w7)⟩, rfl, ?_⟩
        unfold enumD
        rw [List.getElem?_map, List.getElem?_zipIdx, w6]
        simp
  · cases e
theorem it_zip {ta : TA} {ma : Ma} (h : TAok K ta ma) : ITok K (iZip K ta) (mZip ma) := fun A F Γ ds Γ' e σ G H g R q => by
  obtain ⟨⟨rs, Γ1⟩, e1, e⟩ := obind e
  obtain ⟨⟨es, Γ2⟩, e2, e⟩ := obind e
  dsimp only at e
  split at e
  · rename_i fs hs
    cases e
    refine h A F Γ rs Γ1 e1 σ G H g _ fun vs G1 H1 s1 g1 h1 => ?_
    obtain ⟨G2, s2, g2, h2⟩ := frzA_ok g1 h1 e2
    cases h2 with
    | cons k1 k2 =>
      cases k2 with
      | cons k3 k4 =>
        cases k4
        cases k1 with
        | @lst a xs _ k1 k2 =>
          cases k3 with
          | @lst b ys _ k3 k4 =>
            refine ⟨a, b, xs, ys, rfl, g2.ex.seq k1, g2.ex.seq k3, q _ G2 H1 (fun H2 => SqL K H2 a xs ∧ SqL K H2 b ys) _ (s1.trans s2) g2 (walk_zip (n := _) (by unfold zipD; rw [List.length_map, List.length_zip, k2.length, k4.length])) (fun H2 s => ⟨s.seq k1, s.seq k3⟩) fun i H2 x H3 hi _ y => ?_⟩
            obtain ⟨T, w, z, rfl, w2, w3, w4, w5⟩ := y
            obtain ⟨d, w6, w7⟩ := k2.getV w4
            obtain ⟨d2, w8, w9⟩ := k4.getV w5
            refine ⟨.nt [d, d2], _, ⟨T, _, rfl, w2, w3, .cons w7 (.one w9)⟩, rfl, ?_⟩
            unfold zipD
            have w0 : (fs.zip hs)[i]? = some (d, d2) := List.getElem?_zip_eq_some.mpr ⟨w6, w8⟩
            rw [List.getElem?_map, w0]
            rfl
  · cases e
end
end VL

set_option Elab.async false
set_option linter.all false
set_option maxRecDepth 100000
set_option maxHeartbeats 2000000
namespace VL
open PySem PySem.Spec PyProof.Rows L2
/-! ### defs -/
inductive Fr where
  | im (d : D)
  | fr (ds : List D)
def FrOk (K : PySem.W.Frag) (H G' H' : Hp) (v : V) : Fr → Prop
  | .im d => Dv K G' v d
  | .fr ds => ∃ p xs, v = .ref p ∧ H p = none ∧ G' p = none ∧ H' p = some (.lst xs) ∧ DvA K G' xs ds
/-- a def of data -/
def spV (K : PySem.W.Frag) (n : Nat) (m : List D → Option Fr) : Sp := fun vs H Q _ => vs.length = n ∧ ∃ G0 ds r, Same G0 H ∧ DvA K G0 vs ds ∧ m ds = some r ∧
  ∀ v G' H', Same G0 G' → Same G' H' → (∀ b o, G0 b = none → H b = some o → H' b = some o ∧ G' b = none) → FrOk K H G' H' v r → Q v H'
/-- a def of data whose first argument is a list that it may change -/
def spS (K : PySem.W.Frag) (n : Nat) (m : List D → List D → Option (Fr × List D)) : Sp := fun vs H Q _ => vs.length = n ∧ ∃ a vs' G0 xs ss ds r ss', vs = .ref a :: vs' ∧ Same G0 H ∧ G0 a = none ∧ H a = some (.lst xs) ∧ DvA K G0 xs ss ∧ DvA K G0 vs' ds ∧ m ss ds = some (r, ss') ∧
  ∀ v G' H' xs', Same G0 G' → Same G' H' → (∀ b o, b ≠ a → G0 b = none → H b = some o → H' b = some o ∧ G' b = none) → G' a = none → H' a = some (.lst xs') → DvA K G' xs' ss' → FrOk K H G' H' v r → Q v H'
def frR : Fr → Rs
  | .im d => .im d
  | .fr ds => .fr ds
def mCall (m : List D → Option Fr) (ma : Ma) : Me := fun Γ => (ma Γ).bind fun p => (frzA p.2 p.1).bind fun q => (m q.1).bind fun r => some (frR r, q.2)
section
variable {K : PySem.W.Frag}
theorem GS.called {A : Addr} {F : Hp} {Γ : Gm} {σ : L2.St} {G G' H H' : Hp} (g : GS K A F Γ σ G H) (s1 : Same G G') (s2 : Same G' H') (fr : ∀ b o, G b = none → H b = some o → H' b = some o ∧ G' b = none) : GS K A F Γ σ G' H' where
  ex := s2
  fr := fun b o e => (fr b o (g.dj b (by rw [e]; intro z; cases z)) (g.fr b o e)).1
  dj := fun b hb => by
    cases e : F b with
    | none => exact absurd e hb
    | some o => exact (fr b o (g.dj b hb) (g.fr b o e)).2
  len := g.len
  sl := fun i o e => (g.sl i o e).mono s1 fun a c ds e1 e2 => by
    subst e1
    obtain ⟨b, xs, k1, k2, k3, _⟩ := g.ow e
    rw [e2] at k1
    cases k1
    obtain ⟨q1, q2⟩ := fr a _ k2 k3
    exact ⟨q2, q1.trans k3.symm⟩
  of := g.of
  ne := g.ne
theorem te_call {n : Nat} {m : List D → Option Fr} {ta : TA} {ma : Ma} {E : XK} (hn : ∀ ds r, m ds = some r → ds.length = n) (h : TAok K ta ma) : TEok K (tCall (spV K n m) [] E ta) (mCall m ma) := fun A F Γ rs Γ' e σ G H g Q q => by
  obtain ⟨⟨r1, Γ1⟩, e1, e⟩ := obind e
  obtain ⟨⟨ds, Γ2⟩, e2, e⟩ := obind e
  obtain ⟨r, e3, e⟩ := obind e
  cases e
  refine h A F Γ r1 Γ1 e1 σ G H g _ fun vs G1 H1 s1 g1 h1 => ?_
  obtain ⟨G2, s2, g2, h2⟩ := frzA_ok g1 h1 e2
  rw [List.append_nil]
  refine ⟨by rw [h2.length]; exact hn ds r e3, G2, ds, r, g2.ex, h2, e3, fun v G' H' s3 s4 fr ok => ?_⟩
  have g3 := g2.called s3 s4 fr
  refine q v G' H' ((s1.trans s2).trans s3) g3 ?_
  cases r with
  | im d => exact ok
  | fr es =>
    obtain ⟨p, xs, rfl, k1, k2, k3, k4⟩ := ok
    exact ⟨p, xs, rfl, k2, free_F g2 k1, k3, k4, free_sl g2 k1⟩
def callS (m : List D → List D → Option (Fr × List D)) (Γ : Gm) : List Rs → Option (Rs × Gm)
  | .sl i :: rs => (frzA Γ rs).bind fun q => match q.2[i]? with
    | some (some (.ow b ss)) => (m ss q.1).bind fun r => some (frR r.1, q.2.set i (some (.ow b r.2)))
    | _ => none
  | _ => none
def mCallS (m : List D → List D → Option (Fr × List D)) (ma : Ma) : Me := fun Γ => (ma Γ).bind fun p => callS m p.2 p.1
theorem callS_some {m : List D → List D → Option (Fr × List D)} {Γ Γ' : Gm} {rs : List Rs} {r : Rs} (e : callS m Γ rs = some (r, Γ')) : ∃ i rt ds Γ2 b ss fr ss', rs = .sl i :: rt ∧ frzA Γ rt = some (ds, Γ2) ∧ Γ2[i]? = some (some (.ow b ss)) ∧ m ss ds = some (fr, ss') ∧ r = frR fr ∧ Γ' = Γ2.set i (some (.ow b ss')) := by
  unfold callS at e
  split at e
  · rename_i i rt
    obtain ⟨⟨ds, Γ2⟩, e1, e⟩ := obind e
    dsimp only at e
    split at e
    · rename_i b ss e2
      obtain ⟨⟨fr, ss'⟩, e3, e⟩ := obind e
      cases e
      exact ⟨i, rt, ds, Γ2, b, ss, fr, ss', rfl, e1, e2, e3, rfl, rfl⟩
    · cases e
  · cases e
/-- the caller's own list is not part of what stands still for the callee -/
theorem te_callS {n : Nat} {m : List D → List D → Option (Fr × List D)} {ta : TA} {ma : Ma} {E : XK} (hn : ∀ ss ds r, m ss ds = some r → ds.length + 1 = n) (h : TAok K ta ma) : TEok K (tCall (spS K n m) [] E ta) (mCallS m ma) := fun A F Γ rs Γ' e σ G H g Q q => by
  obtain ⟨⟨r1, Γ1⟩, e1, e⟩ := obind e
  obtain ⟨i, rt, ds, Γ2, b, ss, fr, ss', er, e2, e3, e4, er2, e5⟩ := callS_some e
  have er : r1 = _ := er
  subst er er2
  refine h A F Γ _ Γ1 e1 σ G H g _ fun vs G1 H1 s1 g1 h1 => ?_
  rw [List.append_nil]
  -- the first argument is the slot i itself
  obtain ⟨v, vs', rfl, hv, ht⟩ : ∃ v vs', vs = v :: vs' ∧ σ[i]? = some (some v) ∧ RsA K F Γ1 σ G1 H1 vs' rt := by
    generalize hr : Rs.sl i :: rt = l at h1
    cases h1 with
    | nil => cases hr
    | @cons v vs' r rs' k1 k2 =>
      injection hr with q1 q2
      subst q2
      rw [← q1] at k1
      exact ⟨v, vs', rfl, k1, k2⟩
  obtain ⟨G2, s2, g2, h2⟩ := frzA_ok g1 ht e2
  obtain ⟨a, xs, k1, k2, k3, k4, k5⟩ := g2.ow e3
  rw [hv] at k1
  cases k1
  refine ⟨by rw [List.length_cons, h2.length]; exact hn ss ds _ e4, a, vs', G2, xs, ss, ds, fr, ss', rfl, g2.ex, k2, k3, k4, h2, e4, fun v G' H' xs' t1 t2 t3 t4 t5 t6 ok => ?_⟩
  have hF := g2.of i b ss a e3 hv
  have g3 : GS K A F (Γ2.set i (some (.ow b ss'))) σ G' H' := {
    ex := t2
    fr := fun c o ec => (t3 c o (fun z => by rw [z, hF] at ec; cases ec) (g2.dj c (by rw [ec]; intro z; cases z)) (g2.fr c o ec)).1
    dj := fun c hc => by
      cases ec : F c with
      | none => exact absurd ec hc
      | some o => exact (t3 c o (fun z => by rw [z, hF] at ec; cases ec) (g2.dj c hc) (g2.fr c o ec)).2
    len := by rw [List.length_set]; exact g2.len
    sl := fun j o ej => by
      rcases set_get ej with ⟨rfl, rfl⟩ | ⟨hj, ej⟩
      · exact ⟨a, xs', hv, t4, t5, t6, k5⟩
      · refine (g2.sl j o ej).mono t1 fun x c es eo ex => ?_
        subst eo
        obtain ⟨y, ys, w1, w2, w3, _⟩ := g2.ow ej
        rw [ex] at w1
        cases w1
        obtain ⟨q1, q2⟩ := t3 x _ (fun z => hj (g2.ne i j b c ss es a e3 ej hv (by rw [← z]; exact ex))) w2 w3
        exact ⟨q2, q1.trans w3.symm⟩
    of := fun j c es x ej ex => by
      rcases set_get ej with ⟨rfl, _⟩ | ⟨hj, ej⟩
      · rw [hv] at ex
        cases ex
        exact hF
      · exact g2.of j c es x ej ex
    ne := fun j k c c' es fs x w1 w2 w3 w4 => by
      rcases set_get w1 with ⟨rfl, _⟩ | ⟨hj, w1⟩
      · rcases set_get w2 with ⟨rfl, _⟩ | ⟨hk, w2⟩
        · rfl
        · exact g2.ne i k b c' ss fs x e3 w2 w3 w4
      · rcases set_get w2 with ⟨rfl, _⟩ | ⟨hk, w2⟩
        · exact g2.ne j i c b es ss x w1 e3 w3 w4
        · exact g2.ne j k c c' es fs x w1 w2 w3 w4 }
  have e5 : Γ' = _ := e5
  rw [← e5] at g3
  refine q v G' H' ((s1.trans s2).trans t1) g3 ?_
  cases fr with
  | im d => exact ok
  | fr es =>
    obtain ⟨p, ys, rfl, w1, w2, w3, w4⟩ := ok
    refine ⟨p, ys, rfl, w2, free_F g2 w1, w3, w4, fun j c es' ej z => ?_⟩
    rw [e5] at ej
    rcases set_get ej with ⟨rfl, _⟩ | ⟨hj, ej⟩
    · rw [hv] at z
      cases z
      rw [w1] at k3
      cases k3
    · exact free_sl g2 w1 j c es' ej z
/-! ### a def's body -/
def start0 (N : Nat) (ds : List D) : Gm := ds.map (fun d => some (.im d)) ++ List.replicate (N - ds.length) none
def bodyR : Option Out → Option Fr
  | some (.rt (.im d) _) => some (.im d)
  | some (.rt (.fr ds) _) => some (.fr ds)
  | some (.nx _) => some (.im .none)
  | _ => none
/-- a def with n parameters and N names by what its body tells -/
def fnV (n N : Nat) (m : Ms) (ds : List D) : Option Fr := if ds.length = n then bodyR (m (start0 N ds)) else none
theorem fnV_len {n N : Nat} {m : Ms} : ∀ ds r, fnV n N m ds = some r → ds.length = n := fun ds r e => by
  unfold fnV at e
  by_cases h : ds.length = n
  · exact h
  · rw [if_neg h] at e
    cases e
def startS (N : Nat) (ss : List D) (ds : List D) : Gm := some (.ow true ss) :: (ds.map (fun d => some (.im d)) ++ List.replicate (N - 1 - ds.length) none)
def ss0 (Γ : Gm) : Option (List D) := match Γ with
  | some (.ow true ss) :: _ => some ss
  | _ => none
def bodyS : Option Out → Option (Fr × List D)
  | some (.rt (.im d) Γ) => (ss0 Γ).bind fun ss => some (.im d, ss)
  | some (.rt (.fr ds) Γ) => (ss0 Γ).bind fun ss => some (.fr ds, ss)
  | some (.nx Γ) => (ss0 Γ).bind fun ss => some (.im .none, ss)
  | _ => none
def fnS (n N : Nat) (m : Ms) (ss ds : List D) : Option (Fr × List D) := if ds.length + 1 = n then bodyS (m (startS N ss ds)) else none
theorem fnS_len {n N : Nat} {m : Ms} : ∀ ss ds r, fnS n N m ss ds = some r → ds.length + 1 = n := fun ss ds r e => by
  unfold fnS at e
  by_cases h : ds.length + 1 = n
  · exact h
  · rw [if_neg h] at e
    cases e
theorem start0_get {N : Nat} : ∀ {ds : List D} {i : Nat} {o : OV}, (start0 N ds)[i]? = some (some o) → ∃ d, ds[i]? = some d ∧ o = .im d := fun {ds i o} h => by
  unfold start0 at h
  by_cases hi : i < ds.length
  · rw [List.getElem?_append_left (by rw [List.length_map]; exact hi), List.getElem?_map, List.getElem?_eq_getElem hi] at h
    refine ⟨ds[i], List.getElem?_eq_getElem hi, ?_⟩
    have h : some (some (OV.im ds[i])) = some (some o) := h
    cases h
    rfl
  · rw [List.getElem?_append_right (by rw [List.length_map]; omega), List.getElem?_replicate] at h
    split at h <;> cases h
theorem start_get {N : List Str} {vs : List V} {i : Nat} {v : V} (h : vs[i]? = some v) : (L2.start N vs)[i]? = some (some v) := by
  unfold L2.start
  rw [List.getElem?_append_left (by rw [List.length_map]; exact lt_of_get h), List.getElem?_map, h]
  rfl
theorem ok_bodyV {N : List Str} {n : Nat} {t : TS} {m : Ms} (h : TSok K t m) (hN : n ≤ N.length) {vs : List V} {H : Hp} {Q : VK} {E : XK} (hs : spV K n (fnV n N.length m) vs H Q E) : t { nx := fun _ H' => Q .non H', rt := Q } (L2.start N vs) H := by
  obtain ⟨hl, G0, ds, r, s0, hd, hm, q⟩ := hs
  unfold fnV at hm
  rw [if_pos (by rw [← hd.length]; exact hl)] at hm
  cases em : m (start0 N.length ds) with
  | none => rw [em] at hm; cases hm
  | some o =>
    rw [em] at hm
    have hdl : ds.length = n := by rw [← hd.length]; exact hl
    -- what stands besides
    let F : Hp := fun b => if G0 b = none then H b else none
    have hF : ∀ b o, G0 b = none → H b = some o → F b = some o := fun b o h1 h2 => by
      show (if G0 b = none then H b else none) = some o
      rw [if_pos h1]
      exact h2
    have g0 : GS K 0 F (start0 N.length ds) (L2.start N vs) G0 H := {
      ex := s0
      fr := fun b o e => by
        have e : (if G0 b = none then H b else none) = some o := e
        by_cases hb : G0 b = none
        · rw [if_pos hb] at e
          exact e
        · rw [if_neg hb] at e
          cases e
      dj := fun b hb => by
        have hb : (if G0 b = none then H b else none) ≠ none := hb
        by_cases hx : G0 b = none
        · exact hx
        · rw [if_neg hx] at hb
          exact absurd rfl hb
      len := by
        unfold start0 L2.start
        rw [List.length_append, List.length_append, List.length_map, List.length_map, List.length_replicate, List.length_replicate, hd.length]
      sl := fun i o e => by
        cases o with
        | none => trivial
        | some o =>
          obtain ⟨d, h1, rfl⟩ := start0_get e
          obtain ⟨v, h2, h3⟩ := hd.get h1
          exact ⟨v, start_get h2, h3⟩
      of := fun i b es a e => by
        obtain ⟨d, _, z⟩ := start0_get e
        cases z
      ne := fun i j b c es fs a e => by
        obtain ⟨d, _, z⟩ := start0_get e
        cases z }
    refine h 0 F _ o em _ G0 H _ g0 ?_
    have fin : ∀ {v : V} {Γ' : Gm} {σ' : L2.St} {G' H' : Hp} {rr : Fr}, Same G0 G' → GS K 0 F Γ' σ' G' H' → FrOk K H G' H' v rr → r = rr → Q v H' := fun {v Γ' σ' G' H' rr} s g ok er => by
      subst er
      exact q v G' H' s g.ex (fun b o h1 h2 => ⟨g.fr b o (hF b o h1 h2), g.dj b (by rw [hF b o h1 h2]; intro z; cases z)⟩) ok
    cases o with
    | nx Γ' =>
      cases hm
      exact fun σ' G' H' s g => fin s g (rr := .im .none) .non rfl
    | rt rs Γ' =>
      cases rs with
      | im d =>
        cases hm
        exact fun v σ' G' H' s g ok => fin s g (rr := .im d) ok rfl
      | fr es =>
        cases hm
        refine fun v σ' G' H' s g ok => fin s g (rr := .fr es) ?_ rfl
        obtain ⟨a, xs, rfl, h1, h2, h3, h4, _⟩ := ok
        refine ⟨a, xs, rfl, ?_, h1, h3, h4⟩
        cases ha : H a with
        | none => rfl
        | some o =>
          cases hg : G0 a with
          | none => rw [hF a o hg ha] at h2; cases h2
          | some u => rw [s a u hg] at h1; cases h1
      | sl i => cases hm
    | bk Γ' => cases hm
    | ct Γ' => cases hm
end
end VL

set_option Elab.async false
set_option linter.all false
set_option maxRecDepth 100000
set_option maxHeartbeats 2000000
namespace VL
open PySem PySem.Spec PyProof.Rows L2
section
variable {K : PySem.W.Frag}
theorem startS_get {N : Nat} {ss ds : List D} {i : Nat} {o : OV} (h : (startS N ss ds)[i]? = some (some o)) : (i = 0 ∧ o = .ow true ss) ∨ ∃ j d, i = j + 1 ∧ ds[j]? = some d ∧ o = .im d := by
  cases i with
  | zero =>
    have h : some (some (OV.ow true ss)) = some (some o) := h
    cases h
    exact .inl ⟨rfl, rfl⟩
  | succ j =>
    right
    have h : (ds.map (fun d => some (OV.im d)) ++ List.replicate (N - 1 - ds.length) none)[j]? = some (some o) := h
    by_cases hi : j < ds.length
    · rw [List.getElem?_append_left (by rw [List.length_map]; exact hi), List.getElem?_map, List.getElem?_eq_getElem hi] at h
      have h : some (some (OV.im ds[j])) = some (some o) := h
      cases h
      exact ⟨j, ds[j], rfl, List.getElem?_eq_getElem hi, rfl⟩
    · rw [List.getElem?_append_right (by rw [List.length_map]; omega), List.getElem?_replicate] at h
      split at h <;> cases h
theorem ok_bodyS {N : List Str} {n : Nat} {t : TS} {m : Ms} (h : TSok K t m) (hN : n ≤ N.length) {vs : List V} {H : Hp} {Q : VK} {E : XK} (hs : spS K n (fnS n N.length m) vs H Q E) : t { nx := fun _ H' => Q .non H', rt := Q } (L2.start N vs) H := by
  obtain ⟨hl, a, vs', G0, xs, ss, ds, r, ss', rfl, s0, ga, ha, hx, hd, hm, q⟩ := hs
  unfold fnS at hm
  rw [List.length_cons] at hl
  rw [if_pos (by rw [← hd.length]; exact hl)] at hm
  cases em : m (startS N.length ss ds) with
  | none => rw [em] at hm; cases hm
  | some o =>
    rw [em] at hm
    have hdl : ds.length + 1 = n := by rw [← hd.length]; exact hl
    let F : Hp := fun b => if b ≠ a ∧ G0 b = none then H b else none
    have hF : ∀ b o, b ≠ a → G0 b = none → H b = some o → F b = some o := fun b o h0 h1 h2 => by
      show (if b ≠ a ∧ G0 b = none then H b else none) = some o
      rw [if_pos ⟨h0, h1⟩]
      exact h2
    have Fa : F a = none := by
      show (if a ≠ a ∧ G0 a = none then H a else none) = none
      rw [if_neg (fun z => z.1 rfl)]
    have g0 : GS K a F (startS N.length ss ds) (L2.start N (.ref a :: vs')) G0 H := {
      ex := s0
      fr := fun b o e => by
        have e : (if b ≠ a ∧ G0 b = none then H b else none) = some o := e
        by_cases hb : b ≠ a ∧ G0 b = none
        · rw [if_pos hb] at e
          exact e
        · rw [if_neg hb] at e
          cases e
      dj := fun b hb => by
        have hb : (if b ≠ a ∧ G0 b = none then H b else none) ≠ none := hb
        by_cases hx : b ≠ a ∧ G0 b = none
        · exact hx.2
        · rw [if_neg hx] at hb
          exact absurd rfl hb
      len := by
        unfold startS L2.start
        rw [List.length_cons, List.length_append, List.length_append, List.length_map, List.length_map, List.length_replicate, List.length_replicate, List.length_cons, hd.length]
        omega
      sl := fun i o e => by
        cases o with
        | none => trivial
        | some o =>
          rcases startS_get e with ⟨rfl, rfl⟩ | ⟨j, d, rfl, h1, rfl⟩
          · exact ⟨a, xs, start_get rfl, ga, ha, hx, fun _ => rfl⟩
          · obtain ⟨v, h2, h3⟩ := hd.get h1
            exact ⟨v, start_get (vs := .ref a :: vs') h2, h3⟩
      of := fun i b es c e ec => by
        rcases startS_get e with ⟨rfl, _⟩ | ⟨j, d, _, _, z⟩
        · have : some (some (V.ref a)) = some (some (V.ref c)) := (start_get (vs := .ref a :: vs') (i := 0) rfl).symm.trans ec
          cases this
          exact Fa
        · cases z
      ne := fun i j b c es fs x e1 e2 _ _ => by
        rcases startS_get e1 with ⟨rfl, _⟩ | ⟨k, d, _, _, z⟩
        · rcases startS_get e2 with ⟨rfl, _⟩ | ⟨k, d, _, _, z⟩
          · rfl
          · cases z
        · cases z }
    refine h a F _ o em _ G0 H _ g0 ?_
    have fin : ∀ {v : V} {Γ' : Gm} {σ' : L2.St} {G' H' : Hp} {rr : Fr}, Same G0 G' → GS K a F Γ' σ' G' H' → FrOk K H G' H' v rr → ((ss0 Γ').bind fun z => some (rr, z)) = some (r, ss') → Q v H' := fun {v Γ' σ' G' H' rr} s g ok er => by
      obtain ⟨z, e1, e2⟩ := obind er
      cases e2
      have e3 : Γ'[0]? = some (some (.ow true ss')) := by
        unfold ss0 at e1
        split at e1
        · cases e1
          rfl
        · cases e1
      obtain ⟨c, ys, k1, k2, k3, k4, k5⟩ := g.ow e3
      have := k5 rfl
      subst this
      exact q v G' H' ys s g.ex (fun b o h0 h1 h2 => ⟨g.fr b o (hF b o h0 h1 h2), g.dj b (by rw [hF b o h0 h1 h2]; intro z; cases z)⟩) k2 k3 k4 ok
    cases o with
    | nx Γ' => exact fun σ' G' H' s g => fin s g (rr := .im .none) .non hm
    | rt rs Γ' =>
      cases rs with
      | im d => exact fun v σ' G' H' s g ok => fin s g (rr := .im d) ok hm
      | fr es =>
        refine fun v σ' G' H' s g ok => fin s g (rr := .fr es) ?_ hm
        obtain ⟨b, ys, rfl, h1, h2, h3, h4, h5⟩ := ok
        refine ⟨b, ys, rfl, ?_, h1, h3, h4⟩
        cases hb : H b with
        | none => rfl
        | some o =>
          exfalso
          by_cases hba : b = a
          · -- the pinned list is a slot's
            subst hba
            obtain ⟨z, e1, _⟩ := obind hm
            have e3 : Γ'[0]? = some (some (.ow true z)) := by
              unfold ss0 at e1
              split at e1
              · cases e1
                rfl
              · cases e1
            obtain ⟨c, zs, k1, k2, k3, k4, k5⟩ := g.ow e3
            have := k5 rfl
            subst this
            exact h5 0 true z e3 k1
          · cases hg : G0 b with
            | none => rw [hF b o hba hg hb] at h2; cases h2
            | some u => rw [s b u hg] at h1; cases h1
      | sl i => cases hm
    | bk Γ' => cases hm
    | ct Γ' => cases hm
/-- the rules for a def -/
theorem fun_okV {P : Program} {w : World} {mg : Str → Option Value} {base : Heap} {x qual : Str} {st : Stmt} {f : Addr} {fd : FuncData} {N ps : List Str} {k : Nat} {m : Ms} (Fn : Fun K x qual st f fd) (S : FnScope N ps (defScope st)) (hN : ps.length ≤ N.length)
    (hbody : ∀ (cdv : Value) (A : Around) (outer : List Env) (s : Shared) (H : Hp) (E : XK), Room k (A.deeper (envOfC qual (defScope st) s.heap.objs.size f cdv)) →
      ∃ t, PSs (cxOf CX0 P w K mg base N qual (defScope st) f cdv A outer s H E).nox (defBody st) t ∧ TSok K t m) : FnOk P w K mg base CX0 (k + 1) f fd ps (spV K ps.length (fnV ps.length N.length m)) :=
  Fn.ok S (fun vs H Q E h => h.1) fun cdv A outer s H vs Q E hr h => by
    obtain ⟨t, h1, h2⟩ := hbody cdv A outer s H E hr
    exact ⟨t, h1, ok_bodyV h2 hN h⟩
theorem fun_okS {P : Program} {w : World} {mg : Str → Option Value} {base : Heap} {x qual : Str} {st : Stmt} {f : Addr} {fd : FuncData} {N ps : List Str} {k : Nat} {m : Ms} (Fn : Fun K x qual st f fd) (S : FnScope N ps (defScope st)) (hN : ps.length ≤ N.length)
    (hbody : ∀ (cdv : Value) (A : Around) (outer : List Env) (s : Shared) (H : Hp) (E : XK), Room k (A.deeper (envOfC qual (defScope st) s.heap.objs.size f cdv)) →
      ∃ t, PSs (cxOf CX0 P w K mg base N qual (defScope st) f cdv A outer s H E).nox (defBody st) t ∧ TSok K t m) : FnOk P w K mg base CX0 (k + 1) f fd ps (spS K ps.length (fnS ps.length N.length m)) :=
  Fn.ok S (fun vs H Q E h => h.1) fun cdv A outer s H vs Q E hr h => by
    obtain ⟨t, h1, h2⟩ := hbody cdv A outer s H E hr
    exact ⟨t, h1, ok_bodyS h2 hN h⟩
end
end VL

set_option Elab.async false
set_option linter.all false
set_option maxRecDepth 100000
set_option maxHeartbeats 2000000
namespace VL
open PySem PySem.Spec PyProof.Rows L2
/-! ### defs that are called while nothing is being shown (no repr runs) -/
structure FnG (P : Program) (w : World) (K : PySem.W.Frag) (mg : Str → Option Value) (base : Heap) (CX : CXT) (k : Nat) (f : Addr) (fd : FuncData) (ps : List Str) (sp : Sp) : Prop where
  len : ∀ vs H Q E, sp vs H Q E → vs.length = ps.length
  run : ∀ (A : Around) (up : List Env) (s : Shared) (H : Hp) (args : Args) (us : List Value) (vs : List V) (Q : VK) (E : XK), A.guards = some [] → Room k A → Env0 P w K mg base A up s H → BindsTo s fd args (ps.zip us) → Vals vs us → sp vs H Q E →
    codeAny (model P w) A (.call (.ref f) args) (CR CX up P w H s Q E) s
theorem FnG.mono {P : Program} {w : World} {K : PySem.W.Frag} {mg : Str → Option Value} {base : Heap} {CX : CXT} {j k : Nat} {f : Addr} {fd : FuncData} {ps : List Str} {sp : Sp} (Fn : FnG P w K mg base CX j f fd ps sp) (h : j ≤ k) : FnG P w K mg base CX k f fd ps sp :=
  ⟨Fn.len, fun A up s H args us vs Q E hg hr => Fn.run A up s H args us vs Q E hg (hr.mono h)⟩
section
variable {X : Cx} {CX : CXT} {k : Nat} {f : Addr} {fd : FuncData} {ps ks : List Str} {sp : Sp} {dvs : List V} {ds : List Value} {E : XK} {x : Str} {p pos : Pos} {e : Expr} {es : List Expr} {t tk : TA} {kws : List Keyword} {g : List Value → List Value → List Value} {gV : List V → List V → List V}
theorem goG {pins : List (Addr × Obj)} {σ : L2.St} {H : Hp} {s : Shared} {Q : VK} {us : List Value} {vs : List V} (Fn : FnG X.prog X.w X.K X.mg X.base CX k f fd ps sp) (hG : X.A.guards = some []) (hr : Room k X.A) (hb : Binds X.K fd ps ds) (hd : Vals dvs ds) (hx : Passes CX X E)
    (I : Inv X pins σ H s) (r : Vals vs us) (h : sp (vs ++ dvs) H Q E) : wpAny (model X.prog X.w) X.A (call (.ref f) us) (EP X pins σ Q) X.xe s := by
  have rr : Vals (vs ++ dvs) (us ++ ds) := r.append hd
  have hlen : (us ++ ds).length = ps.length := by
    rw [← rr.length]
    exact Fn.len _ _ _ _ h
  refine wpAny_call (codeAny_mono (Fn.run X.A X.stack s H ⟨us, []⟩ (us ++ ds) (vs ++ dvs) Q E hG hr I.env0 (hb s us I.kIn hlen) rr h) fun res s' hq => ?_)
  match res, hq with
  | .error e, hq => exact hx pins σ H s e s' I hq
  | .ok (.ret u), hq => exact I.after hq
  | .ok .next, hq => exact False.elim hq
  | .ok .brk, hq => exact False.elim hq
  | .ok .cont, hq => exact False.elim hq
theorem pe_callG (Fn : FnG X.prog X.w X.K X.mg X.base CX k f fd ps sp) (hG : X.A.guards = some []) (hr : Room k X.A) (hg : Gl X x) (hm : X.mg x = some (.ref f)) (hk : PySem.W.keepIn X.K (.ref f) = true) (hb : Binds X.K fd ps ds) (hd : Vals dvs ds) (hx : Passes CX X E)
    (ha : PA X (e :: es) t) (hdb : (x == ("__debug__" : Str)) = false := by decide) (hst : starEach (e :: es) X.env = (false, eval e X.env) :: starEach es X.env := by rfl) (hpl : (backTo pos (starEach es X.env)).any (·.1) = false := by rfl) :
    PE X (.Call (.Name x p) (e :: es) [] pos) (tCall sp dvs E t) := by
  refine ⟨fun pins s σ H Q I h => wpAny_Call_Name_kw (ld_glob I hg hm (PySem.W.callWith_K (h₀ := X.base) I.ok.mod.kin hk (thn (ha.run pos pins s σ H _ I h) fun us s1 q => ?_) hst hpl) hdb)⟩
  obtain ⟨vs, H1, I1, r, q⟩ := q
  exact ⟨I1.kIn, goG Fn hG hr hb hd hx I1 r q⟩
theorem pe_callG0 (Fn : FnG X.prog X.w X.K X.mg X.base CX k f fd ps sp) (hG : X.A.guards = some []) (hr : Room k X.A) (hg : Gl X x) (hm : X.mg x = some (.ref f)) (hk : PySem.W.keepIn X.K (.ref f) = true) (hb : Binds X.K fd ps ds) (hd : Vals dvs ds) (hx : Passes CX X E)
    (hdb : (x == ("__debug__" : Str)) = false := by decide) : PE X (.Call (.Name x p) [] [] pos) (tCall sp dvs E tNil) :=
  ⟨fun pins s σ H Q I h => wpAny_Call_Name_kw (ld_glob I hg hm (PySem.W.callWith_K0 I.kIn hk (goG (us := []) Fn hG hr hb hd hx I .nil h)) hdb)⟩
theorem goGK {pins : List (Addr × Obj)} {σ : L2.St} {H : Hp} {s : Shared} {Q : VK} {us ws : List Value} {vs zs : List V} (Fn : FnG X.prog X.w X.K X.mg X.base CX k f fd ps sp) (hG : X.A.guards = some []) (hr : Room k X.A) (hb : KBinds X.K fd ps ks g gV) (hx : Passes CX X E)
    (I : Inv X pins σ H s) (r : Vals vs us) (rz : Vals zs ws) (h : sp (gV vs zs) H Q E) : wpAny (model X.prog X.w) X.A (call (.ref f) us (ks.zip ws)) (EP X pins σ Q) X.xe s := by
  have rr := hb.rel r rz
  have hlen : (g us ws).length = ps.length := by
    rw [← rr.length]
    exact Fn.len _ _ _ _ h
  refine wpAny_call (codeAny_mono (Fn.run X.A X.stack s H ⟨us, ks.zip ws⟩ (g us ws) (gV vs zs) Q E hG hr I.env0 (hb.to s us ws I.kIn hlen) rr h) fun res s' hq => ?_)
  match res, hq with
  | .error e, hq => exact hx pins σ H s e s' I hq
  | .ok (.ret u), hq => exact I.after hq
  | .ok .next, hq => exact False.elim hq
  | .ok .brk, hq => exact False.elim hq
  | .ok .cont, hq => exact False.elim hq
/-- f(e, .., k = v, ..) -/
theorem pe_callGK (Fn : FnG X.prog X.w X.K X.mg X.base CX k f fd ps sp) (hG : X.A.guards = some []) (hr : Room k X.A) (hg : Gl X x) (hm : X.mg x = some (.ref f)) (hk : PySem.W.keepIn X.K (.ref f) = true) (hb : KBinds X.K fd ps ks g gV) (hx : Passes CX X E)
    (ha : PA X (e :: es) t) (hkw : PK X kws tk) (hall : (backToKw pos (keywordEach kws X.env)).all (·.1.isSome) = true := by rfl) (hks : (backToKw pos (keywordEach kws X.env)).filterMap (·.1) = ks := by rfl)
    (hdb : (x == ("__debug__" : Str)) = false := by decide) (hst : starEach (e :: es) X.env = (false, eval e X.env) :: starEach es X.env := by rfl)
    (hpl : ((backTo pos (starEach (e :: es) X.env)).any (·.1) || (backToKw pos (keywordEach kws X.env)).any (·.1.isNone)) = false := by rfl) :
    PE X (.Call (.Name x p) (e :: es) kws pos) (tCallK sp gV E t tk) := by
  refine ⟨fun pins s σ H Q I h => wpAny_Call_Name_kw (ld_glob I hg hm (PySem.W.callWith_KW (h₀ := X.base) I.ok.mod.kin hk hall (thn (ha.run pos pins s σ H _ I h) fun us s1 q => ?_) hpl hst) hdb)⟩
  obtain ⟨vs, H1, I1, r, q⟩ := q
  refine thn (hkw.run pos pins s1 σ H1 _ I1 q) fun ws s2 q2 => ?_
  obtain ⟨zs, H2, I2, rz, q2⟩ := q2
  rw [hks]
  exact ⟨I2.kIn, goGK Fn hG hr hb hx I2 r rz q2⟩
end
/-- a def by its body -/
theorem fnG_of {CX : CXT} {P : Program} {w : World} {K : PySem.W.Frag} {mg : Str → Option Value} {base : Heap} {k : Nat} {f : Addr} {nm qual : Str} {params : Arguments} {body : List Stmt} {sc : Scope} {dV kV doc pm cdv ct oc : Value} {an od : Option Addr}
    {osl : Array (Option Value)} {N ps : List Str} {sp : Sp} (lk : K.lookup f = some ⟨oc, od, .func (PySem.W.fnOf nm qual params body sc dV kV doc pm an cdv ct), osl⟩) (hcd : PySem.W.codeIn K cdv qual = true) (S : FnScope N ps sc)
    (len : ∀ vs H Q E, sp vs H Q E → vs.length = ps.length)
    (hbody : ∀ (A : Around) (up : List Env) (s : Shared) (H : Hp) (vs : List V) (Q : VK) (E : XK), A.guards = some [] → Room k (A.deeper (envOfC qual sc s.heap.objs.size f cdv)) → sp vs H Q E →
      ∃ t, PSs (cxOf CX P w K mg base N qual sc f cdv A up s H E) body t ∧ t { nx := fun _ H' => Q .non H', rt := Q } (L2.start N vs) H) :
    FnG P w K mg base CX (k + 1) f (PySem.W.fnOf nm qual params body sc dV kV doc pm an cdv ct) ps sp := by
  refine ⟨len, fun A up s H args us vs Q E hG hr e0 hb r hsp => ?_⟩
  have KX : K.In s.heap := e0.mod.kin.keeps fun b o e => (e0.bs b o e).1
  have lim : s.heap.NoLimit := e0.mod.nolimit.keeps fun b o e => (e0.bs b o e).1
  have names : ∀ y ∈ ps.zip us, sc.names.lookup y.1 = some .local ∨ (sc.names.lookup y.1 = some .cell ∧ ((cellsFrom (s.heap.objs.size + 1) sc.names []).lookup y.1).isSome = true) := by
    intro y hy
    rcases S.par y.1 (List.of_mem_zip (a := y.1) (b := y.2) hy).1 with q | q
    · exact .inl q
    · exact .inr ⟨q, PySem.W.cellsFrom_some _ _ _ (.inl q)⟩
  refine codeAny_call_function hr.depth (KX _ _ lk) rfl S.co S.gen rfl (PySem.W.codeRec_of KX hcd) (hb _ _ _ _ (wpAny_newFunctionEnv_cells S.kind names fun env he s1 xc => ?_))
  subst he
  refine ⟨lim.keeps xc.toInCall.keep, codeAny_func ?_⟩
  obtain ⟨t, ht, hq⟩ := hbody A up s H vs Q E hG (hr.deeper _) hsp
  have I := inv_start (CX := CX) (P := P) (E := E) S hr.hd e0 (len _ _ _ _ hsp) r xc
  refine wpAny_mono (ht.run [] s1 (L2.start N vs) H _ I hq) (fun fl s' hs => ?_) fun e s' hs => hs
  match fl, hs with
  | .ret u, ⟨v, σ', H', J, rv, q⟩ => exact ⟨v, H', J.os, J.bare, J.base, J.hok, rv, q⟩
  | .next, ⟨σ', H', J, q⟩ => exact ⟨V.non, H', J.os, J.bare, J.base, J.hok, rfl, q⟩
  | .brk, ⟨_, _, _, q⟩ => exact False.elim q
  | .cont, ⟨_, _, _, q⟩ => exact False.elim q
section
variable {P : Program} {w : World} {K : PySem.W.Frag} {mg : Str → Option Value} {base : Heap}
theorem fun_gV {x qual : Str} {st : Stmt} {f : Addr} {fd : FuncData} {N ps : List Str} {k : Nat} {m : Ms} (Fn : Fun K x qual st f fd) (S : FnScope N ps (defScope st)) (hN : ps.length ≤ N.length)
    (hbody : ∀ (cdv : Value) (A : Around) (up : List Env) (s : Shared) (H : Hp) (E : XK), A.guards = some [] → Room k (A.deeper (envOfC qual (defScope st) s.heap.objs.size f cdv)) →
      ∃ t, PSs (cxOf CX0 P w K mg base N qual (defScope st) f cdv A up s H E).nox (defBody st) t ∧ TSok K t m) : FnG P w K mg base CX0 (k + 1) f fd ps (spV K ps.length (fnV ps.length N.length m)) := by
  obtain ⟨oc, od, kV, doc, pm, an, cdv, ct, osl, rfl, lk, hcd⟩ := Fn.ex
  refine fnG_of lk hcd S (fun vs H Q E h => h.1) fun A up s H vs Q E hG hr hsp => ?_
  obtain ⟨t, h1, h2⟩ := hbody cdv A up s H E hG hr
  exact ⟨t, h1.nox, ok_bodyV h2 hN hsp⟩
theorem fun_gS {x qual : Str} {st : Stmt} {f : Addr} {fd : FuncData} {N ps : List Str} {k : Nat} {m : Ms} (Fn : Fun K x qual st f fd) (S : FnScope N ps (defScope st)) (hN : ps.length ≤ N.length)
    (hbody : ∀ (cdv : Value) (A : Around) (up : List Env) (s : Shared) (H : Hp) (E : XK), A.guards = some [] → Room k (A.deeper (envOfC qual (defScope st) s.heap.objs.size f cdv)) →
      ∃ t, PSs (cxOf CX0 P w K mg base N qual (defScope st) f cdv A up s H E).nox (defBody st) t ∧ TSok K t m) : FnG P w K mg base CX0 (k + 1) f fd ps (spS K ps.length (fnS ps.length N.length m)) := by
  obtain ⟨oc, od, kV, doc, pm, an, cdv, ct, osl, rfl, lk, hcd⟩ := Fn.ex
  refine fnG_of lk hcd S (fun vs H Q E h => h.1) fun A up s H vs Q E hG hr hsp => ?_
  obtain ⟨t, h1, h2⟩ := hbody cdv A up s H E hG hr
  exact ⟨t, h1.nox, ok_bodyS h2 hN hsp⟩
end
/-- the head: the law's def called at the top, where nothing is being shown -/
theorem headG {P : Program} {w : World} {K : PySem.W.Frag} {mg mb : Str → Option Value} {CX : CXT} {k : Nat} {fa a : Addr} {fd : FuncData} {x : Str} {sp : Sp} {s1 : Shared} {vs : List Value} {ns : List Int}
    (KX : K.In s1.heap) (hns : s1.heap.Ns mainGlobals mg) (hb : s1.heap.Ns builtinsNs mb) (hbb : ∀ x : Str, x ≠ "__name__" → mb x = bootBuiltins x) (hlim : s1.heap.NoLimit) (hg : s1.gens = #[])
    (ha : s1.heap.get? a = some { cls := .type "list", data := .seq vs.toArray }) (hi : IntsAre vs ns) (hl : ns.length ≤ sizeLine) (hr : Room k callerA)
    (Fn : ∀ base : Heap, K.In base → base.Ns mainGlobals mg → FnG P w K mg base CX k fa fd [x] sp) (hbind : ∀ (s : Shared) (u : Value), BindsTo s fd ⟨[u], []⟩ [(x, u)])
    (hsp : ∀ H : Hp, Only H → SqL K H a (ns.map V.int) → sp [.ref a] H (fun v _ => v = .bl true) fun _ _ _ => False)
    (hCX : ∀ H e s', CX [] H s1 (fun _ _ _ => False) e s' → False) :
    codeAny (model P w) callerA (.call (.ref fa) ⟨[.ref a], []⟩) (fun r s' => r = .ok (.ret (.bool true)) ∧ OldK s1.heap s'.heap ∧ s'.os = s1.os ∧ AllBare s'.gens) s1 := by
  have rv := vals_ints hi
  have lenV := hi.length
  have main : ∀ H : Hp, Only H → SqL K H a (ns.map V.int) → HOk P w H s1.heap → (∀ b, H b ≠ none → b = a) → (H a ≠ none → K.lookup a = none) →
      codeAny (model P w) callerA (.call (.ref fa) ⟨[.ref a], []⟩) (fun r s' => r = .ok (.ret (.bool true)) ∧ OldK s1.heap s'.heap ∧ s'.os = s1.os ∧ AllBare s'.gens) s1 := by
    intro H hO hS hok hA hK
    have up : ∀ {b : Addr} {o : Obj}, s1.heap.get? b = some o → H b = none → (hidT s1.heap H).get? b = some o := fun e n => hidT_get e n
    have offD : ∀ {b : Addr} {o : Obj} {es : Array DictEntry} {ep : Nat}, s1.heap.get? b = some o → o.data = .dict es ep → H b = none := by
      intro b o es ep e d
      cases q : H b with
      | none => rfl
      | some u =>
        obtain rfl : b = a := hA b (by rw [q]; simp)
        rw [ha] at e
        cases e
        cases (show Data.seq vs.toArray _ = Data.dict es ep from d)
    have nsT : ∀ {b : Addr} {m : Str → Option Value}, s1.heap.Ns b m → (hidT s1.heap H).Ns b m := fun {b m} ⟨o, es, ep, e, d, r⟩ => ⟨o, es, ep, up e (offD e d), d, r⟩
    have kT : K.In (hidT s1.heap H) := by
      intro b o e
      refine up (KX b o e) ?_
      cases q : H b with
      | none => rfl
      | some u =>
        obtain rfl : b = a := hA b (by rw [q]; simp)
        rw [hK (by rw [q]; simp)] at e
        cases e
    obtain ⟨mc, l1, l2⟩ := hlim
    have hM : Mod K mg (hidT s1.heap H) := ⟨kT, nsT hns, ⟨mb, nsT hb, hbb⟩, ⟨mc, nsT l1, l2⟩⟩
    have e0 : Env0 P w K mg (hidT s1.heap H) callerA [] s1 H := ⟨rfl, hM, fun b o e => of_hidT e, Nat.le_of_eq (hidT_size _ _), trivial, fun b hb => absurd (show b ∈ ([] : List Addr) from hb) (by simp), hok, .of_eq hg⟩
    refine codeAny_mono ((Fn _ kT (nsT hns)).run callerA [] s1 H ⟨[.ref a], []⟩ [.ref a] [.ref a] _ _ rfl hr e0 (hbind s1 (.ref a)) (.cons rfl .nil) (hsp H hO hS)) fun r s' h => ?_
    match r, h with
    | .error e, h => exact (hCX H e s' h).elim
    | .ok .next, h => exact False.elim h
    | .ok .brk, h => exact False.elim h
    | .ok .cont, h => exact False.elim h
    | .ok (.ret u), ⟨v, H', os, bare, un, hok', r', q⟩ =>
      obtain rfl : v = .bl true := q
      obtain rfl : u = Value.bool true := r'
      refine ⟨rfl, OldK.of_keep fun b o e => ?_, os, bare⟩
      cases q : H b with
      | none => exact un.keep b o e q (by intro z; exact absurd (show b ∈ ([] : List Addr) from z) (by simp)) (by simp)
      | some u =>
        rcases hO b with z | ⟨ob, xs, z⟩
        · rw [q] at z
          cases z
        · obtain ⟨e1, _⟩ := hok b _ z
          obtain ⟨e2, _⟩ := hok' b _ (un.frzs b ob _ z)
          rw [e] at e1
          cases e1
          exact e2
  cases hk : K.lookup a with
  | some o =>
    have e := KX a o hk
    rw [ha] at e
    cases e
    exact main (fun _ => none) (fun _ => .inl rfl) (.inr ⟨_, vs.toArray, _, hk, rfl, rfl, rfl, by rw [List.size_toArray, lenV]; exact hl, by simpa using rv⟩) (fun b u z => by cases (show (none : Option HO) = some u from z)) (fun b z => absurd rfl z) fun z => absurd rfl z
  | none =>
    refine main (fun b => if b = a then some (.frz { cls := .type "list", data := .seq vs.toArray } (.lst (ns.map V.int))) else none) (fun b => ?_) (.inl (.inr ⟨{ cls := .type "list", data := .seq vs.toArray }, if_pos rfl⟩)) (fun b u z => ?_) (fun b z => ?_) fun _ => hk
    · by_cases h : b = a
      · exact .inr ⟨_, _, if_pos h⟩
      · exact .inl (if_neg h)
    · by_cases h : b = a
      · cases (if_pos h).symm.trans z
        subst h
        exact ⟨ha, by rw [List.length_map]; exact hl, vs, _, rv, ha⟩
      · cases (if_neg h).symm.trans z
    · by_cases h : b = a
      · exact h
      · exact absurd (if_neg h) z
theorem walkG {l : PySem.W.OpenLaw} {n k : Nat} {q : Program} {loose : List Str} {XP : (Str → Option Value) → Heap → Prop} {YP : World → Heap → Prop} {d : DefRec} {K : Params → PySem.W.Frag} {CX : World → CXT} {sp : World → Sp} {x : Str}
    (hn : l.most = some n) (hn2 : n ≤ sizeLine) (hdf : d.params.defaults = []) (hr : Room k callerA)
    (hY : ∀ (w : World) (h : Heap), YP w h → (K w.params).In h)
    (Fn : ∀ (w : World) (mg : Str → Option Value) (fa : Addr) (h : Heap), (K w.params).In h → h.Ns mainGlobals mg → mg d.name = some (.ref fa) →
      ∃ fd : FuncData, (∀ (s : Shared) (u : Value), BindsTo s fd ⟨[u], []⟩ [(x, u)]) ∧
        ∀ base : Heap, (K w.params).In base → base.Ns mainGlobals mg → FnG l.prog w (K w.params) mg base (CX w) k fa fd [x] (sp w))
    (hsp : ∀ (w : World) (H : Hp) (a : Addr) (ns : List Int), ns.length ≤ n → Only H → SqL (K w.params) H a (ns.map V.int) → sp w [.ref a] H (fun v _ => v = .bl true) fun _ _ _ => False)
    (hCX : ∀ (w : World) (H : Hp) (s : Shared) (e : Value) (s' : Shared), CX w [] H s (fun _ _ _ => False) e s' → False) :
    PySem.W.WalkO q loose XP YP l.row.toRowW d [] (fun f vs => PySem.call f vs) :=
  Att.attach_call hn hdf fun w s0 s1 mg mb fa o pm cd doc a vs ns G Y ho hd hcd hmg hobj hints hlen hg => by
    obtain ⟨fd, hb, hF⟩ := Fn w mg fa _ (hY w _ Y) G.T.g hmg
    exact headG (hY w _ Y) G.T.g G.T.b G.T.builtins G.T.nolimit hg hobj hints (Nat.le_trans hlen hn2) hr hF hb (fun H hO hS => hsp w H a ns hlen hO hS) fun H e s' => hCX w H s1 e s'
end VL

set_option Elab.async false
set_option linter.all false
set_option maxRecDepth 100000
set_option maxHeartbeats 2000000
namespace VL
open PySem PySem.Spec PyProof.Rows L2
set_option exponentiation.threshold 5000
/-! ### operations on data that give a scalar -/
def scV : D → V
  | .bool b => .bl b
  | .int i => .int i
  | .str x => .str x
  | _ => .non
def isSc : D → Bool
  | .none => true
  | .bool _ => true
  | .int _ => true
  | .str _ => true
  | _ => false
theorem dv_sc {K : PySem.W.Frag} {G : Hp} : ∀ {d : D}, isSc d = true → Dv K G (scV d) d
  | .none, _ => .non
  | .bool b, _ => .bl b
  | .int i, _ => .int i
  | .str x, _ => .str x
  | .list _, h => by cases h
  | .tuple _, h => by cases h
  | .dict _, h => by cases h
def rS2 (K : PySem.W.Frag) (f : D → D → Option D) : R2 := fun x y H Q => ∃ d e z, Dv K H x d ∧ Dv K H y e ∧ f d e = some z ∧ Q (scV z) H
def rS1 (K : PySem.W.Frag) (f : D → Option D) : V → Hp → VK → Prop := fun x H Q => ∃ d z, Dv K H x d ∧ f d = some z ∧ Q (scV z) H
def rSN (K : PySem.W.Frag) (f : List D → Option D) : List V → Hp → VK → Prop := fun xs H Q => ∃ ds z, DvA K H xs ds ∧ f ds = some z ∧ Q (scV z) H
def im2 (f : D → D → Option D) : D → D → Option Rr := fun d e => (f d e).bind fun z => if isSc z then some (.im z) else none
def im1 (f : D → Option D) : D → Option Rr := fun d => (f d).bind fun z => if isSc z then some (.im z) else none
def imN (f : List D → Option D) : List D → Option Rr := fun ds => (f ds).bind fun z => if isSc z then some (.im z) else none
section
variable {K : PySem.W.Frag}
theorem PkA.dv {G H : Hp} (e : Same G H) : ∀ {vs : List V} {ds : List D}, PkA K G H vs ds → DvA K H vs ds
  | _, _, .nil => .nil
  | _, _, .cons h t => .cons (h.dv e) (PkA.dv e t)
theorem sc_of {z : D} {rr : Rr} (h : (if isSc z then some (Rr.im z) else none) = some rr) : isSc z = true ∧ rr = .im z := by
  by_cases hz : isSc z = true
  · rw [if_pos hz] at h
    cases h
    exact ⟨hz, rfl⟩
  · rw [if_neg hz] at h
    cases h
theorem o2 {f : D → D → Option D} : Op2 K (rS2 K f) (im2 f) := fun G H x y d e rr s h1 h2 hf Q q => by
  obtain ⟨z, e1, e2⟩ := obind hf
  obtain ⟨hz, rfl⟩ := sc_of e2
  exact ⟨d, e, z, h1.dv s, h2.dv s, e1, q _ H ⟨rfl, dv_sc hz⟩⟩
theorem o1 {f : D → Option D} : Op1 K (rS1 K f) (im1 f) := fun G H x d rr s h1 hf Q q => by
  obtain ⟨z, e1, e2⟩ := obind hf
  obtain ⟨hz, rfl⟩ := sc_of e2
  exact ⟨d, z, h1.dv s, e1, q _ H ⟨rfl, dv_sc hz⟩⟩
theorem oN {f : List D → Option D} : OpN K (rSN K f) (imN f) := fun G H xs ds rr s h1 hf Q q => by
  obtain ⟨z, e1, e2⟩ := obind hf
  obtain ⟨hz, rfl⟩ := sc_of e2
  exact ⟨ds, z, h1.dv s, e1, q _ H ⟨rfl, dv_sc hz⟩⟩
def bl2 (g : D → D → Option Bool) : D → D → Option D := fun d e => (g d e).map .bool
theorem oB {g : D → D → Option Bool} : OpB K (rS2 K (bl2 g)) g := fun G H x y d e b s h1 h2 hf Q q => ⟨d, e, .bool b, h1.dv s, h2.dv s, by unfold bl2; rw [hf]; rfl, q⟩
theorem OpR.to {X : Cx} {f : Value → Value → Sem Value} {r r' : R2} (h : OpR X f r) (k : ∀ x y H Q, r' x y H Q → r x y H Q) : OpR X f r' := fun pins s σ H x y v u Q I rx ry hr => h pins s σ H x y v u Q I rx ry (k x y H Q hr)
theorem OpR.or2 {X : Cx} {f : Value → Value → Sem Value} {r r' : R2} (h : OpR X f r) (k : OpR X f r') : OpR X f (fun x y H Q => r x y H Q ∨ r' x y H Q) := fun pins s σ H x y v u Q I rx ry hr => hr.elim (h pins s σ H x y v u Q I rx ry) (k pins s σ H x y v u Q I rx ry)
theorem CallR.to {X : Cx} {f : Value} {r r' : List V → Hp → VK → Prop} (h : CallR X f r) (k : ∀ xs H Q, r' xs H Q → r xs H Q) : CallR X f r' := fun pins s σ H xs us Q I rx hr => h pins s σ H xs us Q I rx (k xs H Q hr)
theorem dvInt {H : Hp} {v : V} {i : Int} (h : Dv K H v (.int i)) : v = .int i := by
  cases h
  rfl
theorem dvBl {H : Hp} {v : V} {b : Bool} (h : Dv K H v (.bool b)) : v = .bl b := by
  cases h
  rfl
theorem dvStr {H : Hp} {v : V} {x : Str} (h : Dv K H v (.str x)) : v = .str x := by
  cases h
  rfl
theorem dvNon {H : Hp} {v : V} (h : Dv K H v .none) : v = .non := by
  cases h
  rfl
/-! ### ints -/
def ii (g : Int → Int → Option D) : D → D → Option D
  | .int i, .int j => g i j
  | _, _ => none
theorem ii_some {g : Int → Int → Option D} {d e z : D} (h : ii g d e = some z) : ∃ i j, d = .int i ∧ e = .int j ∧ g i j = some z := by
  unfold ii at h
  split at h
  · exact ⟨_, _, rfl, rfl, h⟩
  · cases h
theorem ii_op {X : Cx} {f : Value → Value → Sem Value} {C : Int → Int → Prop} {o : Int → Int → V} {g : Int → Int → Option D} (h : OpR X f (rI C o)) (k : ∀ i j z, g i j = some z → C i j ∧ o i j = scV z) : OpR X f (rS2 X.K (ii g)) :=
  OpR.to h fun x y H Q ⟨d, e, z, h1, h2, h3, q⟩ => by
    obtain ⟨i, j, rfl, rfl, h4⟩ := ii_some h3
    obtain ⟨h5, h6⟩ := k i j z h4
    exact ⟨i, j, dvInt h1, dvInt h2, h5, by rw [h6]; exact q⟩
theorem ii_op0 {X : Cx} {f : Value → Value → Sem Value} {o : Int → Int → V} {g : Int → Int → Option D} (h : OpR X f (rI0 o)) (k : ∀ i j z, g i j = some z → o i j = scV z) : OpR X f (rS2 X.K (ii g)) :=
  OpR.to h fun x y H Q ⟨d, e, z, h1, h2, h3, q⟩ => by
    obtain ⟨i, j, rfl, rfl, h4⟩ := ii_some h3
    exact ⟨i, j, dvInt h1, dvInt h2, by rw [k i j z h4]; exact q⟩
def fSub : D → D → Option D := ii fun i j => some (.int (i - j))
def BIG : Nat := 2 ^ 3000
def fMulI (i j : Int) : Option D := if i.natAbs < BIG ∧ j.natAbs < BIG then some (.int (i * j)) else none
def fMod : D → D → Option D := ii fun i j => if 0 < j then some (.int (i % j)) else none
def fDiv : D → D → Option D := ii fun i j => if 0 < j ∧ j.natAbs < BIG then some (.int (i / j)) else none
def fPow : D → D → Option D := ii fun i j => if 0 ≤ j ∧ j ≤ 100 ∧ i.natAbs < BIG then some (.int (i ^ j.toNat)) else none
theorem d_sub {X : Cx} : OpR X (binaryOp .Sub) (rS2 X.K fSub) := ii_op0 op_sub fun i j z h => by
  cases h
  rfl
theorem d_mod {X : Cx} : OpR X (binaryOp .Mod) (rS2 X.K fMod) := ii_op op_mod fun i j z h => by
  by_cases hj : 0 < j
  · rw [if_pos hj] at h
    cases h
    exact ⟨hj, rfl⟩
  · rw [if_neg hj] at h
    cases h
theorem big_log {i : Int} (h : i.natAbs < BIG) : i.natAbs.log2 < 3000 := PySem.Flt.log2_lt_of (by decide) h
theorem d_div {X : Cx} : OpR X (binaryOp .FloorDiv) (rS2 X.K fDiv) := ii_op op_fdivW fun i j z h => by
  by_cases hj : 0 < j ∧ j.natAbs < BIG
  · rw [if_pos hj] at h
    cases h
    exact ⟨⟨hj.1, Nat.lt_trans (big_log hj.2) (by decide)⟩, rfl⟩
  · rw [if_neg hj] at h
    cases h
theorem d_pow {X : Cx} : OpR X (binaryOp .Pow) (rS2 X.K fPow) := by
  intro pins s σ H x y v u Q I rx ry ⟨d, e, z, h1, h2, h3, q⟩
  obtain ⟨i, j, rfl, rfl, h⟩ := ii_some h3
  by_cases hj : 0 ≤ j ∧ j ≤ 100 ∧ i.natAbs < BIG
  · rw [if_pos hj] at h
    cases h
    obtain rfl := dvInt h1
    obtain rfl := dvInt h2
    obtain ⟨tx, rfl⟩ := rx
    obtain ⟨ty, rfl⟩ := ry
    have b : Builtin.Int.intBits i ≤ 3000 := PyProof.Rows.intBits_le hj.2.2
    refine pow_int hj.1 ?_ ⟨.int (i ^ j.toNat), H, I.tok _, ⟨_, rfl⟩, q⟩
    have b2 : (Builtin.Int.intBits i : Int) ≤ 3000 := by omega
    have : (Builtin.Int.intBits i : Int) * j ≤ 3000 * 100 := Int.mul_le_mul b2 hj.2.1 hj.1 (by decide)
    exact Int.le_trans this (by decide)
  · rw [if_neg hj] at h
    cases h
/-- i * j, ints; list * int -/
def fMul : D → D → Option Rr
  | .int i, .int j => if i.natAbs < BIG ∧ j.natAbs < BIG then some (.im (.int (i * j))) else none
  | .list ds, .int k => if ds.length * k.toNat ≤ LIM ∧ -1000000 ≤ k ∧ k ≤ 1000000 then some (.fr (List.replicate k.toNat ds).flatten) else none
  | _, _ => none
def rMulG (K : PySem.W.Frag) : R2 := fun x y H Q => (∃ i j, x = .int i ∧ y = .int j ∧ CMulW i j ∧ Q (.int (i * j)) H) ∨
  ∃ l k xs, x = .ref l ∧ y = .int k ∧ SqL K H l xs ∧ -1000000 ≤ k ∧ k ≤ 1000000 ∧ xs.length * k.toNat ≤ LIM ∧ ∀ p, H p = none → Q (.ref p) (upd H p (.lst (List.replicate k.toNat xs).flatten))
theorem d_mul {X : Cx} : OpR X (binaryOp .Mult) (rMulG X.K) := by
  intro pins s σ H x y v u Q I rx ry h
  rcases h with ⟨i, j, rfl, rfl, hc, q⟩ | ⟨l, k, xs, rfl, rfl, hs, k1, k2, hz, q⟩
  · exact op_mulW pins s σ H _ _ v u Q I rx ry ⟨i, j, rfl, rfl, hc, q⟩
  · cases rx
    obtain ⟨t, rfl⟩ := ry
    obtain ⟨its, r, pl, hl⟩ := I.list hs
    obtain ⟨⟨oc, od, dt, sl⟩, ho, hc, n, hd⟩ := pl.isList
    simp only at hc hd
    subst hc hd
    have hlen := r.length
    have hz2 : its.toArray.size * k.toNat ≤ LIM := by
      rw [List.size_toArray, ← hlen]
      exact hz
    have hL : (LIM : Nat) = 4000000 := rfl
    have hz3 : its.length * k.toNat ≤ LIM := by
      rw [← hlen]
      exact hz
    refine wpAny_binaryOp_repeat_ref (T := "list") (U := "int") (by decide) ⟨_, ho, rfl⟩ (fun s2 => typeIs_int s2 k t) noFill_list_mul F.fills_int_mul F.slot_int_rmul repeat_list F.slot_int_index.lookup (call_meets F.slot_int_rmul (typeIs_int s k t) F.entry_int_rmul (F.args_int_rmul_2 _ _) (lm_int_rmul_list_any k t l its.toArray n od sl) ⟨ho, rfl, ⟨_, ho, rfl⟩, call_meets F.slot_list_mul ⟨_, ho, rfl⟩ F.entry_list_mul (F.args_list_mul_2 _ _) (lm_list_mul_any l its.toArray n od sl k t (by simp [Builtin.List.listFitsIndex]; omega) (by omega) (by simp [Builtin.List.listTooLong, sizeLine]; omega)) ⟨ho, ?_⟩⟩)
    rw [listMul_foldl_if]
    exact ⟨.ref _, _, I.lnew (t' := s.toks) (r.rep k.toNat) (by rw [PyProof.Rows.lm_len_rep_flat, Nat.mul_comm]; exact lim_line hz), rfl, q _ I.fresh⟩
theorem m_mul {K : PySem.W.Frag} : Op2 K (rMulG K) fMul := fun G H x y d e rr s h1 h2 hf Q q => by
  unfold fMul at hf
  split at hf
  · rename_i i j
    by_cases hb : i.natAbs < BIG ∧ j.natAbs < BIG
    · rw [if_pos hb] at hf
      cases hf
      refine .inl ⟨i, j, pkInt h1, pkInt h2, ?_, q _ H ⟨rfl, .int _⟩⟩
      have b1 := big_log hb.1
      have b2 := big_log hb.2
      unfold CMulW
      omega
    · rw [if_neg hb] at hf
      cases hf
  · rename_i ds k
    by_cases hb : ds.length * k.toNat ≤ LIM ∧ -1000000 ≤ k ∧ k ≤ 1000000
    · rw [if_pos hb] at hf
      cases hf
      obtain ⟨a, xs, rfl, k1, k2⟩ := h1
      refine .inr ⟨a, k, xs, rfl, pkInt h2, k1, hb.2.1, hb.2.2, by rw [k2.length]; exact hb.1, fun p hp => q _ _ ⟨p, _, rfl, hp, rfl, k2.rep _⟩⟩
    · rw [if_neg hb] at hf
      cases hf
  · cases hf
end
end VL

set_option Elab.async false
set_option linter.all false
set_option maxRecDepth 100000
set_option maxHeartbeats 2000000
namespace VL
open PySem PySem.Spec PyProof.Rows L2
set_option exponentiation.threshold 5000
/-! ### + -/
def fAdd : D → D → Option Rr
  | .int i, .int j => some (.im (.int (i + j)))
  | .str a, .str b => if a.length + b.length ≤ LIM then some (.im (.str (a ++ b))) else none
  | .list a, .list b => if a.length + b.length ≤ LIM then some (.fr (a ++ b)) else none
  | _, _ => none
def rAddG (K : PySem.W.Frag) : R2 := fun x y H Q => (∃ i j, x = .int i ∧ y = .int j ∧ Q (.int (i + j)) H) ∨ (∃ i j, x = .str i ∧ y = .str j ∧ i.length + j.length ≤ sizeLine ∧ Q (.str (i ++ j)) H) ∨
  ∃ l b xs ys, x = .ref l ∧ y = .ref b ∧ SqL K H l xs ∧ SqL K H b ys ∧ xs.length + ys.length ≤ LIM ∧ ∀ p, H p = none → Q (.ref p) (upd H p (.lst (xs ++ ys)))
theorem d_add {X : Cx} : OpR X (binaryOp .Add) (rAddG X.K) := by
  intro pins s σ H x y v u Q I rx ry h
  rcases h with ⟨i, j, rfl, rfl, q⟩ | ⟨i, j, rfl, rfl, hz, q⟩ | ⟨l, b, xs, ys, rfl, rfl, hs, ht, hz, q⟩
  · exact op_add pins s σ H _ _ v u Q I rx ry ⟨i, j, rfl, rfl, q⟩
  · exact op_add_str pins s σ H _ _ v u Q I rx ry ⟨i, j, rfl, rfl, hz, q⟩
  · cases rx
    cases ry
    obtain ⟨its, r, pl, hl⟩ := I.list hs
    obtain ⟨⟨oc, od, dt, sl⟩, ho, hc, n, hd⟩ := pl.isList
    obtain ⟨its2, r2, pl2, hl2⟩ := I.list ht
    obtain ⟨⟨oc2, od2, dt2, sl2⟩, ho2, hc2, n2, hd2⟩ := pl2.isList
    simp only at hc hd hc2 hd2
    subst hc hd hc2 hd2
    have hlen := r.length
    have hlen2 := r2.length
    have hz2 : its.length + its2.length ≤ sizeLine := lim_line (by omega)
    have e : its.toArray ++ its2.toArray = (its ++ its2).toArray := by simp
    refine concat_meets ⟨_, ho, rfl⟩ ⟨_, ho2, rfl⟩ noFill_list_add seq_list_add PySem.F.slot_list_add PySem.F.entry_list_add (PySem.F.args_list_add_2 _ _) (list_addW l b its.toArray its2.toArray n n2 od od2 sl sl2 (by simpa using hz2)) ⟨ho, ho2, ?_⟩
    rw [e]
    exact ⟨.ref _, _, I.lnew (t' := s.toks) (r.append r2) (by rw [List.length_append]; exact lim_line hz), rfl, q _ I.fresh⟩
section
variable {K : PySem.W.Frag}
theorem m_add : Op2 K (rAddG K) fAdd := fun G H x y d e rr s h1 h2 hf Q q => by
  unfold fAdd at hf
  split at hf
  · rename_i i j
    cases hf
    exact .inl ⟨i, j, pkInt h1, pkInt h2, q _ H ⟨rfl, .int _⟩⟩
  · rename_i a b
    by_cases hz : a.length + b.length ≤ LIM
    · rw [if_pos hz] at hf
      cases hf
      exact .inr (.inl ⟨a, b, dvStr h1, dvStr h2, lim_line hz, q _ H ⟨rfl, .str _⟩⟩)
    · rw [if_neg hz] at hf
      cases hf
  · rename_i a b
    by_cases hz : a.length + b.length ≤ LIM
    · rw [if_pos hz] at hf
      cases hf
      obtain ⟨l, xs, rfl, k1, k2⟩ := h1
      obtain ⟨l2, ys, rfl, k3, k4⟩ := h2
      exact .inr (.inr ⟨l, l2, xs, ys, rfl, rfl, k1, k3, by rw [k2.length, k4.length]; exact hz, fun p hp => q _ _ ⟨p, _, rfl, hp, rfl, k2.append k4⟩⟩)
    · rw [if_neg hz] at hf
      cases hf
  · cases hf
/-! ### comparisons -/
def gInt (g : Int → Int → Bool) : D → D → Option Bool
  | .int i, .int j => some (g i j)
  | _, _ => none
theorem gInt_some {g : Int → Int → Bool} {d e z : D} (h : bl2 (gInt g) d e = some z) : ∃ i j, d = .int i ∧ e = .int j ∧ z = .bool (g i j) := by
  unfold bl2 gInt at h
  split at h
  · cases h
    exact ⟨_, _, rfl, rfl, rfl⟩
  · cases h
theorem d_cmp {X : Cx} {f : Value → Value → Sem Value} {g : Int → Int → Bool} (h : OpR X f (rI0 fun i j => .bl (g i j))) : OpR X f (rS2 X.K (bl2 (gInt g))) :=
  OpR.to h fun x y H Q ⟨d, e, z, h1, h2, h3, q⟩ => by
    obtain ⟨i, j, rfl, rfl, rfl⟩ := gInt_some h3
    exact ⟨i, j, dvInt h1, dvInt h2, q⟩
def gLt : D → D → Option Bool := gInt fun i j => decide (i < j)
def gLe : D → D → Option Bool := gInt fun i j => decide (i ≤ j)
def gGt : D → D → Option Bool := gInt fun i j => decide (j < i)
def gGe : D → D → Option Bool := gInt fun i j => decide (j ≤ i)
theorem d_lt {X : Cx} : OpR X (compareOp .Lt) (rS2 X.K (bl2 gLt)) := d_cmp op_lt
theorem d_le {X : Cx} : OpR X (compareOp .LtE) (rS2 X.K (bl2 gLe)) := d_cmp op_le
theorem d_gt {X : Cx} : OpR X (compareOp .Gt) (rS2 X.K (bl2 gGt)) := d_cmp op_gt
theorem d_ge {X : Cx} : OpR X (compareOp .GtE) (rS2 X.K (bl2 gGe)) := d_cmp op_ge
def lenNe : D → D → Bool
  | .list a, .list b => a.length != b.length
  | _, _ => false
def gEq (d e : D) : Option Bool := if lenNe d e then some false else if SeqAt.shaped d && SeqAt.shaped e then some (PyData.eqv d e) else none
def gNe (d e : D) : Option Bool := if SeqAt.shaped d && SeqAt.shaped e then some (!PyData.eqv d e) else none
theorem lenNe_some {d e : D} (h : lenNe d e = true) : ∃ a b, d = .list a ∧ e = .list b ∧ (a.length != b.length) = true := by
  unfold lenNe at h
  split at h
  · exact ⟨_, _, rfl, rfl, h⟩
  · cases h
theorem two_lists {X : Cx} {pins : List (Addr × Obj)} {σ : L2.St} {H : Hp} {s : Shared} {x y : V} {v u : Value} {a b : List D} (I : Inv X pins σ H s) (h1 : Dv X.K H x (.list a)) (h2 : Dv X.K H y (.list b)) (rx : RelV x v) (ry : RelV y u) (hne : (a.length != b.length) = true) :
    ∃ l l2 its its2, v = .ref l ∧ u = .ref l2 ∧ s.heap.IsList l its ∧ s.heap.IsList l2 its2 ∧ (its.size != its2.size) = true := by
  cases h1 with
  | lst h1 k1 =>
    cases h2 with
    | lst h2 k2 =>
      cases rx
      cases ry
      obtain ⟨its, r, pl, _⟩ := I.list h1
      obtain ⟨its2, r2, pl2, _⟩ := I.list h2
      exact ⟨_, _, _, _, rfl, rfl, pl.isList, pl2.isList, by rw [List.size_toArray, List.size_toArray, ← r.length, ← r2.length, k1.length, k2.length]; exact hne⟩
theorem d_eq {X : Cx} (hu : X.A.units + 64 < cLine) : OpR X (compareOp .Eq) (rS2 X.K (bl2 gEq)) := by
  intro pins s σ H x y v u Q I rx ry ⟨d, e, z, h1, h2, h3, q⟩
  unfold bl2 gEq at h3
  by_cases hl : lenNe d e = true
  · rw [if_pos hl] at h3
    cases h3
    obtain ⟨a, b, rfl, rfl, hne⟩ := lenNe_some hl
    obtain ⟨l, l2, its, its2, rfl, rfl, k1, k2, k3⟩ := two_lists I h1 h2 rx ry hne
    exact SeqAt.eq_list_lengthsAt k1 k2 k3 (by omega) ⟨.bl false, H, I, rfl, q⟩
  · rw [if_neg hl] at h3
    by_cases hs : (SeqAt.shaped d && SeqAt.shaped e) = true
    · rw [if_pos hs] at h3
      cases h3
      obtain ⟨s1, s2⟩ := Bool.and_eq_true_iff.mp hs
      obtain ⟨as, r1⟩ := Dv.reads I d x v h1 rx
      obtain ⟨bs, r2⟩ := Dv.reads I e y u h2 ry
      exact SeqAt.compareEq_shaped r1 r2 s1 s2 hu ⟨.bl _, H, I, rfl, q⟩
    · rw [if_neg hs] at h3
      cases h3
theorem d_ne {X : Cx} (hu : X.A.units + 64 < cLine) : OpR X (compareOp .NotEq) (rS2 X.K (bl2 gNe)) := by
  intro pins s σ H x y v u Q I rx ry ⟨d, e, z, h1, h2, h3, q⟩
  unfold bl2 gNe at h3
  by_cases hs : (SeqAt.shaped d && SeqAt.shaped e) = true
  · rw [if_pos hs] at h3
    cases h3
    obtain ⟨s1, s2⟩ := Bool.and_eq_true_iff.mp hs
    obtain ⟨as, r1⟩ := Dv.reads I d x v h1 rx
    obtain ⟨bs, r2⟩ := Dv.reads I e y u h2 ry
    exact SeqAt.compareNe_shaped r1 r2 s1 s2 hu ⟨.bl _, H, I, rfl, q⟩
  · rw [if_neg hs] at h3
    cases h3
def itemsOf : D → Option (List D)
  | .list ds => some ds
  | .tuple ds => some ds
  | _ => none
def gIn (d e : D) : Option Bool := (itemsOf e).bind fun ds => if SeqAt.shaped d && SeqAt.shaped e then some (ds.any fun z => PyData.eqv z d) else none
def gNotIn (d e : D) : Option Bool := (gIn d e).map fun b => !b
theorem d_in {X : Cx} (hu : X.A.units + 65 < cLine) : OpR X (compareOp .In) (rS2 X.K (bl2 gIn)) := by
  intro pins s σ H x y v u Q I rx ry ⟨d, e, z, h1, h2, h3, q⟩
  unfold bl2 at h3
  cases hg : gIn d e with
  | none => rw [hg] at h3; cases h3
  | some b =>
    rw [hg] at h3
    cases h3
    obtain ⟨ds, e1, e2⟩ := obind hg
    by_cases hs : (SeqAt.shaped d && SeqAt.shaped e) = true
    · rw [if_pos hs] at e2
      cases e2
      obtain ⟨s1, s2⟩ := Bool.and_eq_true_iff.mp hs
      obtain ⟨as, r1⟩ := Dv.reads I d x v h1 rx
      obtain ⟨bs, r2⟩ := Dv.reads I e y u h2 ry
      unfold itemsOf at e1
      split at e1
      · cases e1
        exact SeqAt.in_list_reads r2 r1 (SeqAt.canLay_of_shaped s2) (SeqAt.canLay_of_shaped s1) (room_in_shaped s1 hu) ⟨.bl _, H, I, rfl, q⟩
      · cases e1
        exact SeqAt.in_tuple_reads r2 r1 (SeqAt.canLay_of_shaped s2) (SeqAt.canLay_of_shaped s1) (room_in_shaped s1 hu) ⟨.bl _, H, I, rfl, q⟩
      · cases e1
    · rw [if_neg hs] at e2
      cases e2
theorem d_notin {X : Cx} (hu : X.A.units + 65 < cLine) : OpR X (compareOp .NotIn) (rS2 X.K (bl2 gNotIn)) := by
  intro pins s σ H x y v u Q I rx ry ⟨d, e, z, h1, h2, h3, q⟩
  unfold bl2 gNotIn at h3
  cases hg : gIn d e with
  | none => rw [hg] at h3; cases h3
  | some b =>
    rw [hg] at h3
    cases h3
    obtain ⟨ds, e1, e2⟩ := obind hg
    by_cases hs : (SeqAt.shaped d && SeqAt.shaped e) = true
    · rw [if_pos hs] at e2
      cases e2
      obtain ⟨s1, s2⟩ := Bool.and_eq_true_iff.mp hs
      obtain ⟨as, r1⟩ := Dv.reads I d x v h1 rx
      obtain ⟨bs, r2⟩ := Dv.reads I e y u h2 ry
      unfold itemsOf at e1
      split at e1
      · cases e1
        exact SeqAt.notIn_list_reads r2 r1 (SeqAt.canLay_of_shaped s2) (SeqAt.canLay_of_shaped s1) (room_in_shaped s1 hu) ⟨.bl _, H, I, rfl, q⟩
      · cases e1
        exact SeqAt.notIn_tuple_reads r2 r1 (SeqAt.canLay_of_shaped s2) (SeqAt.canLay_of_shaped s1) (room_in_shaped s1 hu) ⟨.bl _, H, I, rfl, q⟩
      · cases e1
    · rw [if_neg hs] at e2
      cases e2
def isNoneD : D → Bool
  | .none => true
  | _ => false
def gIs : D → D → Option Bool := fun d e => if isNoneD e then some (isNoneD d) else none
def gIsNot : D → D → Option Bool := fun d e => if isNoneD e then some (!isNoneD d) else none
theorem isNone_dv {H : Hp} {v : V} {d : D} (h : Dv K H v d) : decide (v = .non) = isNoneD d := by
  cases h <;> rfl
theorem d_is {X : Cx} : OpR X (compareOp .Is) (rS2 X.K (bl2 gIs)) := OpR.to op_isN fun x y H Q ⟨d, e, z, h1, h2, h3, q⟩ => by
  unfold bl2 gIs at h3
  by_cases he : isNoneD e = true
  · rw [if_pos he] at h3
    cases h3
    have e1 := isNone_dv h2
    rw [he] at e1
    exact ⟨of_decide_eq_true e1, by rw [isNone_dv h1]; exact q⟩
  · rw [if_neg he] at h3
    cases h3
theorem d_isnot {X : Cx} : OpR X (compareOp .IsNot) (rS2 X.K (bl2 gIsNot)) := OpR.to op_notN fun x y H Q ⟨d, e, z, h1, h2, h3, q⟩ => by
  unfold bl2 gIsNot at h3
  by_cases he : isNoneD e = true
  · rw [if_pos he] at h3
    cases h3
    have e1 := isNone_dv h2
    rw [he] at e1
    exact ⟨of_decide_eq_true e1, by rw [isNone_dv h1]; exact q⟩
  · rw [if_neg he] at h3
    cases h3
/-! ### subscripts -/
def fIx : D → D → Option Rr
  | .list ds, .int i => (atI ds i).map Rr.im
  | .tuple ds, .int i => (atI ds i).map Rr.im
  | _, _ => none
theorem atI_dv {G : Hp} {xs : List V} {ds : List D} {i : Int} {d : D} (h : DvA K G xs ds) (e : atI ds i = some d) : ∃ v, atI xs i = some v ∧ Dv K G v d := by
  unfold atI at e ⊢
  obtain ⟨j, e1, e2⟩ := obind e
  obtain ⟨v, h1, h2⟩ := h.get e2
  refine ⟨v, ?_, h2⟩
  rw [h.length, e1]
  exact h1
theorem m_ix : Op2 K (rIx K) fIx := fun G H x y d e rr s h1 h2 hf Q q => by
  unfold fIx at hf
  split at hf
  · rename_i ds i
    cases hd : atI ds i with
    | none => rw [hd] at hf; cases hf
    | some z =>
      rw [hd] at hf
      cases hf
      obtain ⟨a, xs, rfl, k1, k2⟩ := h1
      obtain ⟨v, w1, w2⟩ := atI_dv k2 hd
      exact .inl ⟨a, xs, i, v, rfl, pkInt h2, k1, w1, q v H ⟨rfl, w2⟩⟩
  · rename_i ds i
    cases hd : atI ds i with
    | none => rw [hd] at hf; cases hf
    | some z =>
      rw [hd] at hf
      cases hf
      obtain ⟨a, xs, rfl, k1, k2⟩ := h1
      obtain ⟨v, w1, w2⟩ := atI_dv k2 hd
      exact .inr (.inl ⟨a, xs, i, v, rfl, pkInt h2, k1, w1, q v H ⟨rfl, w2⟩⟩)
  · cases hf
end
end VL

set_option Elab.async false
set_option linter.all false
set_option maxRecDepth 100000
set_option maxHeartbeats 2000000
namespace VL
open PySem PySem.Spec PyProof.Rows L2
/-! ### repr of data (an empty dict may lie within) -/
mutual
inductive Sh (h : Heap) : Value → D → Prop
  | non : Sh h .none .none
  | bl (b : Bool) : Sh h (.bool b) (.bool b)
  | int (i : Int) (t : Tok) : Sh h (.int i t) (.int i)
  | str (x : Str) (t : Tok) : Sh h (.str x t) (.str x)
  | lst {a : Addr} {o : Obj} {vs : Array Value} {n : Nat} {ds : List D} : h.get? a = some o → o.cls = .type "list" → o.data = .seq vs n → ShA h vs.toList ds → Sh h (.ref a) (.list ds)
  | tup {a : Addr} {o : Obj} {vs : Array Value} {n : Nat} {ds : List D} : h.get? a = some o → o.cls = .type "tuple" → o.data = .seq vs n → ShA h vs.toList ds → Sh h (.ref a) (.tuple ds)
  | dct {a : Addr} {o : Obj} {es : Array DictEntry} {n : Nat} : h.get? a = some o → o.cls = .type "dict" → o.data = .dict es n → es.toList = [] → (a == sysModules) = false → Sh h (.ref a) (.dict [])
inductive ShA (h : Heap) : List Value → List D → Prop
  | nil : ShA h [] []
  | cons {v : Value} {vs : List Value} {d : D} {ds : List D} : Sh h v d → ShA h vs ds → ShA h (v :: vs) (d :: ds)
end
section
variable {h : Heap}
mutual
theorem Sh.reads : ∀ {v : Value} {d : D}, Sh h v d → ∃ as, Reads h v d as
  | _, _, .non => ⟨_, .none⟩
  | _, _, .bl b => ⟨_, .bool b⟩
  | _, _, .int i t => ⟨_, .int i t⟩
  | _, _, .str x t => ⟨_, .str x t⟩
  | _, _, .lst h1 h2 h3 t => by
    obtain ⟨as, q⟩ := ShA.reads t
    exact ⟨_, .list h1 h2 h3 q⟩
  | _, _, .tup h1 h2 h3 t => by
    obtain ⟨as, q⟩ := ShA.reads t
    exact ⟨_, .tuple h1 h2 h3 q⟩
  | _, _, .dct h1 h2 h3 h4 _ => ⟨_, .dict (kvs := []) h1 h2 h3 (by rw [h4]; exact .nil) (by rw [h4]; exact .nil)⟩
theorem ShA.reads : ∀ {vs : List Value} {ds : List D}, ShA h vs ds → ∃ as, ReadsAll h vs ds as
  | _, _, .nil => ⟨_, .nil⟩
  | _, _, .cons h1 h2 => by
    obtain ⟨as, q1⟩ := Sh.reads h1
    obtain ⟨bs, q2⟩ := ShA.reads h2
    exact ⟨_, .cons q1 q2⟩
end
variable {prog : Program} {w : World}
theorem atMost_app {n m : Nat} {as bs : List Addr} (h1 : ReadAtMost h n as) (h2 : ReadAtMost h m bs) : ReadAtMost h (max n m) (as ++ bs) := by
  intro b hb
  rcases List.mem_append.mp hb with hb | hb
  · obtain ⟨d, cs, r, z⟩ := h1 b hb
    exact ⟨d, cs, r, by omega⟩
  · obtain ⟨d, cs, r, z⟩ := h2 b hb
    exact ⟨d, cs, r, by omega⟩
mutual
theorem Sh.told : ∀ {v : Value} {d : D}, Sh h v d → d.showable = true → d.shown.length ≤ sizeLine → ∃ bs, ReadAtMost h d.depth bs ∧ ReprK prog w bs h d.depth v d.shown
  | _, _, .non, _, _ => by
    obtain ⟨bs, q⟩ := ReprK.of_reads (prog := prog) (w := w) (h₀ := h) Reads.none rfl (fun z => by cases z) (by decide)
    exact ⟨bs, q⟩
  | _, _, .bl b, e, z => ReprK.of_reads (Reads.bool b) e (fun z => by cases z) z
  | _, _, .int i t, e, z => ReprK.of_reads (Reads.int i t) e (fun z => by cases z) z
  | _, _, .str x t, e, z => ReprK.of_reads (Reads.str x t) e (fun z => by cases z) z
  | _, _, .lst (a := a) (vs := vs) (ds := ds) h1 h2 h3 k, e, z => by
    have z2 : (listText (PyData.shownAll ds)).length ≤ sizeLine := z
    obtain ⟨as, q⟩ := ShA.reads k
    have r : Reads h (.ref a) (.list ds) _ := Reads.list h1 h2 h3 q
    obtain ⟨bs, m, t⟩ := ShA.told k e fun x hx => Nat.le_trans (listText_mem_le hx) z2
    have out : a ∉ bs := not_mem_of_deeper r (Nat.lt_succ_self _) m
    refine ⟨a :: bs, m.cons r (Nat.le_succ _), ?_⟩
    obtain ⟨l⟩ := vs
    cases l with
    | nil =>
      have k2 : ShA h [] ds := k
      cases k2
      exact ReprK.listEmpty h1 h2 h3
    | cons y l => exact ReprK.list h1 h2 h3 out (by simpa using t.length_eq) fun i y e => t.item i y (by simpa using e)
  | _, _, .tup (a := a) (ds := ds) h1 h2 h3 k, e, z => by
    have z2 : (tupleText (PyData.shownAll ds)).length ≤ sizeLine := z
    obtain ⟨as, q⟩ := ShA.reads k
    have r : Reads h (.ref a) (.tuple ds) _ := Reads.tuple h1 h2 h3 q
    obtain ⟨bs, m, t⟩ := ShA.told k e fun x hx => Nat.le_trans (tupleText_mem_le hx) z2
    exact ⟨a :: bs, m.cons r (Nat.le_succ _), ReprK.tuple h1 h2 h3 (not_mem_of_deeper r (Nat.lt_succ_self _) m) t⟩
  | _, _, .dct (a := a) h1 h2 h3 h4 h5, e, z => by
    have r : Reads h (.ref a) (.dict []) [a] := Reads.dict (kvs := []) (as := []) (bs := []) h1 h2 h3 (by rw [h4]; exact .nil) (by rw [h4]; exact .nil)
    exact ReprK.of_reads r e (fun _ hm => by
      rcases List.mem_singleton.mp hm with rfl
      simp at h5) z
theorem ShA.told : ∀ {vs : List Value} {ds : List D}, ShA h vs ds → PyData.showableAll ds = true → (∀ t ∈ PyData.shownAll ds, t.length ≤ sizeLine) → ∃ bs, ReadAtMost h (PyData.depthAll ds) bs ∧ ReprAllK prog w bs h (PyData.depthAll ds) vs (PyData.shownAll ds)
  | _, _, .nil, _, _ => ⟨[], ⟨(fun _ z => by cases z), ReprAllK.nil⟩⟩
  | _, _, .cons (d := d) (ds := ds) h1 h2, e, z => by
    have e2 := Bool.and_eq_true_iff.mp (show (d.showable && PyData.showableAll ds) = true from e)
    obtain ⟨as, m1, t1⟩ := Sh.told h1 e2.1 (z _ List.mem_cons_self)
    obtain ⟨bs, m2, t2⟩ := ShA.told h2 e2.2 fun t ht => z t (List.mem_cons_of_mem _ ht)
    exact ⟨as ++ bs, atMost_app m1 m2, .cons ((t1.more fun b hb => List.mem_append_left _ hb).level_le (Nat.le_max_left _ _)) (t2.more_le (fun b hb => List.mem_append_right _ hb) (Nat.le_max_right _ _))⟩
end
end
section
variable {X : Cx} {pins : List (Addr × Obj)} {σ : L2.St} {H : Hp} {s : Shared}
mutual
theorem Dv.sh (I : Inv X pins σ H s) : ∀ (d : D) (v : V) (u : Value), Dv X.K H v d → RelV v u → Sh s.heap u d
  | .none, _, _, h, r => by
    cases h
    cases r
    exact .non
  | .bool b, _, _, h, r => by
    cases h
    cases r
    exact .bl b
  | .int i, _, _, h, r => by
    cases h
    obtain ⟨t, rfl⟩ := r
    exact .int i t
  | .str x, _, _, h, r => by
    cases h
    obtain ⟨t, rfl⟩ := r
    exact .str x t
  | .list ds, _, _, h, r => by
    cases h with
    | lst hs ha =>
      cases r
      obtain ⟨its, rv, ⟨o, n, ho, hc, _, hd⟩, _⟩ := I.list hs
      exact .lst ho hc hd (Dv.shA I ds _ its ha rv)
  | .tuple ds, _, _, h, r => by
    cases h with
    | tup hs ha =>
      cases r
      obtain ⟨its, rv, ⟨o, ho, hc, n, hd⟩, _⟩ := I.tuple hs
      exact .tup ho hc hd (Dv.shA I ds _ its ha rv)
  | .dict kvs, _, _, h, r => by
    cases h with
    | dct hs =>
      cases r
      obtain ⟨_, hm, vs, kv, o, es, ep, h1, h2, h3, _, h4, _⟩ := I.hok _ _ hs
      cases kv
      exact .dct h1 h2.1 h3 (List.length_eq_zero_iff.mp h4.length) hm
theorem Dv.shA (I : Inv X pins σ H s) : ∀ (ds : List D) (vs : List V) (us : List Value), DvA X.K H vs ds → Vals vs us → ShA s.heap us ds
  | [], _, _, h, r => by
    cases h
    cases r
    exact .nil
  | d :: ds, _, _, h, r => by
    cases h with
    | cons h1 h2 =>
      cases r with
      | cons r1 r2 => exact .cons (Dv.sh I d _ _ h1 r1) (Dv.shA I ds _ _ h2 r2)
end
end
def fRepr : List D → Option D
  | [d] => if d.showable && decide (d.shown.length ≤ LIM) && decide (d.depth ≤ 60) then some (.str d.shown) else none
  | _ => none
theorem c_repr {X : Cx} (hG : X.A.guards = some []) (hu : X.A.units + 64 < cLine) : CallR X (.builtin "repr") (rSN X.K fRepr) := by
  intro pins s σ H xs us Q I rx ⟨ds, z, h1, h2, q⟩
  unfold fRepr at h2
  split at h2
  case h_2 => cases h2
  rename_i d
  by_cases hb : (d.showable && decide (d.shown.length ≤ LIM) && decide (d.depth ≤ 60)) = true
  case neg =>
    rw [if_neg hb] at h2
    cases h2
  rw [if_pos hb] at h2
  cases h2
  obtain ⟨hb, hd⟩ := Bool.and_eq_true_iff.mp hb
  obtain ⟨hs, hl⟩ := Bool.and_eq_true_iff.mp hb
  have hd := of_decide_eq_true hd
  have hl := lim_line (of_decide_eq_true hl)
  cases h1 with
  | @cons v vs _ _ h1 h0 =>
    cases h0
    obtain ⟨u, rfl, r1⟩ := vals1 rx
    have k := Dv.sh I d v u h1 r1
    have fin : ∀ (h2 : Heap) (tk tk2 : Nat), (∀ b o, s.heap.get? b = some o → h2.get? b = some o) → EP X pins σ Q (.str d.shown tk) { s with heap := h2, toks := tk2 } := fun h2 tk tk2 kp => ⟨.str d.shown, H, I.kept kp, ⟨tk, rfl⟩, q⟩
    cases k with
    | non => exact PySem.P.repr_of_none (fin s.heap _ _ fun _ _ e => e)
    | bl b => exact PySem.P.repr_of_bool (fin s.heap _ _ fun _ _ e => e)
    | int i t => exact PySem.P.repr_of_int (by simpa [PyData.showable] using hs) (fin s.heap _ _ fun _ _ e => e)
    | str x t => exact PySem.P.repr_of_str (fin s.heap _ _ fun _ _ e => e) hl
    | @lst a o vs n ds w1 w2 w3 k =>
      obtain ⟨as, rd⟩ := ShA.reads k
      have z2 : (listText (PyData.shownAll ds)).length ≤ sizeLine := hl
      obtain ⟨bs, m, t⟩ := ShA.told (prog := X.prog) (w := X.w) k hs fun x hx => Nat.le_trans (listText_mem_le hx) z2
      have out : a ∉ bs := not_mem_of_deeper (Reads.list w1 w2 w3 rd) (Nat.lt_succ_self _) m
      have hd : PyData.depthAll ds + 1 ≤ 60 := hd
      refine call_repr_slot (by omega) ⟨o, w1, w2⟩ PySem.F.slot_list_repr.toG ?_
      obtain ⟨l⟩ := vs
      cases l with
      | nil =>
        have k2 : ShA s.heap [] ds := k
        cases k2
        exact call_list_repr_empty ⟨o, w1, w2⟩ w1 w3 ⟨_, _, rfl, fin s.heap _ _ fun _ _ e => e⟩
      | cons y l => exact call_list_reprK w1 w2 w3 out (by simpa using t.length_eq) (fun i y e => t.item i y (by simpa using e)) hG (fun b _ => Clear.nil b) (by show X.A.units + 1 + (PyData.depthAll ds + 1) < cLine; omega) (fun _ _ e => e) (fun h2 tk tk2 kp => ⟨_, _, rfl, fin h2 _ _ kp⟩) z2
    | @tup a o vs n ds w1 w2 w3 k =>
      obtain ⟨as, rd⟩ := ShA.reads k
      have z2 : (tupleText (PyData.shownAll ds)).length ≤ sizeLine := hl
      obtain ⟨bs, m, t⟩ := ShA.told (prog := X.prog) (w := X.w) k hs fun x hx => Nat.le_trans (tupleText_mem_le hx) z2
      have out : a ∉ bs := not_mem_of_deeper (Reads.tuple w1 w2 w3 rd) (Nat.lt_succ_self _) m
      have hd : PyData.depthAll ds + 1 ≤ 60 := hd
      exact call_repr_slot (by omega) ⟨o, w1, w2⟩ PySem.F.slot_tuple_repr (call_tuple_reprK w1 w2 w3 out t hG (fun b _ => Clear.nil b) (by show X.A.units + 1 + (PyData.depthAll ds + 1) < cLine; omega) (fun _ _ e => e) (fun h2 tk tk2 kp => ⟨_, _, rfl, fin h2 _ _ kp⟩) z2)
    | @dct a o es n w1 w2 w3 w4 w5 =>
      have rd : Reads s.heap (.ref a) (.dict []) [a] := Reads.dict (kvs := []) (as := []) (bs := []) w1 w2 w3 (by rw [w4]; exact .nil) (by rw [w4]; exact .nil)
      exact repr_of_reads' rd hs (fun _ hm => by
        rcases List.mem_singleton.mp hm with rfl
        simp at w5) hG (by show X.A.units + (PyData.depth (.dict []) + 1) < cLine; have : PyData.depth (.dict []) ≤ 60 := hd; omega) (fun _ _ e => e) (fun h2 tk tk2 kp => fin h2 _ _ kp) hl
end VL

set_option Elab.async false
set_option linter.all false
set_option maxRecDepth 100000
set_option maxHeartbeats 2000000
namespace VL
open PySem PySem.Spec PyProof.Rows L2
section
variable {X : Cx}
/-! ### built-ins whose answer is a scalar -/
def fLen : List D → Option D
  | [.list ds] => some (.int ds.length)
  | [.tuple ds] => some (.int ds.length)
  | [.str z] => if z.length ≤ LIM then some (.int z.length) else none
  | [.dict []] => some (.int 0)
  | _ => none
theorem dvA1 {K : PySem.W.Frag} {H : Hp} {xs : List V} {d : D} (h : DvA K H xs [d]) : ∃ v, xs = [v] ∧ Dv K H v d := by
  cases h with
  | cons h1 h2 =>
    cases h2
    exact ⟨_, rfl, h1⟩
theorem dvA2 {K : PySem.W.Frag} {H : Hp} {xs : List V} {d e : D} (h : DvA K H xs [d, e]) : ∃ v u, xs = [v, u] ∧ Dv K H v d ∧ Dv K H u e := by
  cases h with
  | cons h1 h2 =>
    obtain ⟨u, rfl, h3⟩ := dvA1 h2
    exact ⟨_, u, rfl, h1, h3⟩
theorem c_len : CallR X (.builtin "len") (rSN X.K fLen) := by
  intro pins s σ H xs us Q I rx ⟨ds, z, h1, h2, q⟩
  unfold fLen at h2
  split at h2
  · cases h2
    obtain ⟨v, rfl, g1⟩ := dvA1 h1
    cases g1 with
    | lst k1 k2 => exact call_len pins s σ H _ us Q I rx ⟨_, _, rfl, .inl ⟨_, k1, rfl⟩, by rw [k2.length]; exact q⟩
  · cases h2
    obtain ⟨v, rfl, g1⟩ := dvA1 h1
    cases g1 with
    | tup k1 k2 => exact call_len pins s σ H _ us Q I rx ⟨_, _, rfl, .inr ⟨_, k1, rfl⟩, by rw [k2.length]; exact q⟩
  · rename_i z'
    obtain ⟨v, rfl, g1⟩ := dvA1 h1
    cases g1
    by_cases hz : z'.length ≤ LIM
    · rw [if_pos hz] at h2
      cases h2
      exact call_len pins s σ H _ us Q I rx ⟨.str z', z'.length, rfl, ⟨lim_line hz, rfl⟩, q⟩
    · rw [if_neg hz] at h2
      cases h2
  · cases h2
    obtain ⟨v, rfl, g1⟩ := dvA1 h1
    cases g1 with
    | dct k => exact call_lenD pins s σ H _ us Q I rx ⟨_, _, rfl, k, q⟩
  · cases h2
def fAbs : List D → Option D
  | [.int i] => some (.int (if i < 0 then -i else i))
  | _ => none
theorem c_abs : CallR X (.builtin "abs") (rSN X.K fAbs) := CallR.to call_abs fun xs H Q ⟨ds, z, h1, h2, q⟩ => by
  unfold fAbs at h2
  split at h2
  · cases h2
    obtain ⟨v, rfl, g1⟩ := dvA1 h1
    exact ⟨_, by rw [dvInt g1], q⟩
  · cases h2
def fMax2 : List D → Option D
  | [.int i, .int j] => some (.int (if j > i then j else i))
  | _ => none
def fMin2 : List D → Option D
  | [.int i, .int j] => some (.int (if j < i then j else i))
  | _ => none
theorem c_max2 (hc : X.calm = true) : CallR X (.builtin "max") (rSN X.K fMax2) := CallR.to (call_max2 hc) fun xs H Q ⟨ds, z, h1, h2, q⟩ => by
  unfold fMax2 at h2
  split at h2
  · cases h2
    obtain ⟨v, u, rfl, g1, g3⟩ := dvA2 h1
    exact ⟨_, _, by rw [dvInt g1, dvInt g3], q⟩
  · cases h2
theorem c_min2 (hc : X.calm = true) : CallR X (.builtin "min") (rSN X.K fMin2) := CallR.to (call_min2 hc) fun xs H Q ⟨ds, z, h1, h2, q⟩ => by
  unfold fMin2 at h2
  split at h2
  · cases h2
    obtain ⟨v, u, rfl, g1, g3⟩ := dvA2 h1
    exact ⟨_, _, by rw [dvInt g1, dvInt g3], q⟩
  · cases h2
def fInt : List D → Option D
  | [.int i] => some (.int i)
  | [.bool b] => some (.int (if b then 1 else 0))
  | _ => none
theorem c_int : CallR X (.type "int") (rSN X.K fInt) := CallR.to call_int1 fun xs H Q ⟨ds, z, h1, h2, q⟩ => by
  unfold fInt at h2
  split at h2
  · cases h2
    obtain ⟨v, rfl, g1⟩ := dvA1 h1
    exact .inl ⟨_, by rw [dvInt g1], q⟩
  · cases h2
    obtain ⟨v, rfl, g1⟩ := dvA1 h1
    exact .inr ⟨_, by rw [dvBl g1], q⟩
  · cases h2
/-- all of a list of bools -/
def boolsOf : List D → Option (List Bool)
  | [] => some []
  | .bool b :: ds => (boolsOf ds).map (b :: ·)
  | _ => none
theorem boolsOf_dv {K : PySem.W.Frag} {H : Hp} : ∀ {ds : List D} {xs : List V} {bs : List Bool}, boolsOf ds = some bs → DvA K H xs ds → xs = bs.map V.bl
  | [], _, _, e, h => by
    cases e
    cases h
    rfl
  | d :: ds, _, _, e, h => by
    cases h with
    | cons h1 h2 =>
      cases d with
      | bool b =>
        have e : (boolsOf ds).map (b :: ·) = some _ := e
        cases hb : boolsOf ds with
        | none => rw [hb] at e; cases e
        | some cs =>
          rw [hb] at e
          cases e
          rw [dvBl h1, boolsOf_dv hb h2]
          rfl
      | _ => cases e
def fAll : List D → Option D
  | [.list ds] => (boolsOf ds).map fun bs => .bool (bs.all id)
  | _ => none
def fAny : List D → Option D
  | [.list ds] => (boolsOf ds).map fun bs => .bool (bs.any id)
  | _ => none
theorem c_all (hc : X.calm = true) : CallR X (.builtin "all") (rSN X.K fAll) := CallR.to (cr_all hc) fun xs H Q ⟨ds, z, h1, h2, q⟩ => by
  unfold fAll at h2
  split at h2
  · rename_i es
    obtain ⟨v, rfl, g1⟩ := dvA1 h1
    cases hb : boolsOf es with
    | none => rw [hb] at h2; cases h2
    | some bs =>
      rw [hb] at h2
      cases h2
      cases g1 with
      | lst k1 k2 =>
        have e := boolsOf_dv hb k2
        subst e
        exact ⟨_, bs, rfl, k1, q⟩
  · cases h2
theorem c_any (hc : X.calm = true) : CallR X (.builtin "any") (rSN X.K fAny) := CallR.to (cr_any hc) fun xs H Q ⟨ds, z, h1, h2, q⟩ => by
  unfold fAny at h2
  split at h2
  · rename_i es
    obtain ⟨v, rfl, g1⟩ := dvA1 h1
    cases hb : boolsOf es with
    | none => rw [hb] at h2; cases h2
    | some bs =>
      rw [hb] at h2
      cases h2
      cases g1 with
      | lst k1 k2 =>
        have e := boolsOf_dv hb k2
        subst e
        exact ⟨_, bs, rfl, k1, q⟩
  · cases h2
/-! ### built-ins that make a list, a tuple -/
def fList : List D → Option Rr
  | [.list ds] => some (.fr ds)
  | [.tuple ds] => some (.fr ds)
  | _ => none
def rListG (K : PySem.W.Frag) : List V → Hp → VK → Prop := fun xs H Q => ∃ p ys, xs = [.ref p] ∧ (SqL K H p ys ∨ SqT K H p ys) ∧ ∀ l, H l = none → Q (.ref l) (upd H l (.lst ys))
theorem c_list : CallR X (.type "list") (rListG X.K) := call_list_of
end
section
variable {K : PySem.W.Frag}
theorem pkA1 {G H : Hp} {xs : List V} {d : D} (h : PkA K G H xs [d]) : ∃ v, xs = [v] ∧ Pk K G H v d := by
  cases h with
  | cons h1 h2 =>
    cases h2
    exact ⟨_, rfl, h1⟩
theorem m_list : OpN K (rListG K) fList := fun G H xs ds rr s h hf Q q => by
  unfold fList at hf
  split at hf
  · cases hf
    obtain ⟨v, rfl, a, ys, rfl, k1, k2⟩ := pkA1 h
    exact ⟨a, ys, rfl, .inl k1, fun l hl => q _ _ ⟨l, ys, rfl, hl, rfl, k2⟩⟩
  · cases hf
    obtain ⟨v, rfl, a, ys, rfl, k1, k2⟩ := pkA1 h
    exact ⟨a, ys, rfl, .inr k1, fun l hl => q _ _ ⟨l, ys, rfl, hl, rfl, k2⟩⟩
  · cases hf
def fTuple : List D → Option Rr
  | [.list ds] => some (.nt ds)
  | _ => none
def rTupleG (K : PySem.W.Frag) : List V → Hp → VK → Prop := fun xs H Q => ∃ p ys, xs = [.ref p] ∧ ((SqL K H p ys ∧ ∀ l, H l = none → Q (.ref l) (upd H l (.tup ys))) ∨ (SqT K H p ys ∧ Q (.ref p) H))
end
end VL

set_option Elab.async false
set_option linter.all false
set_option maxRecDepth 100000
set_option maxHeartbeats 2000000
namespace VL
open PySem PySem.Spec PyProof.Rows L2
/-! ### calls by keywords: the parameters' order told by places among what is handed in -/
def permV (π : List Nat) (n m : Nat) (vs zs : List V) : List V := if vs.length = n ∧ zs.length = m then π.map fun i => (vs ++ zs).getD i .non else []
def permU (π : List Nat) (n m : Nat) (us ws : List Value) : List Value := if us.length = n ∧ ws.length = m then π.map fun i => (us ++ ws).getD i .none else []
def permD (π : List Nat) (n m : Nat) (ds es : List D) : Option (List D) := if ds.length = n ∧ es.length = m then some (π.map fun i => (ds ++ es).getD i .none) else none
theorem getD_vals {xs : List V} {us : List Value} (h : Vals xs us) (i : Nat) : RelV (xs.getD i .non) (us.getD i .none) := by
  rw [List.getD_eq_getElem?_getD, List.getD_eq_getElem?_getD]
  cases e : xs[i]? with
  | none =>
    rw [h.none_of e]
    rfl
  | some x =>
    obtain ⟨u, h1, h2⟩ := h.get e
    rw [h1]
    exact h2
theorem getD_dv {K : PySem.W.Frag} {G : Hp} {xs : List V} {ds : List D} (h : DvA K G xs ds) (i : Nat) : Dv K G (xs.getD i .non) (ds.getD i .none) := by
  rw [List.getD_eq_getElem?_getD, List.getD_eq_getElem?_getD]
  cases e : ds[i]? with
  | none =>
    have h1 : ds.length ≤ i := List.getElem?_eq_none_iff.mp e
    have h2 : xs[i]? = none := List.getElem?_eq_none_iff.mpr (by rw [h.length]; exact h1)
    rw [h2]
    exact .non
  | some d =>
    obtain ⟨u, h1, h2⟩ := h.get e
    rw [h1]
    exact h2
theorem perm_vals {π : List Nat} {xs : List V} {us : List Value} (h : Vals xs us) : Vals (π.map fun i => xs.getD i .non) (π.map fun i => us.getD i .none) := by
  induction π with
  | nil => exact .nil
  | cons i π ih => exact .cons (getD_vals h i) ih
theorem perm_dv {K : PySem.W.Frag} {G : Hp} {π : List Nat} {xs : List V} {ds : List D} (h : DvA K G xs ds) : DvA K G (π.map fun i => xs.getD i .non) (π.map fun i => ds.getD i .none) := by
  induction π with
  | nil => exact .nil
  | cons i π ih => exact .cons (getD_dv h i) ih
theorem perm_rel {π : List Nat} {n m : Nat} {vs : List V} {us : List Value} {zs : List V} {ws : List Value} (h : Vals vs us) (k : Vals zs ws) : Vals (permV π n m vs zs) (permU π n m us ws) := by
  unfold permV permU
  rw [h.length, k.length]
  by_cases hc : us.length = n ∧ ws.length = m
  · rw [if_pos hc, if_pos hc]
    exact perm_vals (h.append k)
  · rw [if_neg hc, if_neg hc]
    exact .nil
theorem fun_kb {K : PySem.W.Frag} {x qual : Str} {st : Stmt} {f : Addr} {fd : FuncData} {ps ks : List Str} {π : List Nat} {n : Nat} (Fn : Fun K x qual st f fd) (h0 : ps ≠ [])
    (h : ∀ (kV doc pm : Value) (an : Option Addr) (cdv ct : Value) (us ws : List Value), us.length = n → ws.length = ks.length → bindArgs (PySem.W.fnOf x qual (defArgs st) (defBody st) (defScope st) .none kV doc pm an cdv ct) ⟨us, ks.zip ws⟩ = pure (ps.zip (π.map fun i => (us ++ ws).getD i .none))) :
    KBinds K fd ps ks (permU π n ks.length) (permV π n ks.length) := by
  obtain ⟨oc, od, kV, doc, pm, an, cdv, ct, osl, rfl, lk, hcd⟩ := Fn.ex
  refine ⟨fun s us ws _ hl => ?_, perm_rel⟩
  unfold permU at hl ⊢
  by_cases hc : us.length = n ∧ ws.length = ks.length
  · rw [if_pos hc]
    exact .of_eq (h kV doc pm an cdv ct us ws hc.1 hc.2)
  · rw [if_neg hc] at hl
    cases ps with
    | nil => exact absurd rfl h0
    | cons a b => cases hl
section
variable {X : Cx} {CX : CXT} {k : Nat} {f : Addr} {fd : FuncData} {ps ks : List Str} {sp : Sp} {E : XK} {x : Str} {p pos : Pos} {kws : List Keyword} {g : List Value → List Value → List Value} {gV : List V → List V → List V} {tk : TA}
/-- f(k = v, ..) -/
theorem pe_callGK0 (Fn : FnG X.prog X.w X.K X.mg X.base CX k f fd ps sp) (hG : X.A.guards = some []) (hr : Room k X.A) (hg : Gl X x) (hm : X.mg x = some (.ref f)) (hk : PySem.W.keepIn X.K (.ref f) = true) (hb : KBinds X.K fd ps ks g gV) (hx : Passes CX X E)
    (hkw : PK X kws tk) (hall : (backToKw pos (keywordEach kws X.env)).all (·.1.isSome) = true := by rfl) (hks : (backToKw pos (keywordEach kws X.env)).filterMap (·.1) = ks := by rfl) (hdb : (x == ("__debug__" : Str)) = false := by decide)
    (hpl : ((backTo pos (starEach [] X.env)).any (·.1) || (backToKw pos (keywordEach kws X.env)).any (·.1.isNone)) = false := by rfl) : PE X (.Call (.Name x p) [] kws pos) (tCallK sp gV E tNil tk) := by
  refine ⟨fun pins s σ H Q I h => wpAny_Call_Name_kw (ld_glob I hg hm (PySem.W.callWith_KW0 (h₀ := X.base) I.ok.mod.kin hk hall (thn (hkw.run pos pins s σ H _ I h) fun ws s2 q2 => ?_) hpl) hdb)⟩
  obtain ⟨zs, H2, I2, rz, q2⟩ := q2
  rw [hks]
  exact ⟨I2.kIn, goGK (us := []) Fn hG hr hb hx I2 .nil rz q2⟩
end
section
variable {K : PySem.W.Frag}
/-- the arguments, positional and then by keywords, in the parameters' order -/
def mArgsK (π : List Nat) (n m : Nat) (ma mk : Ma) : Gm → Option (List D × Gm) := fun Γ => (ma Γ).bind fun p => (frzA p.2 p.1).bind fun q => (mk q.2).bind fun u => (frzA u.2 u.1).bind fun z => (permD π n m q.1 z.1).bind fun ds => some (ds, z.2)
def mCallK (m : List D → Option Fr) (π : List Nat) (n k : Nat) (ma mk : Ma) : Me := fun Γ => (mArgsK π n k ma mk Γ).bind fun p => (m p.1).bind fun r => some (frR r, p.2)
theorem te_callK {n a b : Nat} {π : List Nat} {m : List D → Option Fr} {ta tk : TA} {ma mk : Ma} {E : XK} (hn : ∀ ds r, m ds = some r → ds.length = n) (h : TAok K ta ma) (hk : TAok K tk mk) : TEok K (tCallK (spV K n m) (permV π a b) E ta tk) (mCallK m π a b ma mk) := fun A F Γ rs Γ' e σ G H g Q q => by
  obtain ⟨⟨es, Γ9⟩, e0, e⟩ := obind e
  obtain ⟨r, e9, e⟩ := obind e
  cases e
  obtain ⟨⟨r1, Γ1⟩, e1, e0⟩ := obind e0
  obtain ⟨⟨ds, Γ2⟩, e2, e0⟩ := obind e0
  obtain ⟨⟨r2, Γ3⟩, e3, e0⟩ := obind e0
  obtain ⟨⟨ds2, Γ4⟩, e4, e0⟩ := obind e0
  obtain ⟨ds3, e5, e0⟩ := obind e0
  cases e0
  refine h A F Γ r1 Γ1 e1 σ G H g _ fun vs G1 H1 s1 g1 h1 => ?_
  obtain ⟨G2, s2, g2, h2⟩ := frzA_ok g1 h1 e2
  refine hk A F Γ2 r2 Γ3 e3 σ G2 H1 g2 _ fun zs G3 H3 s3 g3 h3 => ?_
  obtain ⟨G4, s4, g4, h4⟩ := frzA_ok g3 h3 e4
  have e5 : permD π a b ds ds2 = some es := e5
  unfold permD at e5
  by_cases hc : ds.length = a ∧ ds2.length = b
  · rw [if_pos hc] at e5
    have e5 := Option.some.inj e5
    have hv : permV π a b vs zs = π.map fun i => (vs ++ zs).getD i .non := by
      unfold permV
      rw [if_pos (by rw [h2.length, h4.length]; exact hc)]
    have hd : DvA K G4 (permV π a b vs zs) es := by
      rw [hv, ← e5]
      exact perm_dv ((h2.mono (s3.trans s4)).append h4)
    refine ⟨by rw [hd.length]; exact hn es r e9, G4, es, r, g4.ex, hd, e9, fun v G' H' t3 t4 fr ok => ?_⟩
    have g5 := g4.called t3 t4 fr
    refine q v G' H' (((s1.trans s2).trans (s3.trans s4)).trans t3) g5 ?_
    cases r with
    | im d => exact ok
    | fr es =>
      obtain ⟨p, xs, rfl, k1, k2, k3, k4⟩ := ok
      exact ⟨p, xs, rfl, k2, free_F g4 k1, k3, k4, free_sl g4 k1⟩
  · rw [if_neg hc] at e5
    cases e5
/-! ### isinstance -/
def tyN : D → String
  | .none => "NoneType"
  | .bool _ => "bool"
  | .int _ => "int"
  | .str _ => "str"
  | .list _ => "list"
  | .tuple _ => "tuple"
  | .dict _ => "dict"
theorem ty_l {H : Hp} {a : Addr} {xs : List V} (h : SqL K H a xs) : TyX K H (.ref a) (.type "list") := by
  rcases h with (h | ⟨o, h⟩) | ⟨o, its, n, h1, h2, _⟩
  · exact .base (.lst h)
  · exact .base (.frz h)
  · exact .kList h1 h2
theorem ty_t {H : Hp} {a : Addr} {xs : List V} (h : SqT K H a xs) : TyX K H (.ref a) (.type "tuple") := by
  rcases h with (h | ⟨o, h⟩) | ⟨o, its, n, h1, h2, _⟩
  · exact .base (.tup h)
  · exact .fTuple h
  · exact .kTuple h1 h2
theorem dv_ty {H : Hp} {v : V} {d : D} (h : Dv K H v d) : TyX K H v (.type (tyN d)) := by
  cases h with
  | non => exact .base .non
  | bl b => exact .base (.bl b)
  | int i => exact .base (.int i)
  | str x => exact .base (.str x)
  | lst h1 _ => exact ty_l h1
  | tup h1 _ => exact ty_t h1
  | dct h1 => exact .base (.dK h1)
def fIsi (T : String) : D → Option Rr := fun d => (kitB (tyN d) T).map fun b => .im (.bool b)
theorem te_isi (T : String) {ta : TE} {ma : Me} (ha : TEok K ta ma) : TEok K (tCB (rIsi K) (tCons ta (tCons (tC (.ty T)) tNil))) (m1 (fIsi T) ma) := fun A F Γ rs Γ' e σ G H g Q q => by
  obtain ⟨⟨r1, Γ1⟩, e1, e⟩ := obind e
  obtain ⟨d, e3, e⟩ := obind e
  obtain ⟨rr, e5, e⟩ := obind e
  cases e
  refine ha A F Γ r1 _ e1 σ G H g _ fun x G1 H1 s1 g1 h1 => ?_
  unfold fIsi at e5
  cases hb : kitB (tyN d) T with
  | none => rw [hb] at e5; cases e5
  | some b =>
    rw [hb] at e5
    cases e5
    exact ⟨x, .ty T, .type (tyN d), .type T, b, rfl, .ty T, dv_ty ((peek_ok g1 h1 e3).dv g1.ex), kit_ty hb, q _ G1 H1 s1 g1 (.bl b)⟩
/-! ### list(range(..)), {} -/
def fRgL (lo hi : Int) : Option Rr := if 0 ≤ lo ∧ lo ≤ 1000000 ∧ -1000000 ≤ hi ∧ hi ≤ 1000000 then some (.fr (rangeD lo (hi - lo).toNat)) else none
theorem rg_dv {G : Hp} (lo : Int) (n : Nat) : DvA K G ((List.range n).map fun (i : Nat) => V.int (lo + (i : Nat))) (rangeD lo n) := by
  unfold rangeD
  induction List.range n with
  | nil => exact .nil
  | cons a l ih => exact .cons (.int _) ih
def mLR1 (me : Me) : Me := fun Γ => (me Γ).bind fun p => (intR p.1).bind fun n => (fRgL 0 n).bind fun rr => some (fin rr, p.2)
theorem te_lr1 {te : TE} {me : Me} (h : TEok K te me) : TEok K (tLstRg (tRg1 te)) (mLR1 me) := fun A F Γ rs Γ' e σ G H g Q q => by
  obtain ⟨⟨r1, Γ1⟩, e1, e⟩ := obind e
  obtain ⟨n, e2, e⟩ := obind e
  obtain ⟨rr, e3, e⟩ := obind e
  cases e
  have e2 : r1 = .im (.int n) := intR_some e2
  subst e2
  refine h A F Γ _ _ e1 σ G H g _ fun x G1 H1 s1 g1 h1 => ?_
  cases h1
  unfold fRgL at e3
  by_cases hb : (0 : Int) ≤ 0 ∧ (0 : Int) ≤ 1000000 ∧ -1000000 ≤ n ∧ n ≤ 1000000
  · rw [if_pos hb] at e3
    cases e3
    refine ⟨n, rfl, ⟨by omega, by omega, by omega, by omega, by omega⟩, fun p hp => ?_⟩
    obtain ⟨G2, s2, g2, h2⟩ := fin_ok (rr := .fr (rangeD 0 (n - 0).toNat)) (v := .ref p) (H' := upd H1 p (.lst (rgV 0 n))) g1 ⟨p, _, rfl, hp, rfl, rg_dv 0 _⟩
    exact q _ G2 _ (s1.trans s2) g2 h2
  · rw [if_neg hb] at e3
    cases e3
def mLR2 (me mf : Me) : Me := fun Γ => (me Γ).bind fun p => (mf p.2).bind fun q => (intR p.1).bind fun lo => (intR q.1).bind fun hi => (fRgL lo hi).bind fun rr => some (fin rr, q.2)
theorem te_lr2 {te tf : TE} {me mf : Me} (h : TEok K te me) (k : TEok K tf mf) : TEok K (tLstRg (tRg2 te tf)) (mLR2 me mf) := fun A F Γ rs Γ' e σ G H g Q q => by
  obtain ⟨⟨r1, Γ1⟩, e1, e⟩ := obind e
  obtain ⟨⟨r2, Γ2⟩, e2, e⟩ := obind e
  obtain ⟨lo, e3, e⟩ := obind e
  obtain ⟨hi, e4, e⟩ := obind e
  obtain ⟨rr, e5, e⟩ := obind e
  cases e
  have e3 : r1 = .im (.int lo) := intR_some e3
  have e4 : r2 = .im (.int hi) := intR_some e4
  subst e3 e4
  refine h A F Γ _ _ e1 σ G H g _ fun x G1 H1 s1 g1 h1 => ?_
  cases h1
  refine k A F Γ1 _ _ e2 σ G1 H1 g1 _ fun y G2 H2 s2 g2 h2 => ?_
  cases h2
  unfold fRgL at e5
  by_cases hb : 0 ≤ lo ∧ lo ≤ 1000000 ∧ -1000000 ≤ hi ∧ hi ≤ 1000000
  · rw [if_pos hb] at e5
    cases e5
    refine ⟨lo, hi, rfl, rfl, ⟨by omega, by omega, by omega, by omega, by omega⟩, fun p hp => ?_⟩
    obtain ⟨G3, s3, g3, h3⟩ := fin_ok (rr := .fr (rangeD lo (hi - lo).toNat)) (v := .ref p) (H' := upd H2 p (.lst (rgV lo hi))) g2 ⟨p, _, rfl, hp, rfl, rg_dv lo _⟩
    exact q _ G3 _ ((s1.trans s2).trans s3) g3 h3
  · rw [if_neg hb] at e5
    cases e5
end
end VL

set_option Elab.async false
set_option linter.all false
set_option maxRecDepth 100000
set_option maxHeartbeats 2000000
namespace VL
open PySem PySem.Spec PyProof.Rows L2
section
variable {K : PySem.W.Frag} {A : Addr} {F : Hp} {Γ Γ' : Gm} {σ : L2.St} {G G' H H' : Hp} {v : V} {d : D} {ds : List D} {r : Rs} {a p : Addr} {xs : List V}
/-! ### {}, -i -/
def mDNew : Me := fun Γ => some (.im (.dict []), Γ)
theorem te_dnew : TEok K tDNewK mDNew := fun A F Γ rs Γ' e σ G H g Q q => by
  cases e
  intro p hp
  have g2 := (g.new (o := .dK []) hp).know (o := .dK []) (free_G g hp) (free_F g hp) upd_same (free_sl g hp)
  exact q _ _ _ (same_new (free_G g hp)) g2 (.dct upd_same)
def fNeg : D → Option Rr
  | .int i => some (.im (.int (-i)))
  | _ => none
theorem te_neg {te : TE} {me : Me} (h : TEok K te me) : TEok K (tUn (rU fun i => .int (-i)) te) (m1 fNeg me) := te_un (fun G H x d rr s hp hf Q q => by
  unfold fNeg at hf
  split at hf
  · cases hf
    exact ⟨_, pkInt hp, q _ H ⟨rfl, .int _⟩⟩
  · cases hf) h
/-! ### names stored side by side -/
theorem pend (g : GS K A F Γ σ G H) (h : RsOk K F Γ σ G H v (.fr ds)) : ∃ a xs, v = .ref a ∧ GS K A (upd F a (.lst xs)) Γ σ G H ∧ F a = none ∧ DvA K G xs ds := by
  obtain ⟨a, xs, rfl, h1, h2, h3, h4, h5⟩ := h
  refine ⟨a, xs, rfl, ⟨g.ex, fun b u e => ?_, fun b hb => ?_, g.len, g.sl, fun i b es c e1 e2 => ?_, g.ne⟩, h2, h4⟩
  · by_cases hb : b = a
    · subst hb
      rw [upd_same] at e
      cases e
      exact h3
    · rw [upd_ne hb] at e
      exact g.fr b u e
  · by_cases hc : b = a
    · rw [hc]
      exact h1
    · rw [upd_ne hc] at hb
      exact g.dj b hb
  · rw [upd_ne (fun z => h5 i b es e1 (by rw [← z]; exact e2))]
    exact g.of i b es c e1 e2
theorem unpend (g : GS K A (upd F a (.lst xs)) Γ σ G H) (h0 : F a = none) (h : DvA K G xs ds) : GS K A F Γ σ G H ∧ RsOk K F Γ σ G H (.ref a) (.fr ds) :=
  ⟨g.frameDrop h0, a, xs, rfl, g.dj a (by rw [upd_same]; intro z; cases z), h0, g.fr a _ upd_same, h, g.frameSl⟩
/-- a result that is a slot's list is data from then on -/
def settle (Γ : Gm) : Rs → Option (Rs × Gm)
  | .im d => some (.im d, Γ)
  | .fr ds => some (.fr ds, Γ)
  | .sl i => (frz Γ (.sl i)).bind fun p => some (.im p.1, p.2)
def notSl : Rs → Bool
  | .sl _ => false
  | _ => true
theorem settle_ok {r' : Rs} (g : GS K A F Γ σ G H) (h : RsOk K F Γ σ G H v r) (e : settle Γ r = some (r', Γ')) : notSl r' = true ∧ ∃ G', Same G G' ∧ GS K A F Γ' σ G' H ∧ RsOk K F Γ' σ G' H v r' := by
  cases r with
  | im d =>
    cases e
    exact ⟨rfl, G, Same.refl _, g, h⟩
  | fr ds =>
    cases e
    exact ⟨rfl, G, Same.refl _, g, h⟩
  | sl i =>
    obtain ⟨⟨d, Γ1⟩, e1, e2⟩ := obind e
    cases e2
    obtain ⟨G1, s1, g1, h1⟩ := frz_ok g h e1
    exact ⟨rfl, G1, s1, g1, h1⟩
def put (Γ : Gm) (i : Nat) : Rs → Gm
  | .im d => Γ.set i (some (.im d))
  | .fr ds => Γ.set i (some (.ow false ds))
  | .sl _ => Γ
/-- x is stored while y (at hand) waits -/
theorem put_ok {i : Nat} {y : V} {r2 : Rs} (g : GS K A F Γ σ G H) (n1 : notSl r = true) (n2 : notSl r2 = true) (h1 : RsOk K F Γ σ G H v r) (h2 : RsOk K F Γ σ G H y r2) (ne : ∀ a, v = .ref a → y = .ref a → G a ≠ none) :
    GS K A F (put Γ i r) (σ.set i (some v)) G H ∧ RsOk K F (put Γ i r) (σ.set i (some v)) G H y r2 := by
  cases r with
  | sl _ => cases n1
  | im d =>
    refine ⟨g.asgIm h1 i, ?_⟩
    cases r2 with
    | sl _ => cases n2
    | im d2 => exact h2
    | fr es =>
      obtain ⟨b, ys, rfl, k1, k2, k3, k4, k5⟩ := h2
      refine ⟨b, ys, rfl, k1, k2, k3, k4, fun j c fs e z => ?_⟩
      rcases set_get e with ⟨_, w⟩ | ⟨hj, e⟩
      · cases w
      · rw [List.getElem?_set_ne hj] at z
        exact k5 j c fs e z
  | fr ds =>
    refine ⟨g.asgOw h1 i, ?_⟩
    cases r2 with
    | sl _ => cases n2
    | im d2 => exact h2
    | fr es =>
      obtain ⟨b, ys, rfl, k1, k2, k3, k4, k5⟩ := h2
      refine ⟨b, ys, rfl, k1, k2, k3, k4, fun j c fs e z => ?_⟩
      rcases set_get e with ⟨rfl, w⟩ | ⟨hj, e⟩
      · rcases set_getS z with ⟨_, w2⟩ | ⟨hj, _⟩
        · cases w2
          exact ne b rfl rfl k1
        · exact hj rfl
      · rw [List.getElem?_set_ne hj] at z
        exact k5 j c fs e z
/-- put for one alone -/
theorem put1 {i : Nat} (g : GS K A F Γ σ G H) (n1 : notSl r = true) (h1 : RsOk K F Γ σ G H v r) : GS K A F (put Γ i r) (σ.set i (some v)) G H := by
  cases r with
  | sl _ => cases n1
  | im d => exact g.asgIm h1 i
  | fr ds => exact g.asgOw h1 i
/-- two results one after the other, the first one waiting -/
def m2R (me mf : Me) : Gm → Option (Rs × Rs × Gm) := fun Γ => (me Γ).bind fun p => (settle p.2 p.1).bind fun p' => (mf p'.2).bind fun q => (settle q.2 q.1).bind fun q' => some (p'.1, q'.1, q'.2)
theorem two_ok {te tf : TE} {me mf : Me} {r1 r2 : Rs} (h : TEok K te me) (k : TEok K tf mf) (e : m2R me mf Γ = some (r1, r2, Γ')) (g : GS K A F Γ σ G H) (Q : V → V → Hp → Prop)
    (q : ∀ x y G' H', Same G G' → GS K A F Γ' σ G' H' → notSl r1 = true → notSl r2 = true → RsOk K F Γ' σ G' H' x r1 → RsOk K F Γ' σ G' H' y r2 → (∀ a, x = .ref a → y = .ref a → (∃ ds es, r1 = .fr ds ∧ r2 = .fr es) → False) → Q x y H') : te σ H fun x H1 => tf σ H1 fun y H2 => Q x y H2 := by
  obtain ⟨⟨ra, Γ1⟩, e1, e⟩ := obind e
  obtain ⟨⟨ra', Γ2⟩, e2, e⟩ := obind e
  obtain ⟨⟨rb, Γ3⟩, e3, e⟩ := obind e
  obtain ⟨⟨rb', Γ4⟩, e4, e⟩ := obind e
  have e : some (ra', rb', Γ4) = some (r1, r2, Γ') := e
  simp only [Option.some.injEq, Prod.mk.injEq] at e
  obtain ⟨q1, q2, q3⟩ := e
  subst q1 q2 q3
  refine h A F Γ ra Γ1 e1 σ G H g _ fun x G1 H1 s1 g1 h1 => ?_
  obtain ⟨n1, G2, s2, g2, h2⟩ := settle_ok g1 h1 e2
  cases hr : ra' with
  | sl _ =>
    rw [hr] at n1
    cases n1
  | im d =>
    rw [hr] at h2
    refine k A F Γ2 rb Γ3 e3 σ G2 H1 g2 _ fun y G3 H3 s3 g3 h3 => ?_
    obtain ⟨n2, G4, s4, g4, h4⟩ := settle_ok g3 h3 e4
    refine q x y G4 H3 ((s1.trans s2).trans (s3.trans s4)) g4 n1 n2 ?_ h4 fun a _ _ z => ?_
    · rw [hr]
      exact Dv.mono (s3.trans s4) h2
    · obtain ⟨_, _, z, _⟩ := z
      rw [hr] at z
      cases z
  | fr ds =>
    rw [hr] at h2
    obtain ⟨a, xs, rfl, gp, h0, hd⟩ := pend g2 h2
    refine k A (upd F a (.lst xs)) Γ2 rb Γ3 e3 σ G2 H1 gp _ fun y G3 H3 s3 g3 h3 => ?_
    obtain ⟨n2, G4, s4, g4, h4⟩ := settle_ok g3 h3 e4
    obtain ⟨g5, h5⟩ := unpend g4 h0 (hd.mono (s3.trans s4))
    refine q (.ref a) y G4 H3 ((s1.trans s2).trans (s3.trans s4)) g5 n1 n2 ?_ ?_ ?_
    · rw [hr]
      exact h5
    · cases hb : rb' with
      | sl _ =>
        rw [hb] at n2
        cases n2
      | im d2 =>
        rw [hb] at h4
        exact h4
      | fr es =>
        rw [hb] at h4
        obtain ⟨b, ys, rfl, k1, k2, k3, k4, k5⟩ := h4
        have hne : b ≠ a := fun z => by
          rw [z, upd_same] at k2
          cases k2
        rw [upd_ne hne] at k2
        exact ⟨b, ys, rfl, k1, k2, k3, k4, k5⟩
    · rintro c e5 e6 ⟨ds', es, _, e7⟩
      cases e5
      rw [e7] at h4
      obtain ⟨b, ys, e8, k1, k2, _⟩ := h4
      rw [e6] at e8
      cases e8
      rw [upd_same] at k2
      cases k2
def sPar2 (i j : Nat) (me mf : Me) : Ms := fun Γ => (m2R me mf Γ).bind fun p => some (.nx (put (put p.2.2 i p.1) j p.2.1))
theorem par2_end {i j : Nat} {D0 : Ends} {x y : V} {r1 r2 : Rs} (g : GS K A F Γ σ G H) (n1 : notSl r1 = true) (n2 : notSl r2 = true) (h1 : RsOk K F Γ σ G H x r1) (h2 : RsOk K F Γ σ G H y r2) (ne : ∀ a, x = .ref a → y = .ref a → (∃ ds es, r1 = .fr ds ∧ r2 = .fr es) → False) : GS K A F (put (put Γ i r1) j r2) ((σ.set i (some x)).set j (some y)) G H := by
  by_cases both : ∃ ds es, r1 = .fr ds ∧ r2 = .fr es
  · obtain ⟨g1, h3⟩ := put_ok (i := i) g n1 n2 h1 h2 fun a e1 e2 => (ne a e1 e2 both).elim
    exact put1 g1 n2 h3
  · -- not both are new
    cases r1 with
    | sl _ => cases n1
    | im d =>
      have g1 := g.asgIm h1 i
      refine put1 g1 n2 ?_
      cases r2 with
      | sl _ => cases n2
      | im d2 => exact h2
      | fr es =>
        obtain ⟨b, ys, rfl, k1, k2, k3, k4, k5⟩ := h2
        refine ⟨b, ys, rfl, k1, k2, k3, k4, fun j c fs e z => ?_⟩
        rcases set_get e with ⟨_, w⟩ | ⟨hj, e⟩
        · cases w
        · rw [List.getElem?_set_ne hj] at z
          exact k5 j c fs e z
    | fr ds =>
      cases r2 with
      | sl _ => cases n2
      | fr es => exact absurd ⟨ds, es, rfl, rfl⟩ both
      | im d2 => exact (g.asgOw h1 i).asgIm h2 j
theorem ts_par2 {i j : Nat} {te tf : TE} {me mf : Me} (h : TEok K te me) (k : TEok K tf mf) : TSok K (tPar i j (tCons te (tCons tf tNil))) (sPar2 i j me mf) := fun A F Γ o e σ G H D g q => by
  obtain ⟨⟨r1, r2, Γ1⟩, e1, e⟩ := obind e
  cases e
  exact two_ok h k e1 g (fun x y H2 => ∃ v w, [x, y] = [v, w] ∧ D.nx ((σ.set i (some v)).set j (some w)) H2) fun x y G1 H1 s1 g1 n1 n2 h1 h2 ne => ⟨x, y, rfl, q _ G1 H1 s1 (par2_end (D0 := D) g1 n1 n2 h1 h2 ne)⟩
/-- the same through a tuple (a name that is a cell) -/
theorem ts_parT2 {i j : Nat} {te tf : TE} {me mf : Me} (h : TEok K te me) (k : TEok K tf mf) : TSok K (tAsg (tTup (tCons te (tCons tf tNil))) (gTup K 2 (gCons (gName i) (gCons (gName j) gNil)))) (sPar2 i j me mf) := fun A F Γ o e σ G H D g q => by
  obtain ⟨⟨r1, r2, Γ1⟩, e1, e⟩ := obind e
  cases e
  refine two_ok h k e1 g (fun x y H2 => [x, y].length ≤ sizeLine ∧ ∀ p, H2 p = none → gTup K 2 (gCons (gName i) (gCons (gName j) gNil)) (.ref p) σ (upd H2 p (.tup [x, y])) D.nx) fun x y G1 H1 s1 g1 n1 n2 h1 h2 ne => ⟨by show 2 ≤ sizeLine; decide, fun p hp => ⟨p, [x, y], rfl, SqT.of upd_same, rfl, x, [y], rfl, y, [], rfl, rfl, ?_⟩⟩
  have g2 := g1.new (o := .tup [x, y]) hp
  have up : ∀ {z : V} {r : Rs}, RsOk K F Γ1 σ G1 H1 z r → notSl r = true → RsOk K F Γ1 σ G1 (upd H1 p (.tup [x, y])) z r := fun {z r} hz nz => by
    cases r with
    | sl _ => cases nz
    | im d => exact hz
    | fr es =>
      obtain ⟨b, ys, rfl, k1, k2, k3, k4, k5⟩ := hz
      exact ⟨b, ys, rfl, k1, k2, by rw [upd_ne (ne_of_none k3 hp)]; exact k3, k4, k5⟩
  exact q _ G1 _ s1 (par2_end (D0 := D) g2 n1 n2 (up h1 n1) (up h2 n2) ne)
end
end VL

set_option Elab.async false
set_option linter.all false
set_option maxRecDepth 100000
set_option maxHeartbeats 2000000
namespace VL
open PySem PySem.Spec PyProof.Rows L2
def Apart (x y : V) (r1 r2 : Rs) : Prop := ∀ a, x = .ref a → y = .ref a → (∃ ds es, r1 = .fr ds ∧ r2 = .fr es) → False
section
variable {K : PySem.W.Frag} {A : Addr} {F : Hp} {Γ Γ' : Gm} {σ : L2.St} {G G' H H' : Hp} {v : V} {d : D} {ds : List D} {r : Rs} {a p : Addr} {xs : List V}
theorem keep {i : Nat} {x y : V} {r1 r2 : Rs} (g : GS K A F Γ σ G H) (n1 : notSl r1 = true) (n2 : notSl r2 = true) (h1 : RsOk K F Γ σ G H x r1) (h2 : RsOk K F Γ σ G H y r2) (ne : Apart x y r1 r2) : RsOk K F (put Γ i r1) (σ.set i (some x)) G H y r2 := by
  cases r2 with
  | sl _ => cases n2
  | im d => exact h2
  | fr es =>
    obtain ⟨b, ys, rfl, k1, k2, k3, k4, k5⟩ := h2
    refine ⟨b, ys, rfl, k1, k2, k3, k4, fun j c fs e z => ?_⟩
    cases r1 with
    | sl _ => cases n1
    | im d =>
      rcases set_get e with ⟨_, w⟩ | ⟨hj, e⟩
      · cases w
      · rw [List.getElem?_set_ne hj] at z
        exact k5 j c fs e z
    | fr ds =>
      rcases set_get e with ⟨rfl, w⟩ | ⟨hj, e⟩
      · rcases set_getS z with ⟨_, w2⟩ | ⟨hj, _⟩
        · cases w2
          exact ne b rfl rfl ⟨ds, es, rfl, rfl⟩
        · exact hj rfl
      · rw [List.getElem?_set_ne hj] at z
        exact k5 j c fs e z
theorem weakF {o : HO} {y : V} {r2 : Rs} (n2 : notSl r2 = true) (h : RsOk K (upd F a o) Γ σ G H y r2) : RsOk K F Γ σ G H y r2 ∧ ∀ ds, Apart (.ref a) y (.fr ds) r2 := by
  cases r2 with
  | sl _ => cases n2
  | im d => exact ⟨h, fun ds c _ _ ⟨_, _, _, z⟩ => by cases z⟩
  | fr es =>
    obtain ⟨b, ys, rfl, k1, k2, k3, k4, k5⟩ := h
    have hne : b ≠ a := fun z => by
      rw [z, upd_same] at k2
      cases k2
    rw [upd_ne hne] at k2
    exact ⟨⟨b, ys, rfl, k1, k2, k3, k4, k5⟩, fun ds c e1 e2 _ => by
      cases e1
      cases e2
      exact hne rfl⟩
def m3R (me mf mg : Me) : Gm → Option (Rs × Rs × Rs × Gm) := fun Γ => (me Γ).bind fun p => (settle p.2 p.1).bind fun p' => (m2R mf mg p'.2).bind fun q => some (p'.1, q.1, q.2.1, q.2.2)
theorem three_ok {te tf tg : TE} {me mf mg : Me} {r1 r2 r3 : Rs} (h : TEok K te me) (k : TEok K tf mf) (l : TEok K tg mg) (e : m3R me mf mg Γ = some (r1, r2, r3, Γ')) (g : GS K A F Γ σ G H) (Q : V → V → V → Hp → Prop)
    (q : ∀ x y z G' H', Same G G' → GS K A F Γ' σ G' H' → (notSl r1 = true ∧ notSl r2 = true ∧ notSl r3 = true) → RsOk K F Γ' σ G' H' x r1 → RsOk K F Γ' σ G' H' y r2 → RsOk K F Γ' σ G' H' z r3 → Apart x y r1 r2 → Apart x z r1 r3 → Apart y z r2 r3 → Q x y z H') :
    te σ H fun x H1 => tf σ H1 fun y H2 => tg σ H2 fun z H3 => Q x y z H3 := by
  obtain ⟨⟨ra, Γ1⟩, e1, e⟩ := obind e
  obtain ⟨⟨ra', Γ2⟩, e2, e⟩ := obind e
  obtain ⟨⟨rb, rc, Γ3⟩, e3, e⟩ := obind e
  have e : some (ra', rb, rc, Γ3) = some (r1, r2, r3, Γ') := e
  simp only [Option.some.injEq, Prod.mk.injEq] at e
  obtain ⟨q1, q2, q3, q4⟩ := e
  subst q1 q2 q3 q4
  refine h A F Γ ra Γ1 e1 σ G H g _ fun x G1 H1 s1 g1 h1 => ?_
  obtain ⟨n1, G2, s2, g2, h2⟩ := settle_ok g1 h1 e2
  cases hr : ra' with
  | sl _ =>
    rw [hr] at n1
    cases n1
  | im d =>
    rw [hr] at h2
    refine two_ok k l e3 g2 (fun y z H3 => Q x y z H3) fun y z G3 H3 s3 g3 n2 n3 h3 h4 ap => q x y z G3 H3 ((s1.trans s2).trans s3) g3 ⟨n1, n2, n3⟩ ?_ h3 h4 ?_ ?_ ap
    · rw [hr]
      exact Dv.mono s3 h2
    · intro c _ _ ⟨_, _, w, _⟩
      rw [hr] at w
      cases w
    · intro c _ _ ⟨_, _, w, _⟩
      rw [hr] at w
      cases w
  | fr ds =>
    rw [hr] at h2
    obtain ⟨a, xs, rfl, gp, h0, hd⟩ := pend g2 h2
    refine two_ok k l e3 gp (fun y z H3 => Q (.ref a) y z H3) fun y z G3 H3 s3 g3 n2 n3 h3 h4 ap => ?_
    obtain ⟨g5, h5⟩ := unpend g3 h0 (hd.mono s3)
    obtain ⟨h6, a1⟩ := weakF n2 h3
    obtain ⟨h7, a2⟩ := weakF n3 h4
    refine q (.ref a) y z G3 H3 ((s1.trans s2).trans s3) g5 ⟨n1, n2, n3⟩ ?_ h6 h7 ?_ ?_ ap
    · rw [hr]
      exact h5
    · rw [hr]
      exact a1 ds
    · rw [hr]
      exact a2 ds
def sPar3 (i j l : Nat) (me mf mg : Me) : Ms := fun Γ => (m3R me mf mg Γ).bind fun p => some (.nx (put (put (put p.2.2.2 i p.1) j p.2.1) l p.2.2.1))
theorem par3_end {i j l : Nat} {x y z : V} {r1 r2 r3 : Rs} (g : GS K A F Γ σ G H) (n1 : notSl r1 = true) (n2 : notSl r2 = true) (n3 : notSl r3 = true) (h1 : RsOk K F Γ σ G H x r1) (h2 : RsOk K F Γ σ G H y r2) (h3 : RsOk K F Γ σ G H z r3) (a1 : Apart x y r1 r2) (a2 : Apart x z r1 r3) (a3 : Apart y z r2 r3) :
    GS K A F (put (put (put Γ i r1) j r2) l r3) (((σ.set i (some x)).set j (some y)).set l (some z)) G H := by
  have g1 := put1 (i := i) g n1 h1
  have k2 := keep (i := i) g n1 n2 h1 h2 a1
  have k3 := keep (i := i) g n1 n3 h1 h3 a2
  have g2 := put1 (i := j) g1 n2 k2
  have k4 := keep (i := j) g1 n2 n3 k2 k3 a3
  exact put1 g2 n3 k4
theorem ts_par3 {i j l : Nat} {te tf tg : TE} {me mf mg : Me} (h : TEok K te me) (k : TEok K tf mf) (k3 : TEok K tg mg) : TSok K (tPar3 i j l (tCons te (tCons tf (tCons tg tNil)))) (sPar3 i j l me mf mg) := fun A F Γ o e σ G H D g q => by
  obtain ⟨⟨r1, r2, r3, Γ1⟩, e1, e⟩ := obind e
  cases e
  exact three_ok h k k3 e1 g (fun x y z H2 => ∃ u v w, [x, y, z] = [u, v, w] ∧ D.nx (((σ.set i (some u)).set j (some v)).set l (some w)) H2) fun x y z G1 H1 s1 g1 n h1 h2 h3 a1 a2 a3 => ⟨x, y, z, rfl, q _ G1 H1 s1 (par3_end g1 n.1 n.2.1 n.2.2 h1 h2 h3 a1 a2 a3)⟩
theorem rs_new {y : V} {r2 : Rs} {o : HO} (n : notSl r2 = true) (hp : H p = none) (h : RsOk K F Γ σ G H y r2) : RsOk K F Γ σ G (upd H p o) y r2 := by
  cases r2 with
  | sl _ => cases n
  | im d => exact h
  | fr es =>
    obtain ⟨b, ys, rfl, k1, k2, k3, k4, k5⟩ := h
    exact ⟨b, ys, rfl, k1, k2, by rw [upd_ne (ne_of_none k3 hp)]; exact k3, k4, k5⟩
theorem ts_parT3 {i j l : Nat} {te tf tg : TE} {me mf mg : Me} (h : TEok K te me) (k : TEok K tf mf) (k3 : TEok K tg mg) : TSok K (tAsg (tTup (tCons te (tCons tf (tCons tg tNil)))) (gTup K 3 (gCons (gName i) (gCons (gName j) (gCons (gName l) gNil))))) (sPar3 i j l me mf mg) := fun A F Γ o e σ G H D g q => by
  obtain ⟨⟨r1, r2, r3, Γ1⟩, e1, e⟩ := obind e
  cases e
  refine three_ok h k k3 e1 g (fun x y z H2 => [x, y, z].length ≤ sizeLine ∧ ∀ p, H2 p = none → gTup K 3 (gCons (gName i) (gCons (gName j) (gCons (gName l) gNil))) (.ref p) σ (upd H2 p (.tup [x, y, z])) D.nx) fun x y z G1 H1 s1 g1 n h1 h2 h3 a1 a2 a3 => ⟨by show 3 ≤ sizeLine; decide, fun p hp => ⟨p, [x, y, z], rfl, SqT.of upd_same, rfl, x, [y, z], rfl, y, [z], rfl, z, [], rfl, rfl, ?_⟩⟩
  exact q _ G1 _ s1 (par3_end (g1.new hp) n.1 n.2.1 n.2.2 (rs_new n.1 hp h1) (rs_new n.2.1 hp h2) (rs_new n.2.2 hp h3) a1 a2 a3)
end
end VL

set_option Elab.async false
set_option linter.all false
set_option maxRecDepth 100000
set_option maxHeartbeats 2000000
namespace VL
open PySem PySem.Spec PyProof.Rows L2
theorem room65 {k : Nat} {A : Around} (r : Room k A) : A.units + 65 < cLine := by
  have := r.un
  omega
section
variable {X : Cx} {K : PySem.W.Frag}
theorem c_tuple : CallR X (.type "tuple") (rTupleG X.K) := call_tuple_of
theorem m_tuple : OpN K (rTupleG K) fTuple := fun G H xs ds rr s h hf Q q => by
  unfold fTuple at hf
  split at hf
  · cases hf
    obtain ⟨v, rfl, a, ys, rfl, k1, k2⟩ := pkA1 h
    exact ⟨a, ys, rfl, .inl ⟨k1, fun l hl => q _ _ ⟨l, ys, rfl, hl, rfl, k2⟩⟩⟩
  · cases hf
theorem law_end {H : Hp} {a : Addr} {ns : List Int} {m : List D → Option Fr} {E : XK} (hS : SqL K H a (ns.map V.int)) (h : m [.list (ns.map .int)] = some (.im (.bool true))) : spV K 1 m [.ref a] H (fun v _ => v = .bl true) E :=
  ⟨rfl, H, _, _, Same.refl _, .one (.lst hS (.ints ns)), h, fun v G' H' _ _ _ ok => dvBl ok⟩
end
end VL

set_option Elab.async false
set_option linter.all false
set_option maxRecDepth 100000
set_option maxHeartbeats 2000000
namespace VL
open PySem PySem.Spec PyProof.Rows L2
section
variable {K : PySem.W.Frag}
/-! ### l[i], l[j] = a pair -/
def gmSub (mo mi : Me) : D → Gm → Option Gm := fun d Γ => (mo Γ).bind fun po => (mi po.2).bind fun pi => (intR pi.1).bind fun k =>
  (slotUp pi.2 (fun ds => (ixN ds.length k).bind fun n => some (.none, ds.set n d)) po.1).bind fun w => some w.2
def THok (K : PySem.W.Frag) (g : TG) (m : D → Gm → Option Gm) : Prop := ∀ (A : Addr) (F : Hp) (Γ : Gm) (d : D) (Γ' : Gm), m d Γ = some Γ' → ∀ (σ : L2.St) (G H : Hp) (v : V), GS K A F Γ σ G H → Dv K G v d → ∀ Q : L2.St → Hp → Prop,
  (∀ G' H', Same G G' → GS K A F Γ' σ G' H' → Q σ H') → g v σ H Q
theorem th_sub {to ti : TE} {mo mi : Me} (ho : TEok K to mo) (hi : TEok K ti mi) : THok K (gSub to ti rSetL) (gmSub mo mi) := fun A F Γ d Γ' e σ G H v g hv Q q => by
  obtain ⟨⟨ro, Γ3⟩, e3, e⟩ := obind e
  obtain ⟨⟨ri, Γ4⟩, e4, e⟩ := obind e
  obtain ⟨k, e5, e⟩ := obind e
  obtain ⟨⟨rw', Γ5⟩, e6, e⟩ := obind e
  cases e
  obtain ⟨j, b, ds, d2, ds', er, e7, e8, e9, e10⟩ := slotUp_some e6
  obtain ⟨n, e11, e12⟩ := obind e8
  have er : ro = .sl j := er
  have e5 : ri = .im (.int k) := intR_some e5
  subst er e5
  cases e12
  refine ho A F Γ _ Γ3 e3 σ G H g _ fun w G3 H3 s3 g3 h3 => ?_
  refine hi A F Γ3 _ Γ4 e4 σ G3 H3 g3 _ fun z G4 H4 s4 g4 h4 => ?_
  cases h4
  have h3 : σ[j]? = some (some w) := h3
  obtain ⟨a, xs, k1, k2, k3, k4, _⟩ := g4.ow e7
  rw [h3] at k1
  cases k1
  refine ⟨a, xs, k, n, rfl, rfl, k3, by rw [k4.length]; exact e11, ?_⟩
  have gm := g4.mut e7 h3 (k4.set (hv.mono (s3.trans s4)) n)
  have e10 : Γ5 = _ := e10
  rw [← e10] at gm
  exact q G4 _ (s3.trans s4) gm
def gmTwo (m n : D → Gm → Option Gm) : D → Gm → Option Gm := fun d Γ => match d with
  | .tuple [x, y] => (m x Γ).bind fun Γ1 => n y Γ1
  | _ => none
theorem ts_asgTwo {te : TE} {me : Me} {g1 g2 : TG} {m n : D → Gm → Option Gm} (h : TEok K te me) (h1 : THok K g1 m) (h2 : THok K g2 n) : TSok K (tAsg te (gTup K 2 (gCons g1 (gCons g2 gNil)))) (sAsgT (gmTwo m n) me) := fun A F Γ o e σ G H D g q => by
  obtain ⟨⟨r, Γ1⟩, e1, e⟩ := obind e
  obtain ⟨⟨d, Γ2⟩, e2, e⟩ := obind e
  obtain ⟨Γ3, e3, e⟩ := obind e
  cases e
  refine h A F Γ r Γ1 e1 σ G H g _ fun v G1 H1 s1 g1' k1 => ?_
  obtain ⟨G2, s2, g2', k2⟩ := frz_ok g1' k1 e2
  cases d with
  | tuple ds =>
    match ds, e3, k2 with
    | [x, y], e3, k2 =>
      have e3 : (m x Γ2).bind (fun Γ1 => n y Γ1) = some Γ3 := e3
      obtain ⟨Γ4, e4, e5⟩ := obind e3
      cases k2 with
      | @tup a xs _ w1 w2 =>
        cases w2 with
        | cons u1 u2 =>
          cases u2 with
          | cons u2 u3 =>
            cases u3
            refine ⟨a, _, rfl, sqt_mono g2'.ex w1, rfl, _, _, rfl, ?_⟩
            refine h1 A F Γ2 _ Γ4 e4 σ G2 H1 _ g2' u1 _ fun G5 H5 s5 g5 => ?_
            refine ⟨_, _, rfl, ?_⟩
            refine h2 A F Γ4 _ Γ3 e5 σ G5 H5 _ g5 (u2.mono s5) _ fun G6 H6 s6 g6 => ?_
            exact ⟨rfl, q σ G6 H6 (s1.trans (s2.trans (s5.trans s6))) g6⟩
    | [], e3, _ => cases e3
    | [_], e3, _ => cases e3
    | _ :: _ :: _ :: _, e3, _ => cases e3
  | _ => cases e3
end
end VL

set_option Elab.async false
set_option linter.all false
set_option maxRecDepth 100000
set_option maxHeartbeats 2000000
namespace VL
open PySem PySem.Spec PyProof.Rows L2
/-! ### lists of ints: sorted, min, max, sum -/
def intsOf : List D → Option (List Int)
  | [] => some []
  | .int i :: ds => (intsOf ds).map (i :: ·)
  | _ => none
theorem intsOf_map : ∀ ns : List Int, intsOf (ns.map .int) = some ns
  | [] => rfl
  | n :: ns => by
    show (intsOf (ns.map .int)).map _ = _
    rw [intsOf_map ns]
    rfl
theorem intsOf_vals {K : PySem.W.Frag} {G : Hp} : ∀ {vs : List V} {ds : List D} {ns : List Int}, DvA K G vs ds → intsOf ds = some ns → vs = ns.map V.int
  | _, [], _, .nil, e => by
    cases e
    rfl
  | _, .int i :: ds, _, .cons h t, e => by
    have e : (intsOf ds).map (i :: ·) = some _ := e
    cases e2 : intsOf ds with
    | none =>
      rw [e2] at e
      cases e
    | some ms =>
      rw [e2] at e
      cases e
      cases h
      rw [intsOf_vals t e2]
      rfl
theorem ints_dvA {K : PySem.W.Frag} {G : Hp} : ∀ ns : List Int, DvA K G (ns.map V.int) (ns.map .int)
  | [] => .nil
  | n :: ns => .cons (.int n) (ints_dvA ns)
def sortI (ns : List Int) : List Int := ns.mergeSort fun a b => decide (a ≤ b)
theorem sortI_perm (ns : List Int) : (sortI ns).Perm ns := List.mergeSort_perm ns _
theorem sortI_pair (ns : List Int) : (sortI ns).Pairwise (· ≤ ·) := by
  have := List.pairwise_mergeSort (le := fun a b : Int => decide (a ≤ b)) (fun a b c h1 h2 => by
    rw [decide_eq_true_eq] at *
    omega) (fun a b => by
    rw [Bool.or_eq_true, decide_eq_true_eq, decide_eq_true_eq]
    omega) ns
  exact this.imp fun h => of_decide_eq_true h
theorem sortI_eq {ns ms : List Int} (h1 : ms.Perm ns) (h2 : ms.Pairwise (· ≤ ·)) : ms = sortI ns :=
  List.Perm.eq_of_pairwise (fun a b _ _ h3 h4 => Int.le_antisymm h3 h4) h2 (sortI_pair ns) (h1.trans (sortI_perm ns).symm)
def fSorted : List D → Option Rr
  | [.list ds] => (intsOf ds).map fun ns => .fr ((sortI ns).map .int)
  | _ => none
def leastI : List Int → Option Int
  | [] => none
  | n :: ns => some (ns.foldl (fun a b => if b < a then b else a) n)
def mostI : List Int → Option Int
  | [] => none
  | n :: ns => some (ns.foldl (fun a b => if a < b then b else a) n)
def fMinL : List D → Option D
  | [.list ds] => (intsOf ds).bind fun ns => (leastI ns).map .int
  | _ => none
def fMaxL : List D → Option D
  | [.list ds] => (intsOf ds).bind fun ns => (mostI ns).map .int
  | _ => none
def fSumL : List D → Option D
  | [.list ds] => (intsOf ds).map fun ns => .int ns.sum
  | _ => none
section
variable {K : PySem.W.Frag} {X : Cx}
theorem m_sorted : OpN K (rSortedI K) fSorted := fun G H xs ds rr s h hf Q q => by
  unfold fSorted at hf
  split at hf
  · rename_i es
    cases e : intsOf es with
    | none =>
      rw [e] at hf
      cases hf
    | some ns =>
      rw [e] at hf
      cases hf
      obtain ⟨v, rfl, a, ys, rfl, k1, k2⟩ := pkA1 h
      refine ⟨a, ns, rfl, by rw [← intsOf_vals k2 e]; exact k1, fun ns' p h1 h2 hp => ?_⟩
      rw [sortI_eq h1 h2]
      exact q _ _ ⟨p, _, rfl, hp, rfl, ints_dvA _⟩
  · cases hf
theorem fold_least : ∀ (ns : List Int) (n : Int), (ns.foldl (fun a b => if b < a then b else a) n = n ∨ ns.foldl (fun a b => if b < a then b else a) n ∈ ns) ∧ ns.foldl (fun a b => if b < a then b else a) n ≤ n ∧ ∀ y ∈ ns, ns.foldl (fun a b => if b < a then b else a) n ≤ y
  | [], n => ⟨.inl rfl, Int.le_refl _, fun _ h => nomatch h⟩
  | m :: ns, n => by
    obtain ⟨h1, h2, h3⟩ := fold_least ns (if m < n then m else n)
    rw [List.foldl_cons]
    generalize ns.foldl (fun a b => if b < a then b else a) (if m < n then m else n) = z at h1 h2 h3 ⊢
    refine ⟨?_, ?_, fun y hy => ?_⟩
    · rcases h1 with h1 | h1
      · by_cases hm : m < n
        · rw [if_pos hm] at h1
          exact .inr (by rw [h1]; exact List.mem_cons_self ..)
        · rw [if_neg hm] at h1
          exact .inl h1
      · exact .inr (List.mem_cons_of_mem _ h1)
    · by_cases hm : m < n
      · rw [if_pos hm] at h2; omega
      · rw [if_neg hm] at h2; exact h2
    · cases hy with
      | head =>
        by_cases hm : m < n
        · rw [if_pos hm] at h2; exact h2
        · rw [if_neg hm] at h2; omega
      | tail _ hy => exact h3 y hy
theorem fold_most : ∀ (ns : List Int) (n : Int), (ns.foldl (fun a b => if a < b then b else a) n = n ∨ ns.foldl (fun a b => if a < b then b else a) n ∈ ns) ∧ n ≤ ns.foldl (fun a b => if a < b then b else a) n ∧ ∀ y ∈ ns, y ≤ ns.foldl (fun a b => if a < b then b else a) n
  | [], n => ⟨.inl rfl, Int.le_refl _, fun _ h => nomatch h⟩
  | m :: ns, n => by
    obtain ⟨h1, h2, h3⟩ := fold_most ns (if n < m then m else n)
    rw [List.foldl_cons]
    generalize ns.foldl (fun a b => if a < b then b else a) (if n < m then m else n) = z at h1 h2 h3 ⊢
    refine ⟨?_, ?_, fun y hy => ?_⟩
    · rcases h1 with h1 | h1
      · by_cases hm : n < m
        · rw [if_pos hm] at h1
          exact .inr (by rw [h1]; exact List.mem_cons_self ..)
        · rw [if_neg hm] at h1
          exact .inl h1
      · exact .inr (List.mem_cons_of_mem _ h1)
    · by_cases hm : n < m
      · rw [if_pos hm] at h2; omega
      · rw [if_neg hm] at h2; exact h2
    · cases hy with
      | head =>
        by_cases hm : n < m
        · rw [if_pos hm] at h2; exact h2
        · rw [if_neg hm] at h2; omega
      | tail _ hy => exact h3 y hy
theorem c_minL (hc : X.calm = true) : CallR X (.builtin "min") (rSN X.K fMinL) := CallR.to (cr_min hc) fun xs H Q ⟨ds, z, h1, h2, q⟩ => by
  unfold fMinL at h2
  split at h2
  · rename_i es
    obtain ⟨v, rfl, g1⟩ := dvA1 h1
    obtain ⟨ns, e, h2⟩ := obind h2
    cases g1 with
    | @lst a xs _ k1 k2 =>
      cases ns with
      | nil => cases h2
      | cons n ns =>
        cases h2
        refine ⟨a, n :: ns, rfl, by rw [← intsOf_vals k2 e]; exact k1, Nat.succ_pos _, fun m hm hy => ?_⟩
        obtain ⟨f1, f2, f3⟩ := fold_least ns n
        have u1 := hy (ns.foldl (fun a b => if b < a then b else a) n) (by rcases f1 with f1 | f1; · rw [f1]; exact List.mem_cons_self ..
                                                                           · exact List.mem_cons_of_mem _ f1)
        have u2 : ns.foldl (fun a b => if b < a then b else a) n ≤ m := by
          cases hm with
          | head => exact f2
          | tail _ hm => exact f3 m hm
        rw [Int.le_antisymm u1 u2]
        exact q
  · cases h2
theorem c_maxL (hc : X.calm = true) : CallR X (.builtin "max") (rSN X.K fMaxL) := CallR.to (cr_max hc) fun xs H Q ⟨ds, z, h1, h2, q⟩ => by
  unfold fMaxL at h2
  split at h2
  · rename_i es
    obtain ⟨v, rfl, g1⟩ := dvA1 h1
    obtain ⟨ns, e, h2⟩ := obind h2
    cases g1 with
    | @lst a xs _ k1 k2 =>
      cases ns with
      | nil => cases h2
      | cons n ns =>
        cases h2
        refine ⟨a, n :: ns, rfl, by rw [← intsOf_vals k2 e]; exact k1, Nat.succ_pos _, fun m hm hy => ?_⟩
        obtain ⟨f1, f2, f3⟩ := fold_most ns n
        have u1 := hy (ns.foldl (fun a b => if a < b then b else a) n) (by rcases f1 with f1 | f1; · rw [f1]; exact List.mem_cons_self ..
                                                                           · exact List.mem_cons_of_mem _ f1)
        have u2 : m ≤ ns.foldl (fun a b => if a < b then b else a) n := by
          cases hm with
          | head => exact f2
          | tail _ hm => exact f3 m hm
        rw [Int.le_antisymm u2 u1]
        exact q
  · cases h2
theorem c_sumL (hc : X.calm = true) : CallR X (.builtin "sum") (rSN X.K fSumL) := CallR.to (cr_sum hc) fun xs H Q ⟨ds, z, h1, h2, q⟩ => by
  unfold fSumL at h2
  split at h2
  · rename_i es
    obtain ⟨v, rfl, g1⟩ := dvA1 h1
    cases e : intsOf es with
    | none =>
      rw [e] at h2
      cases h2
    | some ns =>
      rw [e] at h2
      cases h2
      cases g1 with
      | @lst a xs _ k1 k2 => exact ⟨a, ns, rfl, by rw [← intsOf_vals k2 e]; exact k1, q⟩
  · cases h2
end
end VL

set_option Elab.async false
set_option linter.all false
set_option maxRecDepth 100000
set_option maxHeartbeats 2000000
namespace VL
open PySem PySem.Spec PyProof.Rows L2
/-! ### l.index(x) -/
def idxGo (d : D) : List D → Nat → Option Nat
  | [], _ => none
  | z :: zs, k => if PyData.eqv z d then some k else idxGo d zs (k + 1)
theorem idxGo_some {d : D} : ∀ {ds : List D} {k n : Nat}, idxGo d ds k = some n → k ≤ n ∧ (∃ z, ds[n - k]? = some z ∧ PyData.eqv z d = true) ∧ ∀ (m : Nat) (z : D), m < n - k → ds[m]? = some z → PyData.eqv z d = false
  | [], _, _, h => nomatch h
  | z :: zs, k, n, h => by
    have h : (if PyData.eqv z d then some k else idxGo d zs (k + 1)) = some n := h
    by_cases hz : PyData.eqv z d = true
    · rw [if_pos hz] at h
      cases h
      refine ⟨Nat.le_refl _, ⟨z, by rw [Nat.sub_self]; rfl, hz⟩, fun m z' hm _ => ?_⟩
      omega
    · rw [if_neg hz] at h
      obtain ⟨h1, ⟨w, h2, h3⟩, h4⟩ := idxGo_some h
      refine ⟨by omega, ⟨w, ?_, h3⟩, fun m z' hm e => ?_⟩
      · have : n - k = (n - (k + 1)) + 1 := by omega
        rw [this]
        exact h2
      · cases m with
        | zero =>
          cases e
          exact Bool.eq_false_iff.mpr hz
        | succ m => exact h4 m z' (by omega) e
def fIndex : D → D → Option Int
  | .list ds, x => if SeqAt.shaped (.list ds) && SeqAt.shaped x then (idxGo x ds 0).map fun (k : Nat) => (k : Int) else none
  | _, _ => none
def mIndex (mo me : Me) : Me := fun Γ => (mo Γ).bind fun p => (peek p.2 p.1).bind fun dl => (isL dl).bind fun _ => (me p.2).bind fun q => (peek q.2 (hold p.1)).bind fun d => (peek q.2 q.1).bind fun x => (fIndex d x).bind fun k => some (.im (.int k), q.2)
section
variable {K : PySem.W.Frag}
theorem te_index {to te : TE} {mo me : Me} (ho : TEok K to mo) (h : TEok K te me) : TEok K (tBM K "list" (rIndexD K) to (tCons te tNil)) (mIndex mo me) := fun A F Γ rs Γ' e σ G H g Q q => by
  obtain ⟨⟨r1, Γ1⟩, e1, e⟩ := obind e
  obtain ⟨dl, el, e⟩ := obind e
  obtain ⟨_, el2, e⟩ := obind e
  obtain ⟨⟨r2, Γ2⟩, e2, e⟩ := obind e
  obtain ⟨d, e3, e⟩ := obind e
  obtain ⟨x, e4, e⟩ := obind e
  obtain ⟨k, e5, e⟩ := obind e
  cases e
  refine ho A F Γ r1 Γ1 e1 σ G H g _ fun v G1 H1 s1 g1 h1 => ?_
  obtain ⟨G1', s1', g1', h1'⟩ := hold_ok g1 h1
  refine ⟨ty_list g1 h1 el el2, h A F Γ1 r2 _ e2 σ G1' H1 g1' _ fun y G2 H2 s2 g2 h2 => ?_⟩
  have k1 := peek_ok g2 (held_mono (Γ' := Γ2) (H' := H2) s2 h1') e3
  have k2 := peek_ok g2 h2 e4
  cases d with
  | list ds =>
    have e5 : (if SeqAt.shaped (.list ds) && SeqAt.shaped x then (idxGo x ds 0).map fun (k : Nat) => (k : Int) else none) = some k := e5
    by_cases hs : (SeqAt.shaped (.list ds) && SeqAt.shaped x) = true
    · rw [if_pos hs] at e5
      rw [Bool.and_eq_true] at hs
      cases e6 : idxGo x ds 0 with
      | none =>
        rw [e6] at e5
        cases e5
      | some n =>
        rw [e6] at e5
        cases e5
        obtain ⟨_, ⟨z, z1, z2⟩, z3⟩ := idxGo_some e6
        have c1 : PyData.canLay0 (.list ds) = true := (Bool.and_eq_true_iff.mp (show (PyData.canLay0 (.list ds) && decide _) = true from hs.1)).1
        have c2 : PyData.canLay0 x = true := (Bool.and_eq_true_iff.mp (show (PyData.canLay0 x && decide _) = true from hs.2)).1
        have d1 := Dv.dp (Pk.dv g2.ex k1) c1
        have d2 := Dv.dp (Pk.dv g2.ex k2) c2
        obtain ⟨a, xs, rfl, _⟩ := k1
        refine ⟨a, y, x, ds, n, z, rfl, rfl, d1, d2, hs.1, hs.2, z1, z2, z3, ?_⟩
        exact q _ G2 H2 ((s1.trans s1').trans s2) g2 (.int _)
    · rw [if_neg hs] at e5
      cases e5
  | _ => cases e5
end
end VL

set_option Elab.async false
set_option linter.all false
set_option maxRecDepth 100000
set_option maxHeartbeats 2000000
namespace VL
open PySem PySem.Spec PyProof.Rows L2
/-! ### xs[::-1] -/
def mRev (me : Me) : Me := fun Γ => (me Γ).bind fun p => (peek p.2 p.1).bind fun d => match d with
  | .list ds => some (.fr ds.reverse, p.2)
  | _ => none
section
variable {K : PySem.W.Frag}
theorem DvA.app {G : Hp} : ∀ {xs ys : List V} {ds es : List D}, DvA K G xs ds → DvA K G ys es → DvA K G (xs ++ ys) (ds ++ es)
  | _, _, _, _, .nil, k => k
  | _, _, _, _, .cons h t, k => .cons h (DvA.app t k)
theorem DvA.rev {G : Hp} : ∀ {xs : List V} {ds : List D}, DvA K G xs ds → DvA K G xs.reverse ds.reverse
  | _, _, .nil => .nil
  | _, _, .cons h t => by
    rw [List.reverse_cons, List.reverse_cons]
    exact DvA.app (DvA.rev t) (.cons h .nil)
theorem te_rev {te : TE} {me : Me} (h : TEok K te me) : TEok K (tRevL K te) (mRev me) := fun A F Γ rs Γ' e σ G H g Q q => by
  obtain ⟨⟨r, Γ1⟩, e1, e⟩ := obind e
  obtain ⟨d, e2, e⟩ := obind e
  cases d with
  | list ds =>
    cases e
    refine h A F Γ r _ e1 σ G H g _ fun v G1 H1 s1 g1 h1 => ?_
    obtain ⟨a, xs, rfl, k1, k2⟩ := peek_ok g1 h1 e2
    refine ⟨a, xs, rfl, k1, fun p hp => ?_⟩
    obtain ⟨G3, s3, g3, h3⟩ := fin_ok (rr := .fr ds.reverse) g1 ⟨p, xs.reverse, rfl, hp, rfl, DvA.rev k2⟩
    exact q _ _ _ (s1.trans s3) g3 h3
  | _ => cases e
end
end VL

set_option Elab.async false
set_option linter.all false
set_option maxRecDepth 100000
set_option maxHeartbeats 2000000
namespace VL
open PySem PySem.Spec PyProof.Rows L2
/-! ### what stands still besides: more, and less again -/
section
variable {K : PySem.W.Frag} {A : Addr} {F F' : Hp} {Γ : Gm} {σ : L2.St} {G H : Hp} {p : Addr} {o : HO}
/-- an object that nothing knows and no slot holds stands still from now on -/
theorem GS.lift (g : GS K A F Γ σ G H) (hG : G p = none) (hF : F p = none) (hH : H p = some o) (hs : ∀ (i : Nat) c es, Γ[i]? = some (some (.ow c es)) → σ[i]? ≠ some (some (.ref p))) : GS K A (upd F p o) Γ σ G H where
  ex := g.ex
  fr := fun b u e => by
    by_cases hb : b = p
    · subst hb
      rw [upd_same] at e
      cases e
      exact hH
    · rw [upd_ne hb] at e
      exact g.fr b u e
  dj := fun b hb => by
    by_cases h : b = p
    · subst h
      exact hG
    · rw [upd_ne h] at hb
      exact g.dj b hb
  len := g.len
  sl := g.sl
  of := fun i c es a e1 e2 => by
    have h : a ≠ p := fun h => hs i c es e1 (by rw [← h]; exact e2)
    rw [upd_ne h]
    exact g.of i c es a e1 e2
  ne := g.ne
/-- what stood still may move again -/
theorem GS.lower (g : GS K A F' Γ σ G H) (h : Same F F') : GS K A F Γ σ G H where
  ex := g.ex
  fr := fun b u e => g.fr b u (h b u e)
  dj := fun b hb => g.dj b fun z => hb (by
    cases e : F b with
    | none => rfl
    | some u =>
      have := h b u e
      rw [z] at this
      cases this)
  len := g.len
  sl := g.sl
  of := fun i c es a e1 e2 => h.free (g.of i c es a e1 e2)
  ne := g.ne
/-- a new list that nobody holds, told by its address, stands still -/
theorem lift_fr {v : V} {ds : List D} (g : GS K A F Γ σ G H) (h : RsOk K F Γ σ G H v (.fr ds)) : ∃ a xs, v = .ref a ∧ H a = some (.lst xs) ∧ F a = none ∧ G a = none ∧ DvA K G xs ds ∧ GS K A (upd F a (.lst xs)) Γ σ G H := by
  obtain ⟨a, xs, rfl, h1, h2, h3, h4, h5⟩ := h
  exact ⟨a, xs, rfl, h3, h2, h1, h4, g.lift h1 h2 h3 h5⟩
/-- an object that stands still is changed: it, and only it, must be one that stood still on its own account -/
theorem GS.change (g : GS K A F' Γ σ G H) (hp : F' p ≠ none) (hF : F p = none) (h : ∀ b u, b ≠ p → F b = some u → F' b = some u) : GS K A F Γ σ G (upd H p o) where
  ex := fun b u e => by
    have hb : b ≠ p := fun z => by
      rw [z, g.dj p hp] at e
      cases e
    rw [upd_ne hb]
    exact g.ex b u e
  fr := fun b u e => by
    have hb : b ≠ p := fun z => by
      rw [z, hF] at e
      cases e
    rw [upd_ne hb]
    exact g.fr b u (h b u hb e)
  dj := fun b hb => g.dj b fun z => hb (by
    cases e : F b with
    | none => rfl
    | some u =>
      have hb2 : b ≠ p := fun y => by
        rw [y, hF] at e
        cases e
      have := h b u hb2 e
      rw [z] at this
      cases this)
  len := g.len
  sl := fun i q e => (g.sl i q e).mono (Same.refl _) fun a c ds e1 e2 => by
    subst e1
    have ha : F' a = none := g.of i c ds a e e2
    have hb : a ≠ p := fun z => hp (by rw [← z]; exact ha)
    obtain ⟨b, xs, w1, w2, _⟩ := g.ow e
    rw [e2] at w1
    cases w1
    exact ⟨w2, upd_ne hb⟩
  of := fun i c es a e1 e2 => by
    have ha : F' a = none := g.of i c es a e1 e2
    cases e : F a with
    | none => rfl
    | some u =>
      have hb : a ≠ p := fun y => by
        rw [y, hF] at e
        cases e
      have := h a u hb e
      rw [ha] at this
      cases this
  ne := g.ne
end
end VL

set_option Elab.async false
set_option linter.all false
set_option maxRecDepth 100000
set_option maxHeartbeats 2000000
namespace VL
open PySem PySem.Spec PyProof.Rows L2
/-! ### a list of new lists, of which one is changed: told = [f(..), g(..)]; ..; told[0].append(..) -/
inductive Row where
  | d (d : D)
  | o (ds : List D)
def rowD : Row → D
  | .d d => d
  | .o ds => .list ds
def rowOf : Rs → Option Row
  | .im d => some (.d d)
  | .fr ds => some (.o ds)
  | .sl _ => none
inductive Rows (K : PySem.W.Frag) (F F' G : Hp) : List V → List Row → Prop
  | nil : Rows K F F' G [] []
  | d {x : V} {xs : List V} {d : D} {rs : List Row} : Dv K G x d → Rows K F F' G xs rs → Rows K F F' G (x :: xs) (.d d :: rs)
  | o {b : Addr} {ys xs : List V} {ds : List D} {rs : List Row} : F' b = some (.lst ys) → F b = none → DvA K G ys ds → Rows K F F' G xs rs → Rows K F F' G (.ref b :: xs) (.o ds :: rs)
structure Hot (K : PySem.W.Frag) (F F' : Hp) (j : Nat) (rows : List Row) (σ : L2.St) (G : Hp) : Prop where
  low : Same F F'
  tl : ∃ a xs, σ[j]? = some (some (.ref a)) ∧ F' a = some (.lst xs) ∧ Rows K F F' G xs rows
def TSh (K : PySem.W.Frag) (j : Nat) (t : TS) (m : List Row → Ms) : Prop := ∀ (A : Addr) (F F' : Hp) (Γ : Gm) (rows : List Row) (o : Out), m rows Γ = some o → ∀ (σ : L2.St) (G H : Hp) (D : Ends), GS K A F' Γ σ G H → Hot K F F' j rows σ G → OutOk K A F D G o → t D σ H
def TChk (K : PySem.W.Frag) (j : Nat) (c : TT) (m : List Row → Mt) : Prop := ∀ (A : Addr) (F F' : Hp) (Γ : Gm) (rows : List Row) (b : Bool) (Γ' : Gm), m rows Γ = some (b, Γ') → ∀ (σ : L2.St) (G H : Hp), GS K A F' Γ σ G H → Hot K F F' j rows σ G → ∀ Q : Bool → Hp → Prop,
  (∀ G' H', Same G G' → GS K A F' Γ' σ G' H' → Q b H') → c σ H Q
section
variable {K : PySem.W.Frag} {A : Addr} {F F' : Hp} {Γ : Gm} {σ : L2.St} {G G' H : Hp} {j : Nat}
theorem Rows.mono (e : Same G G') : ∀ {xs : List V} {rs : List Row}, Rows K F F' G xs rs → Rows K F F' G' xs rs
  | _, _, .nil => .nil
  | _, _, .d h t => .d (h.mono e) (Rows.mono e t)
  | _, _, .o h1 h2 h3 t => .o h1 h2 (h3.mono e) (Rows.mono e t)
theorem Rows.wide {F2 : Hp} (e : Same F' F2) : ∀ {xs : List V} {rs : List Row}, Rows K F F' G xs rs → Rows K F F2 G xs rs
  | _, _, .nil => .nil
  | _, _, .d h t => .d h (Rows.wide e t)
  | _, _, .o h1 h2 h3 t => .o (e _ _ h1) h2 h3 (Rows.wide e t)
theorem Rows.dv (e : Same G H) (f : Same F' H) : ∀ {xs : List V} {rs : List Row}, Rows K F F' G xs rs → DvA K H xs (rs.map rowD)
  | _, _, .nil => .nil
  | _, _, .d h t => .cons (h.mono e) (Rows.dv e f t)
  | _, _, .o h1 h2 h3 t => .cons (.lst (SqL.of (f _ _ h1)) (h3.mono e)) (Rows.dv e f t)
theorem Rows.get : ∀ {xs : List V} {rs : List Row} {i : Nat} {ds : List D}, Rows K F F' G xs rs → rs[i]? = some (.o ds) → ∃ b ys, xs[i]? = some (.ref b) ∧ F' b = some (.lst ys) ∧ F b = none ∧ DvA K G ys ds
  | _, _, 0, _, .o h1 h2 h3 _, e => by
    cases e
    exact ⟨_, _, rfl, h1, h2, h3⟩
  | _, _, 0, _, .d _ _, e => by cases e
  | _, _, i + 1, _, .o _ _ _ t, e => Rows.get (i := i) t e
  | _, _, i + 1, _, .d _ t, e => Rows.get (i := i) t e
  | _, _, 0, _, .nil, e => by cases e
  | _, _, i + 1, _, .nil, e => by cases e
theorem Rows.app {ys : List V} {ss : List Row} (k : Rows K F F' G ys ss) : ∀ {xs : List V} {rs : List Row}, Rows K F F' G xs rs → Rows K F F' G (xs ++ ys) (rs ++ ss)
  | _, _, .nil => k
  | _, _, .d h t => .d h (Rows.app k t)
  | _, _, .o h1 h2 h3 t => .o h1 h2 h3 (Rows.app k t)
theorem Rows.length : ∀ {xs : List V} {rs : List Row}, Rows K F F' G xs rs → xs.length = rs.length
  | _, _, .nil => rfl
  | _, _, .d _ t => congrArg (· + 1) (Rows.length t)
  | _, _, .o _ _ _ t => congrArg (· + 1) (Rows.length t)
theorem Hot.mono {rows : List Row} (e : Same G G') (h : Hot K F F' j rows σ G) : Hot K F F' j rows σ G' := by
  obtain ⟨h1, a, xs, h2, h3, h4⟩ := h
  exact ⟨h1, a, xs, h2, h3, h4.mono e⟩
theorem th_leave {t : TS} {m : Ms} (h : TSok K t m) : TSh K j t (fun _ => m) := fun A F F' Γ rows o e σ G H D g hot q => h A F Γ o e σ G H D (g.lower hot.low) q
theorem th_if {c : TT} {t u : TS} {mt : Mt} {m n : List Row → Ms} (hc : TTok K c mt) (h : TSh K j t m) (k : TSh K j u n) : TSh K j (tIfS c t u) (fun rows Γ => (mt Γ).bind fun p => if p.1 = true then m rows p.2 else n rows p.2) := fun A F F' Γ rows o e σ G H D g hot q => by
  obtain ⟨⟨b, Γ1⟩, e1, e⟩ := obind e
  refine hc A F' Γ b Γ1 e1 σ G H g _ fun G1 H1 s1 g1 => ?_
  cases b with
  | true => exact iteT (h A F F' Γ1 rows o e σ G1 H1 D g1 (hot.mono s1) (q.mono s1))
  | false => exact iteF (k A F F' Γ1 rows o e σ G1 H1 D g1 (hot.mono s1) (q.mono s1))
theorem th_ifH {c : TT} {t u : TS} {mt : List Row → Mt} {m n : List Row → Ms} (hc : TChk K j c mt) (h : TSh K j t m) (k : TSh K j u n) : TSh K j (tIfS c t u) (fun rows Γ => (mt rows Γ).bind fun p => if p.1 = true then m rows p.2 else n rows p.2) := fun A F F' Γ rows o e σ G H D g hot q => by
  obtain ⟨⟨b, Γ1⟩, e1, e⟩ := obind e
  refine hc A F F' Γ rows b Γ1 e1 σ G H g hot _ fun G1 H1 s1 g1 => ?_
  cases b with
  | true => exact iteT (h A F F' Γ1 rows o e σ G1 H1 D g1 (hot.mono s1) (q.mono s1))
  | false => exact iteF (k A F F' Γ1 rows o e σ G1 H1 D g1 (hot.mono s1) (q.mono s1))
/-- f1(told) compared with another value -/
theorem th_test {f : D → D → Option D} {f1 : List D → Option D} {tb : TE} {mb : Me} (hb : TEok K tb mb) : TChk K j (tTest (tOp (rS2 K f) (tCB (rSN K f1) (tCons (tVar j) tNil)) tb)) (fun rows Γ => (f1 [.list (rows.map rowD)]).bind fun z => if isSc z then (mb Γ).bind fun q => (peek q.2 q.1).bind fun e => (f z e).bind fun w => match w with | .bool b => some (b, q.2) | _ => none else none) := fun A F F' Γ rows b Γ' e σ G H g hot Q q => by
  obtain ⟨z, e1, e⟩ := obind e
  by_cases hz : isSc z = true
  · rw [if_pos hz] at e
    obtain ⟨⟨r, Γ1⟩, e2, e⟩ := obind e
    obtain ⟨d, e3, e⟩ := obind e
    obtain ⟨w, e4, e⟩ := obind e
    obtain ⟨low, a, xs, w1, w2, w3⟩ := hot
    cases w with
    | bool c =>
      cases e
      refine ⟨_, w1, ⟨[.list (rows.map rowD)], z, .one (.lst (SqL.of (g.fr _ _ w2)) (w3.dv g.ex g.fr)), e1, ?_⟩⟩
      refine hb A F' Γ r _ e2 σ G H g _ fun y G2 H2 s2 g2 h2 => ?_
      exact ⟨z, d, .bool b, dv_sc hz, (peek_ok g2 h2 e3).dv g2.ex, e4, b, rfl, q G2 H2 s2 g2⟩
    | _ => cases e
  · rw [if_neg hz] at e
    cases e
/-- told[k].append(x), and told is named no more -/
theorem th_mut {k : Int} {te : TE} {me : Me} {u : TS} {n : Ms} (h : TEok K te me) (hu : TSok K u n) : TSh K j (tSeq (tDrop (tBM K "list" rAppend (tOp (rIx K) (tVar j) (tC (.int k))) (tCons te tNil))) u)
    (fun rows Γ => (ixN rows.length k).bind fun i => (rows[i]?).bind fun r => match r with | .o ds => if ds.length < LIM then (me Γ).bind fun q => n q.2 else none | _ => none) := fun A F F' Γ rows o e σ G H D g hot q => by
  obtain ⟨i, e1, e⟩ := obind e
  obtain ⟨r, e2, e⟩ := obind e
  cases r with
  | d _ => cases e
  | o ds =>
    by_cases hz : ds.length < LIM
    · have e : (if ds.length < LIM then (me Γ).bind fun q => n q.2 else none) = some o := e
      rw [if_pos hz] at e
      obtain ⟨⟨r, Γ1⟩, e3, e⟩ := obind e
      obtain ⟨low, a, xs, w1, w2, w3⟩ := hot
      obtain ⟨b, ys, y1, y2, y3, y4⟩ := w3.get e2
      have hat : atI xs k = some (.ref b) := by
        unfold atI
        rw [w3.length, e1]
        exact y1
      refine ⟨_, w1, .inl ⟨a, xs, k, .ref b, rfl, rfl, SqL.of (g.fr _ _ w2), hat, ?_⟩⟩
      refine ⟨.inl ⟨rfl, ys, SqL.of (g.fr _ _ y2)⟩, ?_⟩
      refine h A F' Γ r Γ1 e3 σ G H g _ fun y G2 H2 s2 g2 h2 => ?_
      refine ⟨b, ys, y, rfl, rfl, g2.fr _ _ y2, by rw [y4.length]; exact lim_lt (Nat.le_of_lt hz), ?_⟩
      exact hu A F Γ1 o e σ G2 _ D (g2.change (by rw [y2]; exact fun z => nomatch z) y3 fun x u _ hx => low x u hx) (q.mono s2)
    · have e : (if ds.length < LIM then (me Γ).bind fun q => n q.2 else none) = some o := e
      rw [if_neg hz] at e
      cases e
/-- a slot of which nothing is told takes any value -/
theorem GS.poke (g : GS K A F Γ σ G H) (j : Nat) (v : Option V) : GS K A F (Γ.set j none) (σ.set j v) G H where
  ex := g.ex
  fr := g.fr
  dj := g.dj
  len := by rw [List.length_set, List.length_set]; exact g.len
  sl := fun i o e => by
    rcases set_get e with ⟨rfl, rfl⟩ | ⟨hi, e⟩
    · trivial
    · rw [List.getElem?_set_ne hi]
      exact g.sl i o e
  of := fun i b ds a e1 e2 => by
    rcases set_get e1 with ⟨_, q⟩ | ⟨hi, e1⟩
    · cases q
    · rw [List.getElem?_set_ne hi] at e2
      exact g.of i b ds a e1 e2
  ne := fun i k b c ds es a e1 e2 f1 f2 => by
    rcases set_get e1 with ⟨_, q⟩ | ⟨hi, e1⟩
    · cases q
    · rcases set_get e2 with ⟨_, q⟩ | ⟨hk, e2⟩
      · cases q
      · rw [List.getElem?_set_ne hi] at f1
        rw [List.getElem?_set_ne hk] at f2
        exact g.ne i k b c ds es a e1 e2 f1 f2
/-- a result becomes an item that stands still -/
theorem row_ok {v : V} {r : Rs} {w : Row} {F0 : Hp} (g : GS K A F Γ σ G H) (h : RsOk K F Γ σ G H v r) (e : rowOf r = some w) (low : Same F0 F) : ∃ F', Same F F' ∧ GS K A F' Γ σ G H ∧ ∀ {xs : List V} {rs : List Row}, Rows K F0 F' G xs rs → Rows K F0 F' G (v :: xs) (w :: rs) := by
  cases r with
  | im d =>
    cases e
    exact ⟨F, Same.refl _, g, fun t => .d h t⟩
  | sl i => cases e
  | fr ds =>
    cases e
    obtain ⟨a, xs, rfl, h1, h2, h3, h4, h5⟩ := lift_fr g h
    exact ⟨_, same_new h2, h5, fun t => .o upd_same (low.free h2) h4 t⟩
def sHot2 (j : Nat) (m1 m2 : Me) (n : List Row → Ms) : Ms := fun Γ => if j < Γ.length then (m1 Γ).bind fun p1 => (rowOf p1.1).bind fun w1 => (m2 p1.2).bind fun p2 => (rowOf p2.1).bind fun w2 => n [w1, w2] (p2.2.set j none) else none
theorem ts_hot2 {t1 t2 : TE} {m1 m2 : Me} {u : TS} {n : List Row → Ms} (k1 : TEok K t1 m1) (k2 : TEok K t2 m2) (hu : TSh K j u n) : TSok K (tSeq (tAsg (tLst (tCons t1 (tCons t2 tNil))) (gName j)) u) (sHot2 j m1 m2 n) := fun A F Γ o e0 σ G H D g q => by
  by_cases hlt : j < Γ.length
  case neg =>
    unfold sHot2 at e0
    rw [if_neg hlt] at e0
    cases e0
  unfold sHot2 at e0
  rw [if_pos hlt] at e0
  obtain ⟨⟨r1, Γ1⟩, e1, e⟩ := obind e0
  obtain ⟨w1, e2, e⟩ := obind e
  obtain ⟨⟨r2, Γ2⟩, e3, e⟩ := obind e
  obtain ⟨w2, e4, e⟩ := obind e
  have hl : j < σ.length := by rw [← g.len]; exact hlt
  refine k1 A F Γ r1 Γ1 e1 σ G H g _ fun v1 G1 H1 s1 g1 h1 => ?_
  obtain ⟨F1, f1, g1', c1⟩ := row_ok g1 h1 e2 (Same.refl F)
  refine k2 A F1 Γ1 r2 Γ2 e3 σ G1 H1 g1' _ fun v2 G2 H2 s2 g2 h2 => ?_
  obtain ⟨F2, f2, g2', c2⟩ := row_ok g2 h2 e4 f1
  refine ⟨by show 2 ≤ sizeLine; decide, fun p hp => ?_⟩
  have g3 := (g2'.new (o := .lst [v1, v2]) hp).lift (o := .lst [v1, v2]) (free_G g2' hp) (free_F g2' hp) upd_same (free_sl g2' hp)
  have g4 := g3.poke j (some (.ref p))
  have low : Same F (upd F2 p (.lst [v1, v2])) := (f1.trans f2).trans (same_new (free_F g2' hp))
  refine hu A F _ (Γ2.set j none) [w1, w2] o e (σ.set j (some (.ref p))) G2 _ D g4 ⟨low, p, [v1, v2], ?_, upd_same, ?_⟩ (q.mono (s1.trans s2))
  · rw [List.getElem?_set_self hl]
  · exact (Rows.app (c2 .nil) (((c1 .nil).mono s2).wide f2)).wide (same_new (free_F g2' hp))
/-- what names told, then what does not -/
theorem th_seq {t u : TS} {m : List Row → Ms} {n : Ms} (h : TSh K j t m) (k : TSok K u n) : TSh K j (tSeq t u) (fun rows Γ => (m rows Γ).bind fun o => match o with | .nx Γ' => n Γ' | o => some o) := fun A F F' Γ rows o e σ G H D g hot q => by
  obtain ⟨o1, e1, e⟩ := obind e
  refine h A F F' Γ rows o1 e1 σ G H { D with nx := u D } g hot ?_
  cases o1 with
  | nx Γ1 => exact fun σ' G' H' s g' => k A F Γ1 o e σ' G' H' D g' (q.mono s)
  | rt r Γ1 =>
    cases e
    exact q
  | bk Γ1 =>
    cases e
    exact q
  | ct Γ1 =>
    cases e
    exact q
def ends : Option Out → Option Out
  | some (.nx _) => none
  | o => o
/-- if ..: return ..; then told again -/
theorem th_ifSeqH {c : TT} {t u : TS} {mt : List Row → Mt} {m : Ms} {n : List Row → Ms} (hc : TChk K j c mt) (h : TSok K t m) (k : TSh K j u n) : TSh K j (tSeq (tIfS c t tNext) u) (fun rows Γ => (mt rows Γ).bind fun p => if p.1 = true then ends (m p.2) else n rows p.2) := fun A F F' Γ rows o e σ G H D g hot q => by
  obtain ⟨⟨b, Γ1⟩, e1, e⟩ := obind e
  refine hc A F F' Γ rows b Γ1 e1 σ G H g hot _ fun G1 H1 s1 g1 => ?_
  cases b with
  | true =>
    have e : ends (m Γ1) = some o := e
    have e2 : m Γ1 = some o := by
      cases e3 : m Γ1 with
      | none =>
        rw [e3] at e
        cases e
      | some o1 =>
        rw [e3] at e
        cases o1 <;> first | exact e | cases e
    have e4 : ∀ Γ2, o ≠ .nx Γ2 := fun Γ2 z => by
      rw [e2, z] at e
      cases e
    refine iteT (h A F Γ1 o e2 σ G1 H1 { D with nx := u D } (g1.lower hot.low) ?_)
    cases o with
    | nx Γ2 => exact (e4 Γ2 rfl).elim
    | rt r Γ2 => exact q.mono s1
    | bk Γ2 => exact q.mono s1
    | ct Γ2 => exact q.mono s1
  | false => exact iteF (k A F F' Γ1 rows o e σ G1 H1 D g1 (hot.mono s1) (q.mono s1))
def hLeave (m : Ms) : List Row → Ms := fun _ => m
def hIf (mt : Mt) (m n : List Row → Ms) : List Row → Ms := fun rows Γ => (mt Γ).bind fun p => if p.1 = true then m rows p.2 else n rows p.2
def hSeq (m : List Row → Ms) (n : Ms) : List Row → Ms := fun rows Γ => (m rows Γ).bind fun o => match o with | .nx Γ' => n Γ' | o => some o
def hIfSeq (mt : List Row → Mt) (m : Ms) (n : List Row → Ms) : List Row → Ms := fun rows Γ => (mt rows Γ).bind fun p => if p.1 = true then ends (m p.2) else n rows p.2
def hTest (f : D → D → Option D) (f1 : List D → Option D) (mb : Me) : List Row → Mt := fun rows Γ => (f1 [.list (rows.map rowD)]).bind fun z => if isSc z then (mb Γ).bind fun q => (peek q.2 q.1).bind fun e => (f z e).bind fun w => match w with | .bool b => some (b, q.2) | _ => none else none
def hMut (k : Int) (me : Me) (n : Ms) : List Row → Ms := fun rows Γ => (ixN rows.length k).bind fun i => (rows[i]?).bind fun r => match r with | .o ds => if ds.length < LIM then (me Γ).bind fun q => n q.2 else none | _ => none
theorem hk_leave {t : TS} {m : Ms} (h : TSok K t m) : TSh K j t (hLeave m) := th_leave h
theorem hk_if {c : TT} {t u : TS} {mt : Mt} {m n : List Row → Ms} (hc : TTok K c mt) (h : TSh K j t m) (k : TSh K j u n) : TSh K j (tIfS c t u) (hIf mt m n) := th_if hc h k
theorem hk_seq {t u : TS} {m : List Row → Ms} {n : Ms} (h : TSh K j t m) (k : TSok K u n) : TSh K j (tSeq t u) (hSeq m n) := th_seq h k
theorem hk_ifSeq {c : TT} {t u : TS} {mt : List Row → Mt} {m : Ms} {n : List Row → Ms} (hc : TChk K j c mt) (h : TSok K t m) (k : TSh K j u n) : TSh K j (tSeq (tIfS c t tNext) u) (hIfSeq mt m n) := th_ifSeqH hc h k
theorem hk_test {f : D → D → Option D} {f1 : List D → Option D} {tb : TE} {mb : Me} (hb : TEok K tb mb) : TChk K j (tTest (tOp (rS2 K f) (tCB (rSN K f1) (tCons (tVar j) tNil)) tb)) (hTest f f1 mb) := th_test hb
theorem hk_mut {k : Int} {te : TE} {me : Me} {u : TS} {n : Ms} (h : TEok K te me) (hu : TSok K u n) : TSh K j (tSeq (tDrop (tBM K "list" rAppend (tOp (rIx K) (tVar j) (tC (.int k))) (tCons te tNil))) u) (hMut k me n) := th_mut h hu
end
end VL

set_option Elab.async false
set_option linter.all false
set_option maxRecDepth 100000
namespace VL
open PySem PySem.Spec PyProof.Rows L2
/-! ### texts of data -/
theorem ok_app (x y : Str) : PyData.strOk (x ++ y) = (PyData.strOk x && PyData.strOk y) := by
  show (x.cps ++ y.cps).all _ = _
  rw [Array.all_append]
  rfl
theorem ok_of (s : String) : PyData.strOk (Str.ofString s) = true := by
  rw [Str.ofString_eq_toList]
  unfold PyData.strOk
  rw [List.all_toArray, List.all_eq_true]
  intro c hc
  rw [List.mem_map] at hc
  obtain ⟨a, _, rfl⟩ := hc
  have := a.valid
  simp only [decide_eq_true_eq]
  unfold Nat.isValidChar at this
  show a.val.toNat < _
  have : a.val.isValidChar := a.valid
  unfold UInt32.isValidChar Nat.isValidChar at this
  omega
theorem ok_from : ∀ (ts : List Str) (k : Nat) (acc : Str), PyData.strOk acc = true → (∀ t ∈ ts, PyData.strOk t = true) → PyData.strOk (textFrom k acc ts) = true
  | [], _, _, h, _ => h
  | t :: r, k, acc, h, hs => by
    refine ok_from r (k + 1) _ ?_ fun u hu => hs u (List.mem_cons_of_mem _ hu)
    rw [ok_app, ok_app, h, ok_of, hs t (List.mem_cons_self ..)]
    rfl
theorem ok_list {ts : List Str} (hs : ∀ t ∈ ts, PyData.strOk t = true) : PyData.strOk (listText ts) = true := by
  unfold listText
  rw [ok_app, ok_from ts 0 _ (ok_of _) hs, ok_of]
  rfl
theorem ok_join : ∀ (ts : List Str), (∀ t ∈ ts, PyData.strOk t = true) → PyData.strOk (Str.join ", " ts) = true
  | [], _ => by show PyData.strOk Str.empty = true; decide +kernel
  | [x], h => h x (List.mem_cons_self ..)
  | x :: y :: r, h => by
    show PyData.strOk (x ++ ", " ++ Str.join ", " (y :: r)) = true
    rw [ok_app, ok_app, h x (List.mem_cons_self ..), ok_of, ok_join (y :: r) fun u hu => h u (List.mem_cons_of_mem _ hu)]
    rfl
theorem ok_tuple {ts : List Str} (hs : ∀ t ∈ ts, PyData.strOk t = true) : PyData.strOk (tupleText ts) = true := by
  unfold tupleText
  rw [ok_app, ok_app, ok_of, ok_join ts hs, ok_of]
  rfl
theorem piled_le {n : Nat} : ∀ {ts : List Str}, (∀ t ∈ ts, t.length ≤ n) → piled ts ≤ ts.length * (n + 2)
  | [], _ => Nat.zero_le _
  | t :: r, h => by
    rw [piled_cons, List.length_cons]
    have := h t (List.mem_cons_self ..)
    have := piled_le (ts := r) fun u hu => h u (List.mem_cons_of_mem _ hu)
    rw [Nat.add_mul]
    omega
theorem len_list {n : Nat} {ts : List Str} (h : ∀ t ∈ ts, t.length ≤ n) : (listText ts).length ≤ ts.length * (n + 2) + 2 := by
  have hp := piled_le h
  cases ts with
  | nil =>
    show (listText []).length ≤ 0 * (n + 2) + 2
    rw [Nat.zero_mul]
    decide +kernel
  | cons t r =>
    have h1 := textFrom_length_pos r 1 (("[" : Str) ++ (if (0 : Nat) > 0 then ", " else "" : String) ++ t) (Nat.succ_pos 0)
    have e : ((("[" : Str) ++ (if (0 : Nat) > 0 then ", " else "" : String) ++ t)).length = 1 + t.length := by
      rw [strLen_append, strLen_append]; rfl
    show (textFrom 0 "[" (t :: r) ++ "]").length ≤ _
    rw [strLen_append]
    have e2 : (("]" : String) : Str).length = 1 := rfl
    have e3 : (textFrom 0 "[" (t :: r)).length = (textFrom 1 (("[" : Str) ++ (if (0 : Nat) > 0 then ", " else "" : String) ++ t) r).length := rfl
    rw [e3, h1, e, e2]
    rw [piled_cons] at hp
    omega
theorem len_tuple {n : Nat} {ts : List Str} (h : ∀ t ∈ ts, t.length ≤ n) : (tupleText ts).length ≤ ts.length * (n + 2) + 3 := by
  have hp := piled_le h
  unfold tupleText
  rw [strLen_append, strLen_append]
  have e1 : ((("(" : String) : Str)).length = 1 := rfl
  have e3 : (((if ts.length == 1 then ",)" else ")" : String) : Str)).length ≤ 2 := by split <;> decide
  have e2 : (Str.join ", " ts).length ≤ piled ts := by
    cases ts with
    | nil => exact Nat.zero_le _
    | cons t r =>
      have := join_length_add (t :: r) (by simp)
      omega
  omega
/-- a value can be told by repr: its text is no longer than n, and it is nested at most k deep -/
structure Tx (n k : Nat) (d : D) : Prop where
  sh : d.showable = true
  ok : PyData.strOk d.shown = true
  len : d.shown.length ≤ n
  dep : d.depth ≤ k
theorem Tx.mono {n k n' k' : Nat} {d : D} (h : Tx n k d) (hn : n ≤ n') (hk : k ≤ k') : Tx n' k' d := ⟨h.sh, h.ok, Nat.le_trans h.len hn, Nat.le_trans h.dep hk⟩
theorem shownAll_mem : ∀ {ds : List D} {t : Str}, t ∈ PyData.shownAll ds → ∃ d ∈ ds, t = d.shown
  | [], _, h => nomatch h
  | d :: ds, t, h => by
    cases h with
    | head => exact ⟨d, List.mem_cons_self .., rfl⟩
    | tail _ h =>
      obtain ⟨e, h1, h2⟩ := shownAll_mem h
      exact ⟨e, List.mem_cons_of_mem _ h1, h2⟩
theorem shownAll_len : ∀ ds : List D, (PyData.shownAll ds).length = ds.length
  | [] => rfl
  | d :: ds => congrArg (· + 1) (shownAll_len ds)
theorem showableAll_of : ∀ {ds : List D}, (∀ d ∈ ds, d.showable = true) → PyData.showableAll ds = true
  | [], _ => rfl
  | d :: ds, h => by
    show (d.showable && PyData.showableAll ds) = true
    rw [h d (List.mem_cons_self ..), showableAll_of fun e he => h e (List.mem_cons_of_mem _ he)]
    rfl
theorem depthAll_of {k : Nat} : ∀ {ds : List D}, (∀ d ∈ ds, d.depth ≤ k) → PyData.depthAll ds ≤ k
  | [], _ => Nat.zero_le _
  | d :: ds, h => by
    show max d.depth (PyData.depthAll ds) ≤ k
    have := h d (List.mem_cons_self ..)
    have := depthAll_of (ds := ds) fun e he => h e (List.mem_cons_of_mem _ he)
    omega
theorem Tx.list {n k m : Nat} {ds : List D} (h : ∀ d ∈ ds, Tx n k d) (hm : ds.length ≤ m) : Tx (m * (n + 2) + 2) (k + 1) (.list ds) where
  sh := showableAll_of fun d hd => (h d hd).sh
  ok := ok_list fun t ht => by
    obtain ⟨d, h1, rfl⟩ := shownAll_mem ht
    exact (h d h1).ok
  len := by
    have h1 : ∀ t ∈ PyData.shownAll ds, t.length ≤ n := fun t ht => by
      obtain ⟨d, h1, rfl⟩ := shownAll_mem ht
      exact (h d h1).len
    have h2 := len_list h1
    rw [shownAll_len] at h2
    exact Nat.le_trans h2 (Nat.add_le_add_right (Nat.mul_le_mul_right _ hm) _)
  dep := Nat.succ_le_succ (depthAll_of fun d hd => (h d hd).dep)
theorem Tx.tuple {n k m : Nat} {ds : List D} (h : ∀ d ∈ ds, Tx n k d) (hm : ds.length ≤ m) : Tx (m * (n + 2) + 3) (k + 1) (.tuple ds) where
  sh := showableAll_of fun d hd => (h d hd).sh
  ok := ok_tuple fun t ht => by
    obtain ⟨d, h1, rfl⟩ := shownAll_mem ht
    exact (h d h1).ok
  len := by
    have h1 : ∀ t ∈ PyData.shownAll ds, t.length ≤ n := fun t ht => by
      obtain ⟨d, h1, rfl⟩ := shownAll_mem ht
      exact (h d h1).len
    have h2 := len_tuple h1
    rw [shownAll_len] at h2
    exact Nat.le_trans h2 (Nat.add_le_add_right (Nat.mul_le_mul_right _ hm) _)
  dep := Nat.succ_le_succ (depthAll_of fun d hd => (h d hd).dep)
theorem Tx.repr {n k : Nat} {d : D} (h : Tx n k d) (hn : n ≤ LIM) (hk : k ≤ 60) : fRepr [d] = some (.str d.shown) := by
  show (if d.showable && decide (d.shown.length ≤ LIM) && decide (d.depth ≤ 60) then some (PyData.str d.shown) else none) = _
  rw [h.sh, decide_eq_true (Nat.le_trans h.len hn), decide_eq_true (Nat.le_trans h.dep hk)]
  rfl
theorem Tx.shaped {n k : Nat} {d : D} (h : Tx n k d) : SeqAt.shaped (.str d.shown) = true := by
  show (PyData.strOk d.shown && decide (0 ≤ 64)) = true
  rw [h.ok]
  rfl
theorem Tx.int {n : Nat} {i : Int} (h : i.natAbs.log2 < 1920) (hl : (Str.ofString (toString i)).length ≤ n) : Tx n 0 (.int i) := ⟨by show decide _ = true; exact decide_eq_true h, ok_of _, hl, Nat.le_refl _⟩
theorem Tx.none : Tx 4 0 .none := ⟨rfl, ok_of _, by decide +kernel, Nat.le_refl _⟩
theorem Tx.bool (b : Bool) : Tx 5 0 (.bool b) := ⟨rfl, by cases b <;> decide +kernel, by cases b <;> decide +kernel, Nat.le_refl _⟩
theorem Tx.dict0 : Tx 2 1 (.dict []) := ⟨rfl, by decide +kernel, by decide +kernel, by decide +kernel⟩
theorem Tx.str {n : Nat} {x : Str} (h : PyData.strOk (reprText x) = true) (hl : (reprText x).length ≤ n) : Tx n 0 (.str x) := ⟨rfl, h, hl, Nat.le_refl _⟩
end VL

set_option Elab.async false
set_option linter.all false
set_option maxRecDepth 100000
namespace VL
open PySem PySem.Spec PyProof.Rows L2
theorem lc_map {mt : D → Gm → Option Gm} {mc : Mt} {me : Me} {vs : List Nat} {Γ : Gm} {f : D → Option D} : ∀ {ds : List D}, (∀ d ∈ ds, ∃ Γ1, lcTurn mt mc me d Γ = some (f d, Γ1) ∧ wipeG Γ1 vs = Γ) → ∀ acc, lcGo mt mc me vs ds Γ acc = some (acc ++ ds.filterMap f, Γ)
  | [], _, acc => by rw [List.filterMap_nil, List.append_nil]; rfl
  | d :: ds, h, acc => by
    obtain ⟨Γ1, h1, h2⟩ := h d (List.mem_cons_self ..)
    show (lcTurn mt mc me d Γ).bind _ = _
    rw [h1]
    show lcGo mt mc me vs ds (wipeG Γ1 vs) (acc ++ (f d).toList) = _
    rw [h2, lc_map (fun e he => h e (List.mem_cons_of_mem _ he)), List.append_assoc]
    cases hf : f d with
    | none => rw [List.filterMap_cons_none hf]; rfl
    | some e => rw [List.filterMap_cons_some hf]; rfl
theorem bools_map (f : D → Bool) : ∀ ds : List D, boolsOf (ds.map fun d => .bool (f d)) = some (ds.map f)
  | [] => rfl
  | d :: ds => by
    show (boolsOf (ds.map fun d => .bool (f d))).map _ = _
    rw [bools_map f ds]
    rfl
theorem all_map (f : D → Bool) (ds : List D) : fAll [.list (ds.map fun d => .bool (f d))] = some (.bool (ds.all f)) := by
  show (boolsOf _).map _ = _
  rw [bools_map]
  simp [List.all_map]
end VL
namespace VL
open PySem PySem.Spec PyProof.Rows L2
theorem seq_nx {m n : Ms} {Γ Γ' : Gm} (h : m Γ = some (.nx Γ')) : sSeq m n Γ = n Γ' := by
  unfold sSeq
  rw [h]
  rfl
theorem for_eq {mi : Mi} {mt : D → Gm → Option Gm} {m : Ms} {Γ Γ' : Gm} {ds : List D} (h : mi Γ = some (ds, Γ')) : sFor mi mt m Γ = forGo mt m ds Γ' := by
  unfold sFor
  rw [h]
  rfl
theorem for_inv {mt : D → Gm → Option Gm} {m : Ms} {I : Nat → Gm → Prop} : ∀ {ds : List D} {i : Nat} {Γ : Gm}, I i Γ → (∀ j d Γ, d ∈ ds → i ≤ j → j < i + ds.length → I j Γ → ∃ Γ1 Γ2, mt d Γ = some Γ1 ∧ m Γ1 = some (.nx Γ2) ∧ I (j + 1) Γ2) → ∃ Γ', forGo mt m ds Γ = some (.nx Γ') ∧ I (i + ds.length) Γ'
  | [], i, Γ, h, _ => ⟨Γ, rfl, h⟩
  | d :: ds, i, Γ, h, s => by
    obtain ⟨Γ1, Γ2, h1, h2, h3⟩ := s i d Γ (List.mem_cons_self ..) (Nat.le_refl _) (by rw [List.length_cons]; omega) h
    obtain ⟨Γ', h4, h5⟩ := for_inv (ds := ds) h3 fun j e Γ he hj hj2 hi => s j e Γ (List.mem_cons_of_mem _ he) (by omega) (by rw [List.length_cons]; omega) hi
    refine ⟨Γ', ?_, ?_⟩
    · show (mt d Γ).bind _ = _
      rw [h1]
      show (m Γ1).bind _ = _
      rw [h2]
      exact h4
    · have : i + (d :: ds).length = i + 1 + ds.length := by rw [List.length_cons]; omega
      rw [this]
      exact h5
theorem gEqI (i j : Int) : gEq (.int i) (.int j) = some (i == j) := rfl
theorem gNeI (i j : Int) : gNe (.int i) (.int j) = some (!(i == j)) := rfl
end VL
namespace VL
open PySem PySem.Spec PyProof.Rows L2
theorem cutD_mem {xs : List D} {lo hi : Option Int} {e : D} (h : e ∈ cutD xs lo hi) : e ∈ xs := List.mem_of_mem_drop (List.mem_of_mem_take h)
theorem cutD_len (xs : List D) (lo hi : Option Int) : (cutD xs lo hi).length ≤ xs.length := by
  unfold cutD
  rw [List.length_take, List.length_drop]
  omega
theorem cutD_to (xs : List D) (k : Nat) : (cutD xs none (some (k : Int))).length ≤ k := by
  unfold cutD
  rw [List.length_take]
  have : HT.sIx xs.length xs.length (some (k : Int)) ≤ k := by
    rw [HT.sIx_nat]
    omega
  omega
theorem rep_mem {xs : List D} {n : Nat} {e : D} (h : e ∈ (List.replicate n xs).flatten) : e ∈ xs := by
  obtain ⟨l, h1, h2⟩ := List.mem_flatten.mp h
  rw [(List.mem_replicate.mp h1).2] at h2
  exact h2
end VL
namespace VL
open PySem PySem.Spec PyProof.Rows L2
theorem lc_mapD {α : Type} {mt : D → Gm → Option Gm} {mc : Mt} {me : Me} {vs : List Nat} {Γ : Gm} {g f : α → D} : ∀ {ds : List α}, (∀ d ∈ ds, ∃ Γ1, lcTurn mt mc me (g d) Γ = some (some (f d), Γ1) ∧ wipeG Γ1 vs = Γ) → ∀ acc, lcGo mt mc me vs (ds.map g) Γ acc = some (acc ++ ds.map f, Γ)
  | [], _, acc => by rw [List.map_nil, List.map_nil, List.append_nil]; rfl
  | d :: ds, h, acc => by
    obtain ⟨Γ1, h1, h2⟩ := h d (List.mem_cons_self ..)
    show (lcTurn mt mc me (g d) Γ).bind _ = _
    rw [h1]
    show lcGo mt mc me vs (ds.map g) (wipeG Γ1 vs) (acc ++ [f d]) = _
    rw [h2, lc_mapD (fun e he => h e (List.mem_cons_of_mem _ he)), List.append_assoc]
    rfl
theorem lc_inv {mt : D → Gm → Option Gm} {mc : Mt} {me : Me} {vs : List Nat} {I : Nat → Gm → List D → Prop} : ∀ {ds : List D} {i : Nat} {Γ : Gm} {acc : List D}, I i Γ acc → (∀ j d Γ acc, d ∈ ds → i ≤ j → j < i + ds.length → I j Γ acc → ∃ e Γ1, lcTurn mt mc me d Γ = some (some e, Γ1) ∧ I (j + 1) (wipeG Γ1 vs) (acc ++ [e])) → ∃ Γ' es, lcGo mt mc me vs ds Γ acc = some (es, Γ') ∧ I (i + ds.length) Γ' es
  | [], i, Γ, acc, h, _ => ⟨Γ, acc, rfl, h⟩
  | d :: ds, i, Γ, acc, h, s => by
    obtain ⟨e, Γ1, h1, h2⟩ := s i d Γ acc (List.mem_cons_self ..) (Nat.le_refl _) (by rw [List.length_cons]; omega) h
    obtain ⟨Γ', es, h4, h5⟩ := lc_inv (ds := ds) h2 fun j e Γ acc he hj hj2 hi => s j e Γ acc (List.mem_cons_of_mem _ he) (by omega) (by rw [List.length_cons]; omega) hi
    refine ⟨Γ', es, ?_, ?_⟩
    · show (lcTurn mt mc me d Γ).bind _ = _
      rw [h1]
      exact h4
    · have : i + (d :: ds).length = i + 1 + ds.length := by rw [List.length_cons]; omega
      rw [this]
      exact h5
theorem notin_f (bs : List Bool) : gNotIn (.bool false) (.list (bs.map .bool)) = some (bs.all id) := by
  have h1 : SeqAt.shaped (.list (bs.map .bool)) = true := by
    have : ∀ bs : List Bool, PyData.canLayAll0 (bs.map .bool) = true ∧ PyData.depthAll (bs.map .bool) = 0 := fun bs => by
      induction bs with
      | nil => exact ⟨rfl, rfl⟩
      | cons b bs ih =>
        refine ⟨?_, ?_⟩
        · show (true && PyData.canLayAll0 (bs.map .bool)) = true
          rw [ih.1]; rfl
        · show max 0 (PyData.depthAll (bs.map .bool)) = 0
          rw [ih.2]; rfl
    show (PyData.canLayAll0 (bs.map .bool) && decide (PyData.depthAll (bs.map .bool) + 1 ≤ 64)) = true
    rw [(this bs).1, (this bs).2]; rfl
  have h2 : SeqAt.shaped (.bool false) = true := rfl
  have h3 : ∀ bs : List Bool, (!(bs.map PyData.bool).any fun z => PyData.eqv z (.bool false)) = bs.all id := fun bs => by
    induction bs with
    | nil => rfl
    | cons b bs ih =>
      show (!(PyData.eqv (.bool b) (.bool false) || (bs.map PyData.bool).any fun z => PyData.eqv z (.bool false))) = (b && bs.all id)
      rw [← ih]
      cases b
      · rfl
      · show (!((true == false) || _)) = _
        simp
  unfold gNotIn gIn itemsOf
  simp only [Option.bind_some, h1, h2, Bool.and_self, if_true, Option.map_some, h3]
end VL

set_option Elab.async false
set_option linter.all false
set_option maxRecDepth 100000
set_option maxHeartbeats 4000000
namespace VL
open PySem PySem.Spec PyProof.Rows L2
/-! ### set(xs) of a list of ints -/
abbrev nSet (w : World) : Obj := { cls := .type "set", dict := none, data := .set #[] 0 (.fresh 0 0 (!w.params.followText "set-order")) }
abbrev nIt (l : Addr) : Obj := { cls := .type "list_iterator", data := .fields #[.ref l, .int 0 0] }
section
variable {P : Program} {w : World} {A : Around} {E : Value → Shared → Prop} {s : Shared}
theorem set_list {l : Addr} {its : Array Value} (ns : List Int) {Q : Value → Shared → Prop} (h0 : A.handled = none) (hl : s.heap.IsList l its) (hi : IntsAre its.toList ns) (hb : ns.length + 1 < scanBound)
    (hQ : ∀ (g : Heap) (tk c : Nat), SetR w g s.heap.objs.size (fun j => decide (j ∈ ns)) c → c ≤ ns.length → (∀ b o, s.heap.get? b = some o → g.get? b = some o) → Q (.ref s.heap.objs.size) { s with heap := g, toks := tk }) :
    wpAny (model P w) A (call (.type "set") [.ref l]) Q E s := by
  have hz : its.size = ns.length := by
    have := IntsAre.length hi
    rwa [Array.length_toList] at this
  obtain ⟨c0, tl0, k1⟩ := F.called_set.mro
  have k2 := F.called_set.made
  have k3 := F.called_set.sub
  refine wpAny_call (codeAny_of_tree (show wpAny _ _ (callAny (.type "set") _) _ _ _ from ?_))
  refine wpAny_pure ⟨Code.quiet_builtin _ (by decide +kernel), codeAny_builtin (F.entry_type_call) ?_⟩
  rw [Around.under_plain (weight_type_call_type "set" [Value.ref l] []) rfl]
  have k4 := F.called_set.notType
  have k5 := F.called_set.canCreate
  have k6 := F.typeCall_set_1 (Value.ref l)
  (repeat (any_goals (first | assumption | wp_step)))
  refine codeAny_mono (code_set_led1 (.ref l) (E := E) (Q₁ := fun ob sh => ob = .ref s.heap.objs.size ∧ sh = { s with heap := s.heap.push (nSet w) }) ⟨rfl, rfl⟩) fun r s1 hr => ?_
  match r, hr with
  | .error e, hr => exact hr
  | .ok (.ret ob), hr =>
    obtain ⟨rfl, rfl⟩ := hr
    have hS : (s.heap.push (nSet w)).get? s.heap.objs.size = some (nSet w) := Heap.get?_push_size _ rfl
    have hT : Shared.TypeIs { s with heap := s.heap.push (nSet w) } (.ref s.heap.objs.size) "set" := ⟨_, hS, rfl⟩
    have k7 := F.called_set.init.lookup
    have k8 := F.called_set.init.bind (Value.ref s.heap.objs.size)
    (repeat (any_goals (first | assumption | wp_step)))
    refine codeAny_mono (codeAny_call_builtin (R := wants (fun u s2 => u = .none ∧ ∃ g tk c, s2 = { s with heap := g, toks := tk } ∧ SetR w g s.heap.objs.size (fun j => decide (j ∈ ns)) c ∧ c ≤ ns.length ∧ (∀ b o, s.heap.get? b = some o → g.get? b = some o)) E) F.called_set.init.plain (F.entry_set_init) (check_set_init_1 hT ?_)) fun u s2 hu => ?_
    · obtain ⟨ol, e1, e2, nl, e3⟩ := hl
      obtain ⟨ocls, odict, odata, oslots⟩ := ol
      simp only at e2 e3
      subst e2; subst e3
      have e4 : (s.heap.push (nSet w)).get? l = some { cls := .type "list", dict := odict, data := .seq its nl, slots := oslots } := Heap.get?_push_of_some _ e1
      have f1 := F.sub_list_set
      have f2 := F.sub_list_frozenset
      have f3 : (Value.type "list" == Value.type "dict") = false := by decide
      have e5 : (s.heap.push (nSet w)).IsList l its := ⟨_, e4, rfl, nl, rfl⟩
      unfold Builtin.«set.__init__» noKeywords Builtin.Frozenset.updateFrom
      generalize hPI : pyIter = PI
      wp_walk
      subst hPI
      refine wpAny_pyIter_list e5 (wpAny_bind (wpAny_runValue ?_))
      have hlS : l < s.heap.objs.size := Heap.lt_size e1
      have hh : A.in1.in1.in1.handled = none := by simp [h0]
      have zz : (s.heap.push (nSet w)).objs.size = s.heap.objs.size + 1 := Heap.size_push ..
      have n1 : l ≠ (s.heap.push (nSet w)).objs.size := by
        rw [zz]
        exact Nat.ne_of_lt (Nat.lt_succ_of_lt hlS)
      have n2 : s.heap.objs.size ∉ [(s.heap.push (nSet w)).objs.size, l] := by
        rw [zz]
        intro z
        rcases List.mem_cons.mp z with z | z
        · exact absurd z (Nat.ne_of_lt (Nat.lt_succ_self _))
        · exact absurd (List.mem_singleton.mp z) (Nat.ne_of_gt hlS)
      have hv : ∀ (i : Nat) (v : Value), its[i]? = some v → ∃ k t, ns[i]? = some k ∧ v = .int k t := fun i v hv => by
        have hin : i < ns.length := by
          rw [← hz]
          exact (Array.getElem?_eq_some_iff.mp hv).1
        obtain ⟨t, e⟩ := PyProof.Rows.IntsAre.int_at hi i v (by rw [Array.getElem?_toList]; exact hv)
        exact ⟨ns[i], t, List.getElem?_eq_getElem hin, by rw [e, List.getD_eq_getElem?_getD, List.getElem?_eq_getElem hin] <;> rfl⟩
      refine set_update_ints ((Walks.list hh _ l n1 its).toS) s.heap.objs.size n2 ns hz hb hv (its.size - 0) 0 _ (by omega) (Nat.zero_le _) ⟨⟨_, Heap.get?_push_size _ rfl, rfl, rfl⟩, (e5.push _)⟩ ⟨0, Nat.le_refl 0, setR_new_at (Heap.get?_push_of_some _ hS)⟩ fun s3 c3 hm hc hS3 => ?_
      obtain ⟨g3, gn3, dr3, tk3, os3⟩ := s3
      have q1 : gn3 = s.gens := hm.gens
      have q2 : dr3 = s.drawn := hm.drawn
      have q3 : os3 = s.os := hm.os
      subst q1; subst q2; subst q3
      rw [hz] at hc
      show wpAny _ _ _ _ _ _
      refine wpAny_pure ?_
      show wpAny _ _ (ret (Value.none)) _ _ _
      refine wpAny_pure ⟨rfl, g3, tk3, c3, rfl, hS3, hc, fun b o e => ?_⟩
      have hb0 : b < s.heap.objs.size := Heap.lt_size e
      refine hm.heap b o ?_ (Heap.get?_push_of_some _ (Heap.get?_push_of_some _ e))
      rw [zz]
      intro z
      rcases List.mem_cons.mp z with z | z
      · exact absurd z (Nat.ne_of_lt hb0)
      · exact absurd (List.mem_singleton.mp z) (Nat.ne_of_lt (Nat.lt_succ_of_lt hb0))
    · match u, hu with
      | .error e, hu => exact hu
      | .ok (.ret v), hu =>
        obtain ⟨rfl, g, tk, c, rfl, w1, w2, w3⟩ := hu
        (repeat (any_goals (first | assumption | wp_step)))
        exact hQ _ _ _ w1 w2 w3
      | .ok .next, hu => exact hu.elim
      | .ok .brk, hu => exact hu.elim
      | .ok .cont, hu => exact hu.elim
  | .ok .next, hr => exact hr.elim
  | .ok .brk, hr => exact hr.elim
  | .ok .cont, hr => exact hr.elim
end
end VL

set_option Elab.async false
set_option linter.all false
set_option maxRecDepth 100000
set_option maxHeartbeats 2000000
namespace VL
open PySem PySem.Spec PyProof.Rows L2
/-! ### a, b = a list of that length -/
def gLst (K : PySem.W.Frag) (n : Nat) (t : TGs) : TG := fun v σ H Q => ∃ a xs, v = .ref a ∧ SqL K H a xs ∧ xs.length = n ∧ t xs σ H Q
theorem pg_lst {X : Cx} {pos : Pos} {es : List Expr} {k : Nat} {t : TGs} {n : Nat} (hc : X.calm = true) (h : PGs X es t)
    (hn : (assignEach es X.env).length = n := by rfl) (hst : (assignEach es X.env).findIdx? (·.1) = none := by rfl) : PG X (.Tuple es k pos) (gLst X.K n t) := by
  refine ⟨fun pins s σ H v u Q I r ⟨a, xs, ev, hq, hl, hw⟩ => ?_⟩
  subst ev
  cases r
  obtain ⟨its, rv, ⟨o, c, e1, e2, _, e3⟩, _⟩ := I.list hq
  have il : s.heap.IsList a its.toArray := ⟨o, e1, e2, c, e3⟩
  rw [assign_Tuple]
  refine wpAny_bind (wpAny_standAt ?_)
  unfold unpack
  have hz : (assignEach es X.env).length = its.toArray.size := by rw [hn, ← hl, rv.length, List.size_toArray]
  rw [hz, hst]
  refine wpAny_bind (wpAny_holding (PySem.W.kun_itemsOf (I.ok.hd hc) il fun h' hx => ?_))
  have I1 : Inv X pins σ H { s with heap := h' } := I.kept (t' := s.toks) fun b o e => hx b o (Nat.ne_of_lt (Heap.lt_size e)) e
  exact h.run pins _ σ H xs _ Q I1 (by simpa using rv) hw
def gmLst (n : Nat) (ms : List D → Gm → Option Gm) : D → Gm → Option Gm := fun d Γ => match d with | .list ds => if ds.length = n then ms ds Γ else none | _ => none
theorem tg_lst {K : PySem.W.Frag} {n : Nat} {u : TGs} {ms : List D → Gm → Option Gm} {S : List Nat} (h : TGsok K u ms S) : TGok K (gLst K n u) (gmLst n ms) S := fun A F Γ d Γ' e σ G H v g hv Q q => by
  cases hv with
  | @lst a xs ds h1 h2 =>
    have e : (if ds.length = n then ms ds Γ else none) = some Γ' := e
    by_cases hn : ds.length = n
    · rw [if_pos hn] at e
      exact ⟨a, xs, rfl, g.ex.seq h1, by rw [h2.length]; exact hn, h A F Γ ds Γ' e σ G H xs g h2 Q q⟩
    · rw [if_neg hn] at e
      cases e
  | _ => cases e
end VL

set_option Elab.async false
set_option linter.all false
set_option maxRecDepth 100000
set_option maxHeartbeats 2000000
namespace VL
open PySem PySem.Spec PyProof.Rows L2
/-! ### several lists of new lists, told in tests, changed at the end -/
def un (F G : Hp) : Hp := fun a => match F a with
  | some o => some o
  | none => G a
theorem un_l {F G : Hp} : Same F (un F G) := fun a o e => by
  unfold un
  rw [e]
theorem un_r {F G : Hp} (dj : ∀ b, F b ≠ none → G b = none) : Same G (un F G) := fun a o e => by
  unfold un
  cases h : F a with
  | none => exact e
  | some u =>
    rw [dj a (by rw [h]; exact fun z => nomatch z)] at e
    cases e
theorem un_get {F G : Hp} {a : Addr} {o : HO} (e : un F G a = some o) : F a = some o ∨ F a = none ∧ G a = some o := by
  unfold un at e
  cases h : F a with
  | none =>
    rw [h] at e
    exact .inr ⟨rfl, e⟩
  | some u =>
    rw [h] at e
    exact .inl e
theorem un_to {F G H : Hp} (h1 : Same F H) (h2 : Same G H) : Same (un F G) H := fun a o e => by
  rcases un_get e with e | ⟨_, e⟩
  · exact h1 a o e
  · exact h2 a o e
theorem un_mono {F G F' G' : Hp} (h1 : Same F F') (h2 : Same G G') (dj : ∀ b, F' b ≠ none → G' b = none) : Same (un F G) (un F' G') := fun a o e => by
  rcases un_get e with e | ⟨_, e⟩
  · exact un_l a o (h1 a o e)
  · exact un_r dj a o (h2 a o e)
abbrev Hs := List (Nat × List Row)
structure W1 where
  j : Nat
  a : Addr
  xs : List V
  rs : List Row
def hsOf (ws : List W1) : Hs := ws.map fun w => (w.j, w.rs)
def hget (j : Nat) : Hs → Option (List Row)
  | [] => none
  | p :: hs => if p.1 = j then some p.2 else hget j hs
theorem hget_mem {j : Nat} {rows : List Row} : ∀ {ws : List W1}, hget j (hsOf ws) = some rows → ∃ w ∈ ws, w.j = j ∧ w.rs = rows
  | [], e => by cases e
  | w :: ws, e => by
    have e : (if w.j = j then some w.rs else hget j (hsOf ws)) = some rows := e
    by_cases h : w.j = j
    · rw [if_pos h] at e
      cases e
      exact ⟨w, List.mem_cons_self .., h, rfl⟩
    · rw [if_neg h] at e
      obtain ⟨u, h1, h2⟩ := hget_mem e
      exact ⟨u, List.mem_cons_of_mem _ h1, h2⟩
def ownA : List V → List Row → List Addr
  | .ref b :: xs, .o _ :: rs => b :: ownA xs rs
  | _ :: xs, _ :: rs => ownA xs rs
  | _, _ => []
section
variable {K : PySem.W.Frag} {A : Addr} {F F' F2 : Hp} {Γ : Gm} {σ : L2.St} {G G' H : Hp}
theorem own_mem {b : Addr} : ∀ {xs : List V} {rs : List Row}, Rows K F F' G xs rs → b ∈ ownA xs rs → ∃ ys, F' b = some (.lst ys) ∧ F b = none
  | _, _, .nil, h => by cases h
  | _, _, .d (x := x) h1 t, h => by
    have e : ∀ (x : V) xs d rs, ownA (x :: xs) (.d d :: rs) = ownA xs rs := fun x xs d rs => by cases x <;> rfl
    rw [e] at h
    exact own_mem t h
  | _, _, .o (b := c) h1 h2 h3 t, h => by
    rcases List.mem_cons.mp h with rfl | h
    · exact ⟨_, h1, h2⟩
    · exact own_mem t h
theorem own_get {b : Addr} {ds : List D} : ∀ {xs : List V} {rs : List Row} {i : Nat}, Rows K F F' G xs rs → rs[i]? = some (.o ds) → xs[i]? = some (.ref b) → b ∈ ownA xs rs
  | _, _, 0, .o _ _ _ _, _, e => by
    cases e
    exact List.mem_cons_self ..
  | _, _, 0, .d _ _, e, _ => by cases e
  | _, _, i + 1, .o _ _ _ t, e1, e2 => List.mem_cons_of_mem _ (own_get (i := i) t e1 e2)
  | _, _, i + 1, .d (x := x) _ t, e1, e2 => by
    have e : ∀ (x : V) xs d rs, ownA (x :: xs) (.d d :: rs) = ownA xs rs := fun x xs d rs => by cases x <;> rfl
    rw [e]
    exact own_get (i := i) t e1 e2
  | _, _, 0, .nil, e, _ => by cases e
  | _, _, i + 1, .nil, e, _ => by cases e
theorem own_app : ∀ {xs ys : List V} {rs ss : List Row}, xs.length = rs.length → ownA (xs ++ ys) (rs ++ ss) = ownA xs rs ++ ownA ys ss
  | [], ys, [], ss, _ => rfl
  | [], _, _ :: _, _, h => by cases h
  | _ :: _, _, [], _, h => by cases h
  | x :: xs, ys, .d d :: rs, ss, h => by
    have e : ∀ (x : V) xs d rs, ownA (x :: xs) (.d d :: rs) = ownA xs rs := fun x xs d rs => by cases x <;> rfl
    show ownA (x :: (xs ++ ys)) (.d d :: (rs ++ ss)) = _
    rw [e, e, own_app (by simpa using h)]
  | .ref b :: xs, ys, .o d :: rs, ss, h => by
    show b :: ownA (xs ++ ys) (rs ++ ss) = b :: (ownA xs rs ++ ownA ys ss)
    rw [own_app (by simpa using h)]
  | .non :: xs, ys, .o d :: rs, ss, h => by
    show ownA (xs ++ ys) (rs ++ ss) = ownA xs rs ++ ownA ys ss
    exact own_app (by simpa using h)
  | .int _ :: xs, ys, .o d :: rs, ss, h => by
    show ownA (xs ++ ys) (rs ++ ss) = ownA xs rs ++ ownA ys ss
    exact own_app (by simpa using h)
  | .bl _ :: xs, ys, .o d :: rs, ss, h => by
    show ownA (xs ++ ys) (rs ++ ss) = ownA xs rs ++ ownA ys ss
    exact own_app (by simpa using h)
  | .str _ :: xs, ys, .o d :: rs, ss, h => by
    show ownA (xs ++ ys) (rs ++ ss) = ownA xs rs ++ ownA ys ss
    exact own_app (by simpa using h)
  | .byt _ :: xs, ys, .o d :: rs, ss, h => by
    show ownA (xs ++ ys) (rs ++ ss) = ownA xs rs ++ ownA ys ss
    exact own_app (by simpa using h)
  | .flt _ :: xs, ys, .o d :: rs, ss, h => by
    show ownA (xs ++ ys) (rs ++ ss) = ownA xs rs ++ ownA ys ss
    exact own_app (by simpa using h)
  | .ty _ :: xs, ys, .o d :: rs, ss, h => by
    show ownA (xs ++ ys) (rs ++ ss) = ownA xs rs ++ ownA ys ss
    exact own_app (by simpa using h)
theorem Rows.o_get {b : Addr} {ds : List D} : ∀ {xs : List V} {rs : List Row} {i : Nat}, Rows K F F' G xs rs → rs[i]? = some (.o ds) → ∃ b ys, xs[i]? = some (.ref b) ∧ F' b = some (.lst ys) ∧ F b = none ∧ DvA K G ys ds := fun h e => h.get e
structure HotS (K : PySem.W.Frag) (F F' : Hp) (ws : List W1) (σ : L2.St) (G : Hp) : Prop where
  low : Same F F'
  sl : ∀ w ∈ ws, σ[w.j]? = some (some (.ref w.a))
  hd : ∀ w ∈ ws, F' w.a = some (.lst w.xs) ∧ F w.a = none
  rw : ∀ w ∈ ws, Rows K F F' G w.xs w.rs
  nh : ∀ w ∈ ws, ∀ u ∈ ws, w.a ∉ ownA u.xs u.rs
theorem HotS.mono {ws : List W1} (e : Same G G') (h : HotS K F F' ws σ G) : HotS K F F' ws σ G' := ⟨h.low, h.sl, h.hd, fun w hw => (h.rw w hw).mono e, h.nh⟩
theorem HotS.wide {ws : List W1} (e : Same F' F2) (h : HotS K F F' ws σ G) : HotS K F F2 ws σ G := ⟨h.low.trans e, h.sl, fun w hw => ⟨e _ _ (h.hd w hw).1, (h.hd w hw).2⟩, fun w hw => (h.rw w hw).wide e, h.nh⟩
end
/-! ### readings -/
abbrev MeH := Hs → Gm → Option (D × Gm)
def TXok (K : PySem.W.Frag) (t : TE) (m : MeH) : Prop := ∀ (A : Addr) (F F' : Hp) (Γ : Gm) (ws : List W1) (d : D) (Γ' : Gm), m (hsOf ws) Γ = some (d, Γ') → ∀ (σ : L2.St) (G H : Hp), GS K A F' Γ σ G H → HotS K F F' ws σ G → ∀ Q : VK,
  (∀ v F2 G' H', Same F' F2 → Same G G' → GS K A F2 Γ' σ G' H' → Dv K (un F2 G') v d → Q v H') → t σ H Q
abbrev MaH := Hs → Gm → Option (List D × Gm)
def TAHok (K : PySem.W.Frag) (t : TA) (m : MaH) : Prop := ∀ (A : Addr) (F F' : Hp) (Γ : Gm) (ws : List W1) (ds : List D) (Γ' : Gm), m (hsOf ws) Γ = some (ds, Γ') → ∀ (σ : L2.St) (G H : Hp), GS K A F' Γ σ G H → HotS K F F' ws σ G → ∀ Q : List V → Hp → Prop,
  (∀ vs F2 G' H', Same F' F2 → Same G G' → GS K A F2 Γ' σ G' H' → DvA K (un F2 G') vs ds → Q vs H') → t σ H Q
abbrev MtH := Hs → Gm → Option (Bool × Gm)
def TTHok (K : PySem.W.Frag) (t : TT) (m : MtH) : Prop := ∀ (A : Addr) (F F' : Hp) (Γ : Gm) (ws : List W1) (b : Bool) (Γ' : Gm), m (hsOf ws) Γ = some (b, Γ') → ∀ (σ : L2.St) (G H : Hp), GS K A F' Γ σ G H → HotS K F F' ws σ G → ∀ Q : Bool → Hp → Prop,
  (∀ G' H', Same G G' → GS K A F' Γ' σ G' H' → Q b H') → t σ H Q
section
variable {K : PySem.W.Frag}
def hVar (j : Nat) : MeH := fun hs Γ => (hget j hs).map fun rows => (.list (rows.map rowD), Γ)
theorem th_varH (j : Nat) : TXok K (tVar j) (hVar j) := fun A F F' Γ ws d Γ' e σ G H g hot Q q => by
  have e : (hget j (hsOf ws)).map (fun rows => (PyData.list (rows.map rowD), Γ)) = some (d, Γ') := e
  cases e1 : hget j (hsOf ws) with
  | none =>
    rw [e1] at e
    cases e
  | some rows =>
    rw [e1] at e
    cases e
    obtain ⟨w, hw, rfl, rfl⟩ := hget_mem e1
    exact ⟨_, hot.sl w hw, q _ F' G H (Same.refl _) (Same.refl _) g (.lst (SqL.of (un_l _ _ (hot.hd w hw).1)) ((hot.rw w hw).dv (un_r g.dj) un_l))⟩
def hCold (me : Me) : MeH := fun _ Γ => (me Γ).bind fun p => frz p.2 p.1
theorem th_coldH {te : TE} {me : Me} (h : TEok K te me) : TXok K te (hCold me) := fun A F F' Γ ws d Γ' e σ G H g hot Q q => by
  obtain ⟨⟨r, Γ1⟩, e1, e⟩ := obind e
  refine h A F' Γ r Γ1 e1 σ G H g _ fun v G1 H1 s1 g1 h1 => ?_
  obtain ⟨G2, s2, g2, h2⟩ := frz_ok g1 h1 e
  exact q v F' G2 H1 (Same.refl _) (s1.trans s2) g2 (h2.mono (un_r g2.dj))
def hNil : MaH := fun _ Γ => some ([], Γ)
def hCons (m : MeH) (ma : MaH) : MaH := fun hs Γ => (m hs Γ).bind fun p => (ma hs p.2).bind fun q => some (p.1 :: q.1, q.2)
theorem tah_nil : TAHok K tNil hNil := fun A F F' Γ ws ds Γ' e σ G H g hot Q q => by
  cases e
  exact q [] F' G H (Same.refl _) (Same.refl _) g .nil
theorem tah_cons {te : TE} {ta : TA} {m : MeH} {ma : MaH} (h : TXok K te m) (k : TAHok K ta ma) : TAHok K (tCons te ta) (hCons m ma) := fun A F F' Γ ws ds Γ' e σ G H g hot Q q => by
  obtain ⟨⟨d, Γ1⟩, e1, e⟩ := obind e
  obtain ⟨⟨es, Γ2⟩, e2, e⟩ := obind e
  cases e
  refine h A F F' Γ ws d Γ1 e1 σ G H g hot _ fun v F1 G1 H1 f1 s1 g1 h1 => ?_
  refine k A F F1 Γ1 ws es Γ2 e2 σ G1 H1 g1 ((hot.mono s1).wide f1) _ fun vs F2 G2 H2 f2 s2 g2 h2 => ?_
  exact q (v :: vs) F2 G2 H2 (f1.trans f2) (s1.trans s2) g2 (.cons (h1.mono (un_mono f2 s2 g2.dj)) h2)
def hLst (ma : MaH) : MeH := fun hs Γ => (ma hs Γ).bind fun p => if p.1.length ≤ LIM then some (.list p.1, p.2) else none
theorem th_lstH {ta : TA} {ma : MaH} (h : TAHok K ta ma) : TXok K (tLst ta) (hLst ma) := fun A F F' Γ ws d Γ' e σ G H g hot Q q => by
  obtain ⟨⟨ds, Γ1⟩, e1, e⟩ := obind e
  by_cases hz : ds.length ≤ LIM
  · have e : (if ds.length ≤ LIM then some (PyData.list ds, Γ1) else none) = some (d, Γ') := e
    rw [if_pos hz] at e
    cases e
    refine h A F F' Γ ws _ _ e1 σ G H g hot _ fun vs F1 G1 H1 f1 s1 g1 h1 => ?_
    refine ⟨by rw [h1.length]; exact lim_line hz, fun p hp => ?_⟩
    have gp := free_F g1 hp
    have g2 := (g1.new (o := .lst vs) hp).lift (o := .lst vs) (free_G g1 hp) gp upd_same (free_sl g1 hp)
    exact q _ (upd F1 p (.lst vs)) G1 _ (f1.trans (same_new gp)) s1 g2 (.lst (SqL.of (un_l _ _ upd_same)) (h1.mono (un_mono (same_new gp) (Same.refl _) g2.dj)))
  · have e : (if ds.length ≤ LIM then some (PyData.list ds, Γ1) else none) = some (d, Γ') := e
    rw [if_neg hz] at e
    cases e
def hAddD : D → D → Option D
  | .list a, .list b => if a.length + b.length ≤ LIM then some (.list (a ++ b)) else none
  | _, _ => none
def hAdd (m n : MeH) : MeH := fun hs Γ => (m hs Γ).bind fun p => (n hs p.2).bind fun q => (hAddD p.1 q.1).bind fun d => some (d, q.2)
theorem th_addH {ta tb : TE} {m n : MeH} (h : TXok K ta m) (k : TXok K tb n) : TXok K (tOp (rAddG K) ta tb) (hAdd m n) := fun A F F' Γ ws d Γ' e σ G H g hot Q q => by
  obtain ⟨⟨d1, Γ1⟩, e1, e⟩ := obind e
  obtain ⟨⟨d2, Γ2⟩, e2, e⟩ := obind e
  obtain ⟨d3, e3, e⟩ := obind e
  cases e
  refine h A F F' Γ ws d1 Γ1 e1 σ G H g hot _ fun v F1 G1 H1 f1 s1 g1 h1 => ?_
  refine k A F F1 Γ1 ws d2 _ e2 σ G1 H1 g1 ((hot.mono s1).wide f1) _ fun u F2 G2 H2 f2 s2 g2 h2 => ?_
  have h1 := h1.mono (un_mono f2 s2 g2.dj)
  have e3 : hAddD d1 d2 = some d := e3
  cases d1 with
  | list as =>
    cases d2 with
    | list bs =>
      have e3 : (if as.length + bs.length ≤ LIM then some (PyData.list (as ++ bs)) else none) = some d := e3
      by_cases hz : as.length + bs.length ≤ LIM
      · rw [if_pos hz] at e3
        cases e3
        have to := un_to g2.fr g2.ex
        cases h1 with
        | @lst l1 xs1 _ k1 t1 =>
          cases h2 with
          | @lst l2 xs2 _ k2 t2 =>
            refine .inr (.inr ⟨_, _, _, _, rfl, rfl, to.seq k1, to.seq k2, by rw [t1.length, t2.length]; exact hz, fun p hp => ?_⟩)
            have gp := free_F g2 hp
            have g3 := (g2.new (o := .lst (xs1 ++ xs2)) hp).lift (o := .lst (xs1 ++ xs2)) (free_G g2 hp) gp upd_same (free_sl g2 hp)
            have um := un_mono (same_new gp) (Same.refl G2) g3.dj
            exact q _ (upd F2 p (.lst (xs1 ++ xs2))) G2 _ ((f1.trans f2).trans (same_new gp)) (s1.trans s2) g3 (.lst (SqL.of (un_l _ _ upd_same)) ((t1.mono um).append (t2.mono um)))
      · rw [if_neg hz] at e3
        cases e3
    | _ => cases e3
  | _ => cases e3
def hSN (f : List D → Option D) (m : MeH) : MeH := fun hs Γ => (m hs Γ).bind fun p => (f [p.1]).bind fun z => if isSc z then some (z, p.2) else none
theorem th_snH {f : List D → Option D} {ta : TE} {m : MeH} (h : TXok K ta m) : TXok K (tCB (rSN K f) (tCons ta tNil)) (hSN f m) := fun A F F' Γ ws d Γ' e σ G H g hot Q q => by
  obtain ⟨⟨d1, Γ1⟩, e1, e⟩ := obind e
  obtain ⟨z, e2, e⟩ := obind e
  by_cases hz : isSc z = true
  · have e : (if isSc z then some (z, Γ1) else none) = some (d, Γ') := e
    rw [if_pos hz] at e
    cases e
    refine h A F F' Γ ws d1 _ e1 σ G H g hot _ fun v F1 G1 H1 f1 s1 g1 h1 => ?_
    exact ⟨[d1], _, .one (h1.mono (un_to g1.fr g1.ex)), e2, q _ F1 G1 H1 f1 s1 g1 (dv_sc hz)⟩
  · have e : (if isSc z then some (z, Γ1) else none) = some (d, Γ') := e
    rw [if_neg hz] at e
    cases e
def hS2 (f : D → D → Option D) (m n : MeH) : MeH := fun hs Γ => (m hs Γ).bind fun p => (n hs p.2).bind fun q => (f p.1 q.1).bind fun z => if isSc z then some (z, q.2) else none
theorem th_s2H {f : D → D → Option D} {ta tb : TE} {m n : MeH} (h : TXok K ta m) (k : TXok K tb n) : TXok K (tOp (rS2 K f) ta tb) (hS2 f m n) := fun A F F' Γ ws d Γ' e σ G H g hot Q q => by
  obtain ⟨⟨d1, Γ1⟩, e1, e⟩ := obind e
  obtain ⟨⟨d2, Γ2⟩, e2, e⟩ := obind e
  obtain ⟨z, e3, e⟩ := obind e
  by_cases hz : isSc z = true
  · have e : (if isSc z then some (z, Γ2) else none) = some (d, Γ') := e
    rw [if_pos hz] at e
    cases e
    refine h A F F' Γ ws d1 Γ1 e1 σ G H g hot _ fun v F1 G1 H1 f1 s1 g1 h1 => ?_
    refine k A F F1 Γ1 ws d2 _ e2 σ G1 H1 g1 ((hot.mono s1).wide f1) _ fun u F2 G2 H2 f2 s2 g2 h2 => ?_
    have to := un_to g2.fr g2.ex
    exact ⟨d1, d2, _, (h1.mono (un_mono f2 s2 g2.dj)).mono to, h2.mono to, e3, q _ F2 G2 H2 (f1.trans f2) (s1.trans s2) g2 (dv_sc hz)⟩
  · have e : (if isSc z then some (z, Γ2) else none) = some (d, Γ') := e
    rw [if_neg hz] at e
    cases e
/-! ### tests -/
def hTst (m : MeH) : MtH := fun hs Γ => (m hs Γ).bind fun p => match p.1 with
  | .bool b => some (b, p.2)
  | _ => none
theorem tth_test {te : TE} {m : MeH} (h : TXok K te m) : TTHok K (tTest te) (hTst m) := fun A F F' Γ ws b Γ' e σ G H g hot Q q => by
  obtain ⟨⟨d, Γ1⟩, e1, e⟩ := obind e
  cases d with
  | bool c =>
    cases e
    exact h A F F' Γ ws _ _ e1 σ G H g hot _ fun v F1 G1 H1 f1 s1 g1 h1 => by
      cases h1
      exact ⟨_, rfl, q G1 H1 s1 (g1.lower f1)⟩
  | _ => cases e
def hOr (m n : MtH) : MtH := fun hs Γ => (m hs Γ).bind fun p => if p.1 = true then some (true, p.2) else n hs p.2
theorem tth_or {t u : TT} {m n : MtH} (h : TTHok K t m) (k : TTHok K u n) : TTHok K (tOr t u) (hOr m n) := fun A F F' Γ ws b Γ' e σ G H g hot Q q => by
  obtain ⟨⟨c, Γ1⟩, e1, e⟩ := obind e
  refine h A F F' Γ ws c Γ1 e1 σ G H g hot _ fun G1 H1 s1 g1 => ?_
  cases c with
  | false => exact iteF (k A F F' Γ1 ws b Γ' e σ G1 H1 g1 (hot.mono s1) Q fun G2 H2 s2 g2 => q G2 H2 (s1.trans s2) g2)
  | true =>
    have e : some (true, Γ1) = some (b, Γ') := e
    cases e
    exact iteT (q G1 H1 s1 g1)
def hAnd (m n : MtH) : MtH := fun hs Γ => (m hs Γ).bind fun p => if p.1 = true then n hs p.2 else some (false, p.2)
theorem tth_and {t u : TT} {m n : MtH} (h : TTHok K t m) (k : TTHok K u n) : TTHok K (tAnd t u) (hAnd m n) := fun A F F' Γ ws b Γ' e σ G H g hot Q q => by
  obtain ⟨⟨c, Γ1⟩, e1, e⟩ := obind e
  refine h A F F' Γ ws c Γ1 e1 σ G H g hot _ fun G1 H1 s1 g1 => ?_
  cases c with
  | true => exact iteT (k A F F' Γ1 ws b Γ' e σ G1 H1 g1 (hot.mono s1) Q fun G2 H2 s2 g2 => q G2 H2 (s1.trans s2) g2)
  | false =>
    have e : some (false, Γ1) = some (b, Γ') := e
    cases e
    exact iteF (q G1 H1 s1 g1)
def hCt (m : Mt) : MtH := fun _ Γ => m Γ
theorem tth_cold {t : TT} {m : Mt} (h : TTok K t m) : TTHok K t (hCt m) := fun A F F' Γ ws b Γ' e σ G H g hot Q q => h A F' Γ b Γ' e σ G H g Q q
end
end VL

set_option Elab.async false
set_option linter.all false
set_option maxRecDepth 100000
set_option maxHeartbeats 2000000
namespace VL
open PySem PySem.Spec PyProof.Rows L2
/-! ### statements with told lists -/
abbrev MsH := Hs → Ms
def TSHok (K : PySem.W.Frag) (t : TS) (m : MsH) : Prop := ∀ (A : Addr) (F F' : Hp) (Γ : Gm) (ws : List W1) (o : Out), m (hsOf ws) Γ = some o → ∀ (σ : L2.St) (G H : Hp) (D : Ends), GS K A F' Γ σ G H → HotS K F F' ws σ G → OutOk K A F D G o → t D σ H
section
variable {K : PySem.W.Frag} {A : Addr} {F F' F2 : Hp} {Γ : Gm} {σ : L2.St} {G G' H : Hp}
def hsLeave (m : Ms) : MsH := fun _ => m
theorem tsh_leave {t : TS} {m : Ms} (h : TSok K t m) : TSHok K t (hsLeave m) := fun A F F' Γ ws o e σ G H D g hot q => h A F Γ o e σ G H D (g.lower hot.low) q
/-- if ..: return ..; then told again -/
def hsIf (mt : MtH) (m : Ms) (n : MsH) : MsH := fun hs Γ => (mt hs Γ).bind fun p => if p.1 = true then ends (m p.2) else n hs p.2
theorem tsh_if {c : TT} {t u : TS} {mt : MtH} {m : Ms} {n : MsH} (hc : TTHok K c mt) (h : TSok K t m) (k : TSHok K u n) : TSHok K (tSeq (tIfS c t tNext) u) (hsIf mt m n) := fun A F F' Γ ws o e σ G H D g hot q => by
  obtain ⟨⟨b, Γ1⟩, e1, e⟩ := obind e
  refine hc A F F' Γ ws b Γ1 e1 σ G H g hot _ fun G1 H1 s1 g1 => ?_
  cases b with
  | true =>
    have e : ends (m Γ1) = some o := e
    have e2 : m Γ1 = some o := by
      cases e3 : m Γ1 with
      | none =>
        rw [e3] at e
        cases e
      | some o1 =>
        rw [e3] at e
        cases o1 <;> first | exact e | cases e
    have e4 : ∀ Γ2, o ≠ .nx Γ2 := fun Γ2 z => by
      rw [e2, z] at e
      cases e
    refine iteT (h A F Γ1 o e2 σ G1 H1 { D with nx := u D } (g1.lower hot.low) ?_)
    cases o with
    | nx Γ2 => exact (e4 Γ2 rfl).elim
    | rt r Γ2 => exact q.mono s1
    | bk Γ2 => exact q.mono s1
    | ct Γ2 => exact q.mono s1
  | false => exact iteF (k A F F' Γ1 ws o e σ G1 H1 D g1 (hot.mono s1) (q.mono s1))
/-- a slot that holds no told list takes a value -/
theorem HotS.set {ws : List W1} {i : Nat} {v : Option V} (hi : ∀ w ∈ ws, w.j ≠ i) (h : HotS K F F' ws σ G) : HotS K F F' ws (σ.set i v) G := ⟨h.low, fun w hw => by
  rw [List.getElem?_set_ne (fun z => hi w hw z.symm)]
  exact h.sl w hw, h.hd, h.rw, h.nh⟩
def hfree (i : Nat) (hs : Hs) : Bool := hs.all fun p => p.1 != i
theorem hfree_of {i : Nat} {ws : List W1} (h : hfree i (hsOf ws) = true) : ∀ w ∈ ws, w.j ≠ i := fun w hw => by
  have := List.all_eq_true.mp h (w.j, w.rs) (List.mem_map.mpr ⟨w, hw, rfl⟩)
  simpa using this
def hsAsg (i : Nat) (me : Me) (n : MsH) : MsH := fun hs Γ => if hfree i hs then (me Γ).bind fun p => (asgR p.2 i p.1).bind fun Γ' => n hs Γ' else none
theorem tsh_asg {te : TE} {me : Me} {u : TS} {n : MsH} (i : Nat) (h : TEok K te me) (k : TSHok K u n) : TSHok K (tSeq (tAsg te (gName i)) u) (hsAsg i me n) := fun A F F' Γ ws o e σ G H D g hot q => by
  by_cases hf : hfree i (hsOf ws) = true
  case neg =>
    have e : (if hfree i (hsOf ws) then (me Γ).bind fun p => (asgR p.2 i p.1).bind fun Γ' => n (hsOf ws) Γ' else none) = some o := e
    rw [if_neg hf] at e
    cases e
  have e : (if hfree i (hsOf ws) then (me Γ).bind fun p => (asgR p.2 i p.1).bind fun Γ' => n (hsOf ws) Γ' else none) = some o := e
  rw [if_pos hf] at e
  have hf := hfree_of hf
  obtain ⟨⟨r, Γ1⟩, e1, e⟩ := obind e
  obtain ⟨Γ2, e2, e⟩ := obind e
  refine h A F' Γ r Γ1 e1 σ G H g _ fun v G1 H1 s1 g1 h1 => ?_
  show u D (σ.set i (some v)) H1
  cases r with
  | im d =>
    cases e2
    exact k A F F' _ ws o e _ G1 H1 D (g1.asgIm h1 i) ((hot.mono s1).set hf) (q.mono s1)
  | fr ds =>
    cases e2
    exact k A F F' _ ws o e _ G1 H1 D (g1.asgOw h1 i) ((hot.mono s1).set hf) (q.mono s1)
  | sl j =>
    obtain ⟨⟨d, Γ3⟩, e3, e2⟩ := obind e2
    cases e2
    obtain ⟨G3, s3, g3, h3⟩ := frz_ok g1 h1 e3
    exact k A F F' _ ws o e _ G3 H1 D (g3.asgIm h3 i) ((hot.mono (s1.trans s3)).set hf) (q.mono (s1.trans s3))
/-! a told list is made -/
theorem row_fresh {v : V} {r : Rs} {w : Row} (h : RsOk K F Γ σ G H v r) (e : rowOf r = some w) : ∀ b ds, v = .ref b → w = .o ds → F b = none := by
  cases r with
  | im d =>
    cases e
    exact fun b ds _ z => nomatch z
  | sl i => cases e
  | fr ds =>
    cases e
    obtain ⟨a, xs, rfl, h1, h2, h3, h4, h5⟩ := h
    intro b ds z _
    cases z
    exact h2
abbrev MaR := Gm → Option (List Row × Gm)
def TARok (K : PySem.W.Frag) (t : TA) (m : MaR) : Prop := ∀ (A : Addr) (F : Hp) (Γ : Gm) (rs : List Row) (Γ' : Gm), m Γ = some (rs, Γ') → ∀ (σ : L2.St) (G H : Hp), GS K A F Γ σ G H → ∀ (F0 : Hp), Same F0 F → ∀ Q : List V → Hp → Prop,
  (∀ vs F2 G' H', Same F F2 → Same G G' → GS K A F2 Γ' σ G' H' → Rows K F0 F2 G' vs rs → (∀ b ∈ ownA vs rs, F b = none) → Q vs H') → t σ H Q
def rNil : MaR := fun Γ => some ([], Γ)
def rCons (me : Me) (ma : MaR) : MaR := fun Γ => (me Γ).bind fun p => (rowOf p.1).bind fun w => (ma p.2).bind fun q => some (w :: q.1, q.2)
theorem tar_nil : TARok K tNil rNil := fun A F Γ rs Γ' e σ G H g F0 low Q q => by
  cases e
  exact q [] F G H (Same.refl _) (Same.refl _) g .nil fun _ h => nomatch h
theorem tar_cons {te : TE} {ta : TA} {me : Me} {ma : MaR} (h : TEok K te me) (k : TARok K ta ma) : TARok K (tCons te ta) (rCons me ma) := fun A F Γ rs Γ' e σ G H g F0 low Q q => by
  obtain ⟨⟨r, Γ1⟩, e1, e⟩ := obind e
  obtain ⟨w, e2, e⟩ := obind e
  obtain ⟨⟨rt, Γ2⟩, e3, e⟩ := obind e
  cases e
  refine h A F Γ r Γ1 e1 σ G H g _ fun v G1 H1 s1 g1 h1 => ?_
  obtain ⟨F1, f1, g1', c1⟩ := row_ok g1 h1 e2 low
  refine k A F1 Γ1 rt _ e3 σ G1 H1 g1' F0 (low.trans f1) _ fun vs F2 G2 H2 f2 s2 g2 h2 fr2 => ?_
  refine q (v :: vs) F2 G2 H2 (f1.trans f2) (s1.trans s2) g2 ?_ fun b hb => ?_
  · have := ((c1 .nil).mono s2).wide f2
    exact Rows.app h2 this
  · have fr1 := row_fresh h1 e2
    have hm : b ∈ ownA [v] [w] ++ ownA vs rt := by
      rw [← own_app (xs := [v]) (rs := [w]) rfl]
      exact hb
    rcases List.mem_append.mp hm with hm | hm
    · cases w with
      | d d0 => cases v <;> cases hm
      | o ds =>
        cases v with
        | ref a =>
          cases List.mem_singleton.mp hm
          exact fr1 _ ds rfl rfl
        | _ => cases hm
    · exact f1.free (fr2 b hm)
theorem Rows.len : ∀ {xs : List V} {rs : List Row}, Rows K F F' G xs rs → xs.length = rs.length := Rows.length
def hsNew (j : Nat) (ma : MaR) (n : MsH) : MsH := fun hs Γ => if hfree j hs && decide (j < Γ.length) then (ma Γ).bind fun p => if p.1.length ≤ LIM then n ((j, p.1) :: hs) (p.2.set j none) else none else none
theorem tsh_new {ta : TA} {ma : MaR} {u : TS} {n : MsH} (j : Nat) (h : TARok K ta ma) (k : TSHok K u n) : TSHok K (tSeq (tAsg (tLst ta) (gName j)) u) (hsNew j ma n) := fun A F F' Γ ws o e0 σ G H D g hot q => by
  by_cases hc : (hfree j (hsOf ws) && decide (j < Γ.length)) = true
  case neg =>
    unfold hsNew at e0
    rw [if_neg hc] at e0
    cases e0
  unfold hsNew at e0
  rw [if_pos hc] at e0
  obtain ⟨hf, hl⟩ := Bool.and_eq_true_iff.mp hc
  have hl := of_decide_eq_true hl
  have hf := hfree_of hf
  obtain ⟨⟨rs, Γ1⟩, e1, e⟩ := obind e0
  by_cases hz : rs.length ≤ LIM
  case neg =>
    have e : (if rs.length ≤ LIM then n ((j, rs) :: hsOf ws) (Γ1.set j none) else none) = some o := e
    rw [if_neg hz] at e
    cases e
  have e : (if rs.length ≤ LIM then n ((j, rs) :: hsOf ws) (Γ1.set j none) else none) = some o := e
  rw [if_pos hz] at e
  refine h A F' Γ rs Γ1 e1 σ G H g F hot.low _ fun vs F1 G1 H1 f1 s1 g1 h1 fr1 => ?_
  refine ⟨by rw [h1.length]; exact lim_line hz, fun p hp => ?_⟩
  have gp := free_F g1 hp
  have g2 := (g1.new (o := .lst vs) hp).lift (o := .lst vs) (free_G g1 hp) gp upd_same (free_sl g1 hp)
  have g3 := g2.poke j (some (.ref p))
  have hj : j < σ.length := by rw [← g.len]; exact hl
  have hot1 := ((hot.mono s1).wide f1)
  have old : ∀ w ∈ ws, w.a ≠ p := fun w hw z => by
    have := g1.fr _ _ (hot1.hd w hw).1
    rw [z, hp] at this
    cases this
  have oldo : ∀ {xs : List V} {rs : List Row}, Rows K F F1 G1 xs rs → p ∉ ownA xs rs := fun hr hm => by
    obtain ⟨ys, w1, _⟩ := own_mem hr hm
    have := g1.fr _ _ w1
    rw [hp] at this
    cases this
  refine k A F _ (Γ1.set j none) (⟨j, p, vs, rs⟩ :: ws) o e (σ.set j (some (.ref p))) G1 _ D g3 ⟨(hot.low.trans f1).trans (same_new gp), fun w hw => ?_, fun w hw => ?_, fun w hw => ?_, fun w hw u hu => ?_⟩ (q.mono s1)
  · cases hw with
    | head => exact List.getElem?_set_self hj
    | tail _ hw =>
      rw [List.getElem?_set_ne (fun z => hf w hw z.symm)]
      exact hot.sl w hw
  · cases hw with
    | head => exact ⟨upd_same, (hot.low.trans f1).free gp⟩
    | tail _ hw => exact ⟨same_new gp _ _ (hot1.hd w hw).1, (hot1.hd w hw).2⟩
  · cases hw with
    | head => exact h1.wide (same_new gp)
    | tail _ hw => exact (hot1.rw w hw).wide (same_new gp)
  · cases hw with
    | head =>
      cases hu with
      | head => exact oldo h1
      | tail _ hu => exact oldo (hot1.rw u hu)
    | tail _ hw =>
      cases hu with
      | head =>
        intro hm
        have z := fr1 _ hm
        rw [(hot.hd w hw).1] at z
        cases z
      | tail _ hu => exact hot.nh w hw u hu
/-- the first told list -/
theorem ts_hot {t : TS} {n : MsH} (k : TSHok K t n) : TSok K t (n []) := fun A F Γ o e σ G H D g q => k A F F Γ [] o e σ G H D g ⟨Same.refl _, fun _ h => (by cases h), fun _ h => (by cases h), fun _ h => (by cases h), fun _ h => (by cases h)⟩ q
end
end VL

set_option Elab.async false
set_option linter.all false
set_option maxRecDepth 100000
set_option maxHeartbeats 2000000
namespace VL
open PySem PySem.Spec PyProof.Rows L2
/-! ### told lists changed at the end -/
theorem GS.change2 {K : PySem.W.Frag} {A : Addr} {F' : Hp} {Γ : Gm} {σ : L2.St} {G H : Hp} {p : Addr} {o : HO} (g : GS K A F' Γ σ G H) (hp : F' p ≠ none) : GS K A (upd F' p o) Γ σ G (upd H p o) where
  ex := fun b u e => by
    have hb : b ≠ p := fun z => by
      rw [z, g.dj p hp] at e
      cases e
    rw [upd_ne hb]
    exact g.ex b u e
  fr := fun b u e => by
    by_cases hb : b = p
    · subst hb
      rw [upd_same] at e ⊢
      exact e
    · rw [upd_ne hb] at e ⊢
      exact g.fr b u e
  dj := fun b hb => by
    by_cases h : b = p
    · subst h
      exact g.dj b hp
    · rw [upd_ne h] at hb
      exact g.dj b hb
  len := g.len
  sl := fun i q e => (g.sl i q e).mono (Same.refl _) fun a c ds e1 e2 => by
    subst e1
    have ha : F' a = none := g.of i c ds a e e2
    have hb : a ≠ p := fun z => hp (by rw [← z]; exact ha)
    obtain ⟨b, xs, w1, w2, _⟩ := g.ow e
    rw [e2] at w1
    cases w1
    exact ⟨w2, upd_ne hb⟩
  of := fun i c es a e1 e2 => by
    have ha : F' a = none := g.of i c es a e1 e2
    have hb : a ≠ p := fun z => hp (by rw [← z]; exact ha)
    rw [upd_ne hb]
    exact ha
  ne := g.ne
/-- the lists of rows, of which only the number of items is bounded -/
structure HotW (K : PySem.W.Frag) (F F' : Hp) (N : Nat) (ws : List W1) (σ : L2.St) : Prop where
  low : Same F F'
  sl : ∀ w ∈ ws, σ[w.j]? = some (some (.ref w.a))
  hd : ∀ w ∈ ws, F' w.a = some (.lst w.xs) ∧ F w.a = none
  ln : ∀ w ∈ ws, w.xs.length = w.rs.length
  ow : ∀ w ∈ ws, ∀ b ∈ ownA w.xs w.rs, ∃ ys, F' b = some (.lst ys) ∧ ys.length ≤ N ∧ F b = none
  gt : ∀ w ∈ ws, ∀ (i : Nat) (ds : List D), w.rs[i]? = some (.o ds) → ∃ b : Addr, w.xs[i]? = some (.ref b) ∧ b ∈ ownA w.xs w.rs
  nh : ∀ w ∈ ws, ∀ u ∈ ws, w.a ∉ ownA u.xs u.rs
def rowsLe (n : Nat) (rs : List Row) : Bool := rs.all fun r => match r with
  | .o ds => decide (ds.length ≤ n)
  | .d _ => true
section
variable {K : PySem.W.Frag} {A : Addr} {F F' F2 : Hp} {Γ : Gm} {σ : L2.St} {G G' H : Hp}
theorem own_le {n : Nat} {b : Addr} : ∀ {xs : List V} {rs : List Row}, Rows K F F' G xs rs → rowsLe n rs = true → b ∈ ownA xs rs → ∃ ys, F' b = some (.lst ys) ∧ ys.length ≤ n ∧ F b = none
  | _, _, .nil, _, h => by cases h
  | _, _, .d (x := x) h1 t, l, h => by
    have e : ∀ (x : V) xs d rs, ownA (x :: xs) (.d d :: rs) = ownA xs rs := fun x xs d rs => by cases x <;> rfl
    rw [e] at h
    have l : (true && rowsLe n _) = true := l
    exact own_le t (Bool.and_eq_true_iff.mp l).2 h
  | _, _, .o (b := c) h1 h2 h3 t, l, h => by
    have l : (decide (_ ≤ n) && rowsLe n _) = true := l
    have l := Bool.and_eq_true_iff.mp l
    rcases List.mem_cons.mp h with rfl | h
    · exact ⟨_, h1, by rw [h3.length]; exact of_decide_eq_true l.1, h2⟩
    · exact own_le t l.2 h
theorem HotS.weak {n : Nat} {ws : List W1} (h : HotS K F F' ws σ G) (l : ((hsOf ws).all fun p => rowsLe n p.2) = true) : HotW K F F' n ws σ where
  low := h.low
  sl := h.sl
  hd := h.hd
  ln := fun w hw => (h.rw w hw).length
  ow := fun w hw b hb => own_le (h.rw w hw) (List.all_eq_true.mp l (w.j, w.rs) (List.mem_map.mpr ⟨w, hw, rfl⟩)) hb
  gt := fun w hw i ds e => by
    obtain ⟨b, ys, h1, _⟩ := (h.rw w hw).get e
    exact ⟨b, h1, own_get (h.rw w hw) e h1⟩
  nh := h.nh
/-- one of the rows gets an item -/
theorem HotW.add {n : Nat} {ws : List W1} {b : Addr} {ys : List V} {y : V} (h : HotW K F F' n ws σ) (hb : ∃ w ∈ ws, b ∈ ownA w.xs w.rs) (e : F' b = some (.lst ys)) (l : ys.length ≤ n) (hF : F b = none) : HotW K F (upd F' b (.lst (ys ++ [y]))) (n + 1) ws σ where
  low := fun x u ex => by
    rw [upd_ne (fun z => by rw [z, hF] at ex; cases ex)]
    exact h.low x u ex
  sl := h.sl
  hd := fun w hw => by
    obtain ⟨u, hu, hm⟩ := hb
    rw [upd_ne (fun z => h.nh w hw u hu (by rw [z]; exact hm))]
    exact h.hd w hw
  ln := h.ln
  ow := fun w hw c hc => by
    obtain ⟨zs, h1, h2, h3⟩ := h.ow w hw c hc
    by_cases z : c = b
    · subst z
      exact ⟨_, upd_same, by rw [List.length_append]; exact Nat.succ_le_succ l, h3⟩
    · rw [upd_ne z]
      exact ⟨zs, h1, by omega, h3⟩
  gt := h.gt
  nh := h.nh
abbrev MsW := Hs → Nat → Ms
def TSWok (K : PySem.W.Frag) (t : TS) (m : MsW) : Prop := ∀ (A : Addr) (F F' : Hp) (Γ : Gm) (n : Nat) (ws : List W1) (o : Out), m (hsOf ws) n Γ = some o → ∀ (σ : L2.St) (G H : Hp) (D : Ends), GS K A F' Γ σ G H → HotW K F F' n ws σ → OutOk K A F D G o → t D σ H
def MOST : Nat := 1000000
def hsWeak (m : MsW) : MsH := fun hs Γ => if hs.all fun p => rowsLe MOST p.2 then m hs MOST Γ else none
theorem tsh_weak {t : TS} {m : MsW} (h : TSWok K t m) : TSHok K t (hsWeak m) := fun A F F' Γ ws o e σ G H D g hot q => by
  by_cases hc : ((hsOf ws).all fun p => rowsLe MOST p.2) = true
  · unfold hsWeak at e
    rw [if_pos hc] at e
    exact h A F F' Γ MOST ws o e σ G H D g (hot.weak hc) q
  · unfold hsWeak at e
    rw [if_neg hc] at e
    cases e
def wsLeave (m : Ms) : MsW := fun _ _ => m
theorem tsw_leave {t : TS} {m : Ms} (h : TSok K t m) : TSWok K t (wsLeave m) := fun A F F' Γ n ws o e σ G H D g hot q => h A F Γ o e σ G H D (g.lower hot.low) q
def ownAt (rs : List Row) (k : Int) : Bool := match ixN rs.length k with
  | some i => match rs[i]? with
    | some (.o _) => true
    | _ => false
  | none => false
theorem ownAt_of {rs : List Row} {k : Int} (h : ownAt rs k = true) : ∃ i ds, ixN rs.length k = some i ∧ rs[i]? = some (.o ds) := by
  unfold ownAt at h
  split at h
  · rename_i i e
    split at h
    · rename_i ds e2
      exact ⟨i, ds, e, e2⟩
    · cases h
  · cases h
/-- told[k].append(c) -/
def wsMut (j : Nat) (k : Int) (m : MsW) : MsW := fun hs n Γ => match hget j hs with
  | some rs => if ownAt rs k && decide (n < LIM) then m hs (n + 1) Γ else none
  | none => none
theorem tsw_mut {j : Nat} {k : Int} {c : V} {u : TS} {m : MsW} (h : TSWok K u m) : TSWok K (tSeq (tDrop (tBM K "list" rAppend (tOp (rIx K) (tVar j) (tC (.int k))) (tCons (tC c) tNil))) u) (wsMut j k m) := fun A F F' Γ n ws o e σ G H D g hot q => by
  unfold wsMut at e
  split at e
  case h_2 => cases e
  rename_i rs e1
  by_cases hc : (ownAt rs k && decide (n < LIM)) = true
  case neg =>
    rw [if_neg hc] at e
    cases e
  rw [if_pos hc] at e
  obtain ⟨c1, c2⟩ := Bool.and_eq_true_iff.mp hc
  have c2 := of_decide_eq_true c2
  obtain ⟨i, ds, i1, i2⟩ := ownAt_of c1
  obtain ⟨w, hw, rfl, rfl⟩ := hget_mem e1
  obtain ⟨b, b1, b2⟩ := hot.gt w hw i ds i2
  obtain ⟨ys, y1, y2, y3⟩ := hot.ow w hw b b2
  have hat : atI w.xs k = some (.ref b) := by
    unfold atI
    rw [hot.ln w hw, i1]
    exact b1
  refine ⟨_, hot.sl w hw, .inl ⟨w.a, w.xs, k, .ref b, rfl, rfl, SqL.of (g.fr _ _ (hot.hd w hw).1), hat, ?_⟩⟩
  refine ⟨.inl ⟨rfl, ys, SqL.of (g.fr _ _ y1)⟩, b, ys, c, rfl, rfl, g.fr _ _ y1, lim_lt (by omega), ?_⟩
  exact h A F _ Γ (n + 1) ws o e σ G _ D (g.change2 (by rw [y1]; exact fun z => nomatch z)) (hot.add ⟨w, hw, b2⟩ y1 y2 y3) q
/-! for one in told + found: one.append(c) -/
abbrev MrH := Hs → Option (List Row)
structure Walked (F F' : Hp) (n : Nat) (a : Addr) (bs : List Addr) : Prop where
  top : F' a = some (.lst (bs.map V.ref))
  no : a ∉ bs
  ow : ∀ b ∈ bs, ∃ ys, F' b = some (.lst ys) ∧ ys.length ≤ n ∧ F b = none
def allO (rs : List Row) : Bool := rs.all fun r => match r with
  | .o _ => true
  | .d _ => false
def TRok (K : PySem.W.Frag) (t : TE) (m : MrH) : Prop := ∀ (A : Addr) (F F' : Hp) (Γ : Gm) (n : Nat) (ws : List W1) (rs : List Row), m (hsOf ws) = some rs → ∀ (σ : L2.St) (G H : Hp), GS K A F' Γ σ G H → HotW K F F' n ws σ → ∀ Q : VK,
  (∀ a xs F2 H', Same F' F2 → GS K A F2 Γ σ G H' → F2 a = some (.lst xs) → xs.length = rs.length → (∀ (i : Nat) (ds : List D), rs[i]? = some (.o ds) → ∃ b : Addr, xs[i]? = some (.ref b) ∧ b ≠ a ∧ ∃ w ∈ ws, b ∈ ownA w.xs w.rs) → Q (.ref a) H') → t σ H Q
def rVar (j : Nat) : MrH := fun hs => hget j hs
theorem tr_var (j : Nat) : TRok K (tVar j) (rVar j) := fun A F F' Γ n ws rs e σ G H g hot Q q => by
  obtain ⟨w, hw, rfl, rfl⟩ := hget_mem e
  refine ⟨_, hot.sl w hw, q w.a w.xs F' H (Same.refl _) g (hot.hd w hw).1 (hot.ln w hw) fun i ds ei => ?_⟩
  obtain ⟨b, b1, b2⟩ := hot.gt w hw i ds ei
  exact ⟨b, b1, fun z => hot.nh w hw w hw (by rw [← z]; exact b2), w, hw, b2⟩
theorem HotW.wide {n : Nat} {ws : List W1} (e : Same F' F2) (h : HotW K F F' n ws σ) : HotW K F F2 n ws σ := ⟨h.low.trans e, h.sl, fun w hw => ⟨e _ _ (h.hd w hw).1, (h.hd w hw).2⟩, h.ln, fun w hw b hb => by
  obtain ⟨ys, h1, h2⟩ := h.ow w hw b hb
  exact ⟨ys, e _ _ h1, h2⟩, h.gt, h.nh⟩
def rAdd (m n : MrH) : MrH := fun hs => (m hs).bind fun a => (n hs).bind fun b => if a.length + b.length ≤ LIM then some (a ++ b) else none
theorem tr_add {ta tb : TE} {m n : MrH} (h : TRok K ta m) (k : TRok K tb n) : TRok K (tOp (rAddG K) ta tb) (rAdd m n) := fun A F F' Γ N ws rs e σ G H g hot Q q => by
  obtain ⟨r1, e1, e⟩ := obind e
  obtain ⟨r2, e2, e⟩ := obind e
  by_cases hz : r1.length + r2.length ≤ LIM
  case neg =>
    rw [if_neg hz] at e
    cases e
  rw [if_pos hz] at e
  cases e
  refine h A F F' Γ N ws r1 e1 σ G H g hot _ fun a1 xs1 F1 H1 f1 g1 t1 l1 o1 => ?_
  refine k A F F1 Γ N ws r2 e2 σ G H1 g1 (hot.wide f1) _ fun a2 xs2 F2 H2 f2 g2 t2 l2 o2 => ?_
  refine .inr (.inr ⟨_, _, xs1, xs2, rfl, rfl, SqL.of (g2.fr _ _ (f2 _ _ t1)), SqL.of (g2.fr _ _ t2), by rw [l1, l2]; exact hz, fun p hp => ?_⟩)
  have gp := free_F g2 hp
  have g3 := (g2.new (o := .lst (xs1 ++ xs2)) hp).lift (o := .lst (xs1 ++ xs2)) (free_G g2 hp) gp upd_same (free_sl g2 hp)
  refine q p (xs1 ++ xs2) _ _ ((f1.trans f2).trans (same_new gp)) g3 upd_same (by rw [List.length_append, List.length_append, l1, l2]) fun i ds ei => ?_
  have fresh : ∀ b, (∃ w ∈ ws, b ∈ ownA w.xs w.rs) → b ≠ p := fun b ⟨w, hw, hb⟩ z => by
    obtain ⟨ys, y1, _⟩ := hot.ow w hw b hb
    have := f2 _ _ (f1 _ _ y1)
    rw [z, gp] at this
    cases this
  by_cases hi : i < r1.length
  · rw [List.getElem?_append_left hi] at ei
    obtain ⟨b, b1, _, b3⟩ := o1 i ds ei
    exact ⟨b, by rw [List.getElem?_append_left (by rw [l1]; exact hi)]; exact b1, fresh b b3, b3⟩
  · rw [List.getElem?_append_right (by omega)] at ei
    obtain ⟨b, b1, _, b3⟩ := o2 _ ds ei
    exact ⟨b, by rw [List.getElem?_append_right (by rw [l1]; omega), l1]; exact b1, fresh b b3, b3⟩
def wsAll (i : Nat) (mr : MrH) (m : Ms) : MsW := fun hs n Γ => (mr hs).bind fun rs => if allO rs && decide (n + rs.length < LIM) && hfree i hs && decide (i < Γ.length) then (m (Γ.set i none)) else none
theorem allO_get {rs : List Row} (h : allO rs = true) {i : Nat} (hi : i < rs.length) : ∃ ds, rs[i]? = some (.o ds) := by
  have := List.all_eq_true.mp h rs[i] (List.getElem_mem hi)
  rw [List.getElem?_eq_getElem hi]
  cases e : rs[i] with
  | o ds => exact ⟨ds, rfl⟩
  | d x =>
    rw [e] at this
    cases this
theorem tsw_all {i : Nat} {c : V} {te : TE} {mr : MrH} {u : TS} {m : Ms} (hr : TRok K te mr) (h : TSok K u m) : TSWok K (tSeq (tFor (iList K te) (gName i) (tDrop (tBM K "list" rAppend (tVar i) (tCons (tC c) tNil)))) u) (wsAll i mr m) := fun A F F' Γ n ws o e σ G H D g hot q => by
  obtain ⟨rs, e1, e⟩ := obind e
  by_cases hc : (allO rs && decide (n + rs.length < LIM) && hfree i (hsOf ws) && decide (i < Γ.length)) = true
  case neg =>
    rw [if_neg hc] at e
    cases e
  rw [if_pos hc] at e
  rw [Bool.and_eq_true, Bool.and_eq_true, Bool.and_eq_true] at hc
  obtain ⟨⟨⟨c1, c2⟩, c3⟩, c4⟩ := hc
  have c2 := of_decide_eq_true c2
  have c4 := of_decide_eq_true c4
  refine hr A F F' Γ n ws rs e1 σ G H g hot _ fun a xs F1 H1 f1 g1 t1 l1 o1 => ?_
  have hi : i < σ.length := by rw [← g.len]; exact c4
  have hot1 := hot.wide f1
  refine ⟨a, rfl, ⟨xs, SqL.of (g1.fr _ _ t1)⟩, ?_⟩
  refine for_it (walk_list (K := K) (a := a) (xs := xs)) (fun k σk Hk => ∃ Fk, GS K A Fk (Γ.set i none) σk G Hk ∧ Same F Fk ∧ Fk a = some (.lst xs) ∧ i < σk.length ∧ ∀ b, (∃ w ∈ ws, b ∈ ownA w.xs w.rs) → ∃ ys, Fk b = some (.lst ys) ∧ ys.length ≤ n + k ∧ F b = none) ⟨F1, g1.drop i, hot1.low, t1, hi, fun b ⟨w, hw, hb⟩ => hot1.ow w hw b hb⟩ ?_ ?_ ?_
  · rintro k σk Hk _ ⟨Fk, w1, _, w3, _⟩
    exact SqL.of (w1.fr _ _ w3)
  · rintro k x σk Hk H' hk ⟨Fk, w1, w2, w3, w4, w5⟩ ⟨rfl, hx⟩
    obtain ⟨ds, e2⟩ := allO_get c1 (i := k) (by rw [← l1]; exact hk)
    obtain ⟨b, b1, b2, b3⟩ := o1 k ds e2
    rw [hx] at b1
    cases b1
    obtain ⟨ys, y1, y2, y3⟩ := w5 b b3
    have hk2 : k < rs.length := by rw [← l1]; exact hk
    refine ⟨.ref b, List.getElem?_set_self w4, .inl ⟨rfl, ys, SqL.of (w1.fr _ _ y1)⟩, b, ys, c, rfl, rfl, w1.fr _ _ y1, lim_lt (by omega), ?_⟩
    have g2 := (w1.poke i (some (.ref b))).change2 (o := .lst (ys ++ [c])) (by rw [y1]; exact fun z => nomatch z)
    rw [List.set_set] at g2
    refine ⟨_, g2, fun x u ex => ?_, ?_, by rw [List.length_set]; exact w4, fun b' hb' => ?_⟩
    · rw [upd_ne (fun z => by rw [z, y3] at ex; cases ex)]
      exact w2 x u ex
    · rw [upd_ne (fun z => b2 z.symm)]
      exact w3
    · obtain ⟨zs, z1, z2, z3⟩ := w5 b' hb'
      by_cases z : b' = b
      · subst z
        exact ⟨_, upd_same, by rw [List.length_append]; show ys.length + 1 ≤ _; omega, z3⟩
      · rw [upd_ne z]
        exact ⟨zs, z1, by omega, z3⟩
  · rintro σk Hk ⟨Fk, w1, w2, _⟩
    exact h A F _ o e σk G Hk D (w1.lower w2) q
end
end VL

set_option Elab.async false
set_option linter.all false
set_option maxRecDepth 100000
set_option maxHeartbeats 2000000
namespace VL
open PySem PySem.Spec PyProof.Rows L2
/-! ### a told list that is changed within an if, and named no more behind it -/
def hsIfIn (mt : MtH) (n : MsH) (m : Ms) : MsH := fun hs Γ => (mt hs Γ).bind fun p => if p.1 = true then (n hs p.2).bind fun o => match o with
  | .nx Γ' => m Γ'
  | o => some o
  else m p.2
theorem tsh_ifIn {K : PySem.W.Frag} {c : TT} {t u : TS} {mt : MtH} {n : MsH} {m : Ms} (hc : TTHok K c mt) (h : TSHok K t n) (k : TSok K u m) : TSHok K (tSeq (tIfS c t tNext) u) (hsIfIn mt n m) := fun A F F' Γ ws o e σ G H D g hot q => by
  obtain ⟨⟨b, Γ1⟩, e1, e⟩ := obind e
  refine hc A F F' Γ ws b Γ1 e1 σ G H g hot _ fun G1 H1 s1 g1 => ?_
  cases b with
  | true =>
    obtain ⟨o1, e2, e⟩ := obind e
    refine iteT (h A F F' Γ1 ws o1 e2 σ G1 H1 { D with nx := u D } g1 (hot.mono s1) ?_)
    cases o1 with
    | nx Γ2 => exact fun σ' G' H' s g' => k A F Γ2 o e σ' G' H' D g' (q.mono (s1.trans s))
    | rt r Γ2 =>
      cases e
      exact q.mono s1
    | bk Γ2 =>
      cases e
      exact q.mono s1
    | ct Γ2 =>
      cases e
      exact q.mono s1
  | false => exact iteF (k A F Γ1 o e σ G1 H1 D (g1.lower hot.low) (q.mono s1))
end VL

set_option Elab.async false
set_option linter.all false
set_option maxRecDepth 100000
namespace VL
open PySem PySem.Spec PyProof.Rows L2
/-! ### lists of ints as data -/
abbrev il (ns : List Int) : List D := ns.map PyData.int
theorem il_all : ∀ ns : List Int, PyData.canLayAll0 (il ns) = true ∧ PyData.depthAll (il ns) = 0
  | [] => ⟨rfl, rfl⟩
  | n :: ns => by
    obtain ⟨h1, h2⟩ := il_all ns
    refine ⟨?_, ?_⟩
    · show (true && PyData.canLayAll0 (il ns)) = true
      rw [h1]
      rfl
    · show max 0 (PyData.depthAll (il ns)) = 0
      rw [h2]
      rfl
theorem il_sh (ns : List Int) : SeqAt.shaped (.list (il ns)) = true := by
  obtain ⟨h1, h2⟩ := il_all ns
  show (PyData.canLayAll0 (il ns) && decide (PyData.depthAll (il ns) + 1 ≤ 64)) = true
  rw [h1, h2]
  rfl
theorem eqv_il : ∀ a b : List Int, PyData.eqvAll (il a) (il b) = decide (a = b)
  | [], [] => rfl
  | [], b :: bs => by
    rw [decide_eq_false (by simp)]
    rfl
  | a :: as, [] => by
    rw [decide_eq_false (by simp)]
    rfl
  | a :: as, b :: bs => by
    show ((a == b) && PyData.eqvAll (il as) (il bs)) = _
    rw [eqv_il as bs]
    by_cases h : a = b
    · by_cases h2 : as = bs
      · simp [h, h2]
      · simp [h, h2]
    · simp [h]
theorem gNe_il (a b : List Int) : gNe (.list (il a)) (.list (il b)) = some (!decide (a = b)) := by
  unfold gNe
  rw [il_sh a, il_sh b]
  show some (!PyData.eqvAll (il a) (il b)) = _
  rw [eqv_il]
theorem gEq_il (a b : List Int) : gEq (.list (il a)) (.list (il b)) = some (decide (a = b)) := by
  unfold gEq
  rw [il_sh a, il_sh b]
  by_cases h : lenNe (.list (il a)) (.list (il b)) = true
  · rw [if_pos h]
    have h : ((il a).length != (il b).length) = true := h
    rw [List.length_map, List.length_map] at h
    rw [decide_eq_false]
    rintro rfl
    simp at h
  · rw [if_neg h]
    show some (PyData.eqvAll (il a) (il b)) = _
    rw [eqv_il]
def rgI (n : Nat) : List Int := (List.range n).map fun (i : Nat) => (0 : Int) + (i : Int)
theorem range_il (n : Nat) : rangeD 0 n = il (rgI n) := by
  unfold rangeD il rgI
  rw [List.map_map]
  rfl
theorem rgI_len (n : Nat) : (rgI n).length = n := by
  unfold rgI
  rw [List.length_map, List.length_range]
theorem rgI_mem {n : Nat} {k : Int} : k ∈ rgI n ↔ 0 ≤ k ∧ k < n := by
  unfold rgI
  rw [List.mem_map]
  constructor
  · rintro ⟨i, h, rfl⟩
    have := List.mem_range.mp h
    omega
  · rintro ⟨h1, h2⟩
    exact ⟨k.toNat, List.mem_range.mpr (by omega), by omega⟩
theorem rgI_get {n i : Nat} (h : i < n) : (rgI n)[i]? = some (i : Int) := by
  unfold rgI
  rw [List.getElem?_map, List.getElem?_range h]
  show some ((0 : Int) + (i : Int)) = _
  rw [Int.zero_add]
theorem idxGo_il {k : Int} : ∀ {ns : List Int} {j : Nat}, k ∈ ns → idxGo (.int k) (il ns) j = some (j + ns.idxOf k)
  | n :: ns, j, h => by
    show (if (n == k) = true then some j else idxGo (.int k) (il ns) (j + 1)) = _
    rw [List.idxOf_cons]
    by_cases e : n = k
    · subst e
      simp
    · have h2 : k ∈ ns := by
        cases h with
        | head => exact absurd rfl e
        | tail _ h => exact h
      have e' : (n == k) = false := beq_eq_false_iff_ne.mpr e
      rw [idxGo_il (j := j + 1) h2, e']
      simp
      omega
theorem fIndex_il {k : Int} {ns : List Int} (h : k ∈ ns) : fIndex (.list (il ns)) (.int k) = some ((ns.idxOf k : Nat) : Int) := by
  have s : SeqAt.shaped (.int k) = true := rfl
  show (if SeqAt.shaped (.list (il ns)) && SeqAt.shaped (.int k) then (idxGo (.int k) (il ns) 0).map fun (i : Nat) => (i : Int) else none) = _
  rw [il_sh ns, s, idxGo_il h]
  simp
theorem fSorted_il (ns : List Int) : fSorted [.list (il ns)] = some (.fr (il (sortI ns))) := by
  show (intsOf (ns.map PyData.int)).map (fun ns => Rr.fr ((sortI ns).map .int)) = _
  rw [intsOf_map ns]
  rfl
theorem ints_ex {P : Int → Prop} : ∀ {ds : List D}, (∀ d ∈ ds, ∃ k : Int, d = .int k ∧ P k) → ∃ ns : List Int, ds = il ns ∧ ∀ k ∈ ns, P k
  | [], _ => ⟨[], rfl, fun _ h => nomatch h⟩
  | d :: ds, h => by
    obtain ⟨k, rfl, hk⟩ := h d (List.mem_cons_self ..)
    obtain ⟨ns, rfl, hn⟩ := ints_ex (ds := ds) fun e he => h e (List.mem_cons_of_mem _ he)
    refine ⟨k :: ns, rfl, fun j hj => ?_⟩
    cases hj with
    | head => exact hk
    | tail _ hj => exact hn j hj
theorem atI_il {ns : List Int} {i : Int} (h1 : 0 ≤ i) (h2 : i < ns.length) : atI (il ns) i = some (.int (ns.getD i.toNat 0)) := by
  have hlt : i.toNat < ns.length := by omega
  unfold atI ixN
  rw [if_pos h1, if_pos (by rw [List.length_map]; exact h2)]
  show (il ns)[i.toNat]? = _
  rw [List.getElem?_map, List.getElem?_eq_getElem hlt, List.getD_eq_getElem?_getD, List.getElem?_eq_getElem hlt]
  rfl
theorem filterMap_il {f : Int → Option Int} {g : D → Option D} : ∀ {ns : List Int}, (∀ k ∈ ns, g (.int k) = (f k).map .int) → (il ns).filterMap g = il (ns.filterMap f)
  | [], _ => rfl
  | n :: ns, h => by
    have ih := filterMap_il (ns := ns) fun k hk => h k (List.mem_cons_of_mem _ hk)
    have e := h n (List.mem_cons_self ..)
    show (PyData.int n :: il ns).filterMap g = _
    cases hf : f n with
    | none =>
      rw [hf] at e
      rw [List.filterMap_cons_none e, List.filterMap_cons_none hf, ih]
    | some m =>
      rw [hf] at e
      have e : g (.int n) = some (.int m) := e
      rw [List.filterMap_cons_some e, List.filterMap_cons_some hf, ih]
      rfl
/-- a comprehension that leaves the slots as they are -/
theorem lc_one {mi : Mi} {mt : D → Gm → Option Gm} {mc : Mt} {me : Me} {vs : List Nat} {Γ Γ1 : Gm} {ds : List D} (f : D → Option D) (h1 : mi Γ = some (ds, Γ1)) (h2 : hidOk Γ1 vs = true) (h3 : ds.length ≤ LIM)
    (h : ∀ d ∈ ds, ∃ Γ2, lcTurn mt mc me d (wipeG Γ1 vs) = some (f d, Γ2) ∧ wipeG Γ2 vs = wipeG Γ1 vs) : mLc mi mt mc me vs Γ = some (.fr (ds.filterMap f), mergeG Γ1 (wipeG Γ1 vs) vs) := by
  have := lc_map (mt := mt) (mc := mc) (me := me) (vs := vs) (Γ := wipeG Γ1 vs) (f := f) (ds := ds) h []
  unfold mLc
  rw [h1]
  simp only [Option.bind_some, h2, Bool.true_and, decide_eq_true h3, if_true, this, List.nil_append]
end VL

set_option Elab.async false
set_option linter.all false
set_option maxRecDepth 100000
namespace VL
open PySem PySem.Spec PyProof.Rows L2
theorem rangeD_r (n : Nat) : rangeD 0 n = (List.range' 0 n).map fun (j : Nat) => PyData.int (j : Int) := by
  unfold rangeD
  rw [List.range_eq_range']
  apply List.map_congr_left
  intro a _
  rw [Int.zero_add]
theorem lc_range {mt : D → Gm → Option Gm} {mc : Mt} {me : Me} {vs : List Nat} {I : Nat → Gm → List D → Prop} : ∀ (m : Nat) {i : Nat} {Γ : Gm} {acc : List D}, I i Γ acc → (∀ j Γ acc, i ≤ j → j < i + m → I j Γ acc → ∃ oe Γ1, lcTurn mt mc me (.int (j : Int)) Γ = some (oe, Γ1) ∧ I (j + 1) (wipeG Γ1 vs) (acc ++ oe.toList)) →
    ∃ Γ' es, lcGo mt mc me vs ((List.range' i m).map fun (j : Nat) => PyData.int (j : Int)) Γ acc = some (es, Γ') ∧ I (i + m) Γ' es
  | 0, i, Γ, acc, h, _ => ⟨Γ, acc, rfl, h⟩
  | m + 1, i, Γ, acc, h, s => by
    obtain ⟨oe, Γ1, h1, h2⟩ := s i Γ acc (Nat.le_refl _) (by omega) h
    obtain ⟨Γ', es, h3, h4⟩ := lc_range m (i := i + 1) h2 fun j Γ acc hj hj2 hi => s j Γ acc (by omega) (by omega) hi
    refine ⟨Γ', es, ?_, ?_⟩
    · show (lcTurn mt mc me (.int (i : Int)) Γ).bind _ = _
      rw [h1]
      exact h3
    · have : i + (m + 1) = i + 1 + m := by omega
      rw [this]
      exact h4
theorem for_range {mt : D → Gm → Option Gm} {ms : Ms} {I : Nat → Gm → Prop} : ∀ (m : Nat) {i : Nat} {Γ : Gm}, I i Γ → (∀ j Γ, i ≤ j → j < i + m → I j Γ → ∃ Γ1 Γ2, mt (.int (j : Int)) Γ = some Γ1 ∧ ms Γ1 = some (.nx Γ2) ∧ I (j + 1) Γ2) →
    ∃ Γ', forGo mt ms ((List.range' i m).map fun (j : Nat) => PyData.int (j : Int)) Γ = some (.nx Γ') ∧ I (i + m) Γ'
  | 0, i, Γ, h, _ => ⟨Γ, rfl, h⟩
  | m + 1, i, Γ, h, s => by
    obtain ⟨Γ1, Γ2, h1, h2, h3⟩ := s i Γ (Nat.le_refl _) (by omega) h
    obtain ⟨Γ', h4, h5⟩ := for_range m (i := i + 1) h3 fun j Γ hj hj2 hi => s j Γ (by omega) (by omega) hi
    refine ⟨Γ', ?_, ?_⟩
    · show (mt (.int (i : Int)) Γ).bind _ = _
      rw [h1]
      show (ms Γ1).bind _ = _
      rw [h2]
      exact h4
    · have : i + (m + 1) = i + 1 + m := by omega
      rw [this]
      exact h5
/-- ascending, from lo on, below n -/
def Asc (n : Int) : Int → List Int → Prop
  | _, [] => True
  | lo, k :: c => lo ≤ k ∧ k ≤ n - 1 ∧ Asc n (k + 1) c
theorem asc_of {n : Int} : ∀ {c : List Int} {lo : Int}, c.Pairwise (· < ·) → (∀ k ∈ c, lo ≤ k ∧ k < n) → Asc n lo c
  | [], _, _, _ => trivial
  | k :: c, lo, h, m => by
    obtain ⟨h1, h2⟩ := List.pairwise_cons.mp h
    obtain ⟨m1, m2⟩ := m k (List.mem_cons_self ..)
    exact ⟨m1, by omega, asc_of h2 fun j hj => ⟨by have := h1 j hj; omega, (m j (List.mem_cons_of_mem _ hj)).2⟩⟩
theorem asc_mem {n : Int} : ∀ {c : List Int} {lo : Int}, Asc n lo c → ∀ k ∈ c, lo ≤ k ∧ k < n
  | [], _, _, _, h => nomatch h
  | k :: c, lo, ⟨h1, h2, h3⟩, j, hj => by
    cases hj with
    | head => exact ⟨h1, by omega⟩
    | tail _ hj =>
      obtain ⟨q1, q2⟩ := asc_mem h3 j hj
      exact ⟨by omega, q2⟩
theorem asc_len {n : Int} : ∀ {c : List Int} {lo : Int}, Asc n lo c → lo ≤ n → (c.length : Int) ≤ n - lo
  | [], lo, _, h => by simp; omega
  | k :: c, lo, ⟨h1, h2, h3⟩, h => by
    have := asc_len h3 (by omega)
    rw [List.length_cons]
    omega
theorem rgI_pair (n : Nat) : (rgI n).Pairwise (· < ·) := by
  unfold rgI
  rw [List.pairwise_map]
  exact List.pairwise_lt_range.imp fun h => by omega
theorem asc_rg (n : Nat) : Asc (n : Int) 0 (rgI n) := asc_of (rgI_pair n) fun k hk => rgI_mem.mp hk
theorem asc_filter (n : Nat) (p : Int → Bool) : Asc (n : Int) 0 ((rgI n).filter p) := asc_of ((rgI_pair n).filter p) fun k hk => rgI_mem.mp (List.mem_filter.mp hk).1
theorem nall (p : Int → Bool) (c : List Int) : decide (c.filter (fun k => !p k) = []) = c.all p := by
  rw [Bool.eq_iff_iff]
  simp [List.filter_eq_nil_iff]
theorem fm_filter (p : Int → Bool) : ∀ c : List Int, c.filterMap (fun k => if p k then some k else none) = c.filter p
  | [] => rfl
  | k :: c => by
    by_cases h : p k = true
    · rw [List.filter_cons_of_pos h, List.filterMap_cons_some (by rw [if_pos h]), fm_filter p c]
    · rw [List.filter_cons_of_neg h, List.filterMap_cons_none (by rw [if_neg h]), fm_filter p c]
end VL

set_option Elab.async false
set_option linter.all false
set_option maxRecDepth 100000
set_option maxHeartbeats 2000000
namespace VL
open PySem PySem.Spec PyProof.Rows L2
/-! ### ascending lists of ints, each once -/
def insU (k : Int) : List Int → List Int
  | [] => [k]
  | j :: l => if k < j then k :: j :: l else if k = j then j :: l else j :: insU k l
def usI (ns : List Int) : List Int := ns.foldr insU []
theorem insU_mem {k j : Int} : ∀ {l : List Int}, j ∈ insU k l ↔ j = k ∨ j ∈ l
  | [] => by simp [insU]
  | i :: l => by
    unfold insU
    split
    · simp
    · split
      · rename_i h
        subst h
        simp
      · have ih := insU_mem (k := k) (j := j) (l := l)
        rw [List.mem_cons, ih, List.mem_cons]
        constructor
        · rintro (h | h | h)
          · exact .inr (.inl h)
          · exact .inl h
          · exact .inr (.inr h)
        · rintro (h | h | h)
          · exact .inr (.inl h)
          · exact .inl h
          · exact .inr (.inr h)
theorem insU_pair {k : Int} : ∀ {l : List Int}, l.Pairwise (· < ·) → (insU k l).Pairwise (· < ·)
  | [], _ => by simp [insU]
  | i :: l, h => by
    obtain ⟨h1, h2⟩ := List.pairwise_cons.mp h
    unfold insU
    split
    · rename_i hk
      refine List.pairwise_cons.mpr ⟨fun y hy => ?_, h⟩
      rcases List.mem_cons.mp hy with rfl | hy
      · exact hk
      · exact Int.lt_trans hk (h1 y hy)
    · split
      · exact h
      · refine List.pairwise_cons.mpr ⟨fun y hy => ?_, insU_pair h2⟩
        rcases insU_mem.mp hy with rfl | hy
        · omega
        · exact h1 y hy
theorem usI_mem {j : Int} : ∀ {ns : List Int}, j ∈ usI ns ↔ j ∈ ns
  | [] => by simp [usI]
  | n :: ns => by
    show j ∈ insU n (usI ns) ↔ _
    rw [insU_mem, usI_mem, List.mem_cons]
theorem usI_pair : ∀ ns : List Int, (usI ns).Pairwise (· < ·)
  | [] => .nil
  | n :: ns => insU_pair (usI_pair ns)
theorem asc_uniq : ∀ {a b : List Int}, a.Pairwise (· < ·) → b.Pairwise (· < ·) → (∀ k, k ∈ a ↔ k ∈ b) → a = b
  | [], [], _, _, _ => rfl
  | [], y :: b, _, _, h => absurd ((h y).mpr (List.mem_cons_self ..)) (by simp)
  | x :: a, [], _, _, h => absurd ((h x).mp (List.mem_cons_self ..)) (by simp)
  | x :: a, y :: b, ha, hb, h => by
    obtain ⟨a1, a2⟩ := List.pairwise_cons.mp ha
    obtain ⟨b1, b2⟩ := List.pairwise_cons.mp hb
    have e : x = y := by
      rcases List.mem_cons.mp ((h x).mp (List.mem_cons_self ..)) with e | e
      · exact e
      · rcases List.mem_cons.mp ((h y).mpr (List.mem_cons_self ..)) with e2 | e2
        · exact e2.symm
        · have := a1 y e2
          have := b1 x e
          omega
    subst e
    rw [asc_uniq a2 b2 fun k => ⟨fun hk => ?_, fun hk => ?_⟩]
    · rcases List.mem_cons.mp ((h k).mp (List.mem_cons_of_mem _ hk)) with e | e
      · have := a1 k hk
        omega
      · exact e
    · rcases List.mem_cons.mp ((h k).mpr (List.mem_cons_of_mem _ hk)) with e | e
      · have := b1 k hk
        omega
      · exact e
theorem usI_eq {ns ms : List Int} (h1 : ms.Pairwise (· < ·)) (h2 : ∀ k, k ∈ ms ↔ k ∈ ns) : ms = usI ns := asc_uniq h1 (usI_pair ns) fun k => (h2 k).trans usI_mem.symm
theorem usI_same {ns ms : List Int} (h : ∀ k, k ∈ ms ↔ k ∈ ns) : usI ms = usI ns := usI_eq (usI_pair ms) fun k => usI_mem.trans (h k)
/-! ### set(xs), sorted(set(xs)) -/
def rSetL (w : World) (K : PySem.W.Frag) : List V → Hp → VK → Prop := fun vs H Q => ∃ (a : Addr) (ns : List Int), vs = [.ref a] ∧ SqL K H a (ns.map V.int) ∧ ns.length + 1 < scanBound ∧ ∀ (p : Addr) (c : Nat), H p = none → c ≤ ns.length → Q (.ref p) (upd H p (SetO w p (fun j => decide (j ∈ ns)) c))
section
variable {K : PySem.W.Frag} {X : Cx}
theorem c_setL (hc : X.calm = true) : CallR X (.type "set") (rSetL X.w X.K) := by
  intro pins s σ H vs us Q I r h
  obtain ⟨a, ns, rfl, hs, hb, q⟩ := h
  rw [Vals.ref1 r]
  obtain ⟨its, rv, pl, _⟩ := I.list hs
  refine set_list ns (I.ok.hd hc) pl.isList (by simpa using ints_of_vals rv) hb fun g tk c w1 w2 w3 => ?_
  have hn : H s.heap.objs.size = none := I.hok.fresh (Nat.le_refl _)
  have J : Inv X pins σ (upd H s.heap.objs.size (SetO X.w s.heap.objs.size (fun j => decide (j ∈ ns)) c)) { s with heap := g, gens := s.gens, drawn := s.drawn, toks := tk } :=
    I.call (ch := []) (Un.laid w3 (Nat.le_refl _) hn) (I.hok.laid w3 (Nat.le_refl _) (setO_new w1)) I.bare (fun _ z => nomatch z)
  exact ⟨.ref s.heap.objs.size, _, J, rfl, q _ c hn w2⟩
def intsD : D → Option (List Int)
  | .list ds => intsOf ds
  | _ => none
def mSortSet (me : Me) : Me := fun Γ => (me Γ).bind fun p => (peek p.2 p.1).bind fun d => (intsD d).bind fun ns => if ns.length < 64 then some (.fr (il (usI ns)), p.2) else none
theorem te_sortSet {w : World} {te : TE} {me : Me} (h : TEok K te me) : TEok K (tCB (rSortedSet w) (tCons (tCB (rSetL w K) (tCons te tNil)) tNil)) (mSortSet me) := fun A F Γ rs Γ' e σ G H g Q q => by
  obtain ⟨⟨r, Γ1⟩, e1, e⟩ := obind e
  obtain ⟨d, e2, e⟩ := obind e
  obtain ⟨ns, e3, e⟩ := obind e
  by_cases hz : ns.length < 64
  case neg =>
    have e : (if ns.length < 64 then some (Rs.fr (il (usI ns)), Γ1) else none) = some (rs, Γ') := e
    rw [if_neg hz] at e
    cases e
  have e : (if ns.length < 64 then some (Rs.fr (il (usI ns)), Γ1) else none) = some (rs, Γ') := e
  rw [if_pos hz] at e
  cases e
  refine h A F Γ r _ e1 σ G H g _ fun v G1 H1 s1 g1 h1 => ?_
  have k := peek_ok g1 h1 e2
  cases d with
  | list ds =>
    obtain ⟨a, xs, rfl, k1, k2⟩ := k
    have ex := intsOf_vals k2 e3
    subst ex
    refine ⟨a, ns, rfl, k1, Nat.lt_of_le_of_lt (Nat.succ_le_of_lt hz) (by decide), fun p c hp hc => ?_⟩
    refine ⟨p, _, c, rfl, upd_same, Nat.lt_of_le_of_lt hc hz, fun ms p2 m1 m2 m3 hp2 => ?_⟩
    have em : ms = usI ns := usI_eq m1 fun k => by rw [m2 k, decide_eq_true_eq]
    subst em
    obtain ⟨G2, s2, g2, h2⟩ := fin_ok (rr := .fr (il (usI ns))) (v := .ref p2) (H' := upd (upd H1 p (SetO w p (fun j => decide (j ∈ ns)) c)) p2 (.lst ((usI ns).map V.int))) (g1.new (o := SetO w p (fun j => decide (j ∈ ns)) c) hp) ⟨p2, _, rfl, hp2, rfl, ints_dvA _⟩
    exact q _ G2 _ (s1.trans s2) g2 h2
  | _ => cases e3
end
end VL

set_option Elab.async false
set_option linter.all false
set_option maxRecDepth 100000
set_option maxHeartbeats 4000000
namespace VL
open PySem PySem.Spec PyProof.Rows L2
/-! ### {elt for x in it if ..}, elt an int -/
abbrev SI0 (w : World) (D : Addr) : HO := SetO w D (fun _ => false) 0
abbrev SI1 (w : World) (D : Addr) (S : Int → Bool) (n : Nat) (c : Int) : HO := SetO w D (fun j => S j || decide (j = c)) (if S c = true then n else n + 1)
section
variable {X : Cx}
theorem add_int {pins : List (Addr × Obj)} {σ : L2.St} {H : Hp} {s : Shared} {E : Value → Shared → Prop} {D : Addr} {S : Int → Bool} {n : Nat} {c : Int} {tk : Tok} {Q : Value → Shared → Prop} (I : Inv X pins σ H s) (e : H D = some (SetO X.w D S n)) (hn : n + 1 < scanBound)
    (q : ∀ s', Inv X pins σ (upd H D (SI1 X.w D S n c)) s' → Q .none s') : wpAny (model X.prog X.w) X.A (call (.builtin "set.add") [.ref D, .int c tk]) Q E s := by
  refine setR_add (setO_get I e) hn fun g sb R => ?_
  have ex : ∃ u, g.get? D = some u := by
    obtain ⟨o, _, _, _, ho, _⟩ := R
    exact ⟨o, ho⟩
  exact q _ (I.write (e := D) (t' := s.toks + 1) (by rw [e]; trivial) (.inl rfl) (fun b u hb hu => (sb.2 b hb).trans hu) ex (setO_new R))
/-- what is asked of a set comprehension: D is the new set -/
def tSI (w : World) (wi : TI) (g : TG) (tt : TT) (te : TE) (vs : List Nat) : TE := fun σ H Q => wi σ H fun J H1 => ∀ D, H1 D = none → ∃ W : Nat → Nat → Hp → Prop, (∃ m, W 0 m (upd H1 D (SI0 w D))) ∧ ∀ i m H, W i m H →
  (J.stop i H ∧ Q (.ref D) H) ∨ (J.go i H ∧ ∃ N : Hp → Prop, (∀ H', N H' → ∃ m', m' < m ∧ W (i + 1) m' H') ∧ ∀ x H', J.yld i H x H' → g x (wipe σ vs) H' fun σ2 H2 => wipe σ2 vs = wipe σ vs ∧ tt σ2 H2 fun b H3 =>
    if b = true then te σ2 H3 fun y H4 => ∃ (c : Int) (S : Int → Bool) (n : Nat), y = .int c ∧ H4 D = some (SetO w D S n) ∧ n + 1 < scanBound ∧ N (upd H4 D (SI1 w D S n c)) else N H3)
variable {elt tg iter : Expr} {ifs : List Expr} {scope : Scope} {own : List (PySem.Str × Nat)} {pos : Pos} {wi : TI} {g : TG} {tt : TT} {te : TE}
theorem pe_si (hc : X.calm = true) (hN : X.N.Nodup) (hi : PI X tg iter wi) (ok : BlkOk X.N X.env.scope scope own)
    (hg : ∀ (s : Shared) (H : Hp) (C : Addr) (cl : List (PySem.Str × Addr)) (fp : List Addr), PG (X.blk s H scope (compEnvC scope cl C X.env) fp) tg g)
    (ht : ∀ (s : Shared) (H : Hp) (C : Addr) (cl : List (PySem.Str × Addr)) (fp : List Addr), PTs (X.blk s H scope (compEnvC scope cl C X.env) fp) ifs tt)
    (he : ∀ (s : Shared) (H : Hp) (C : Addr) (cl : List (PySem.Str × Addr)) (fp : List Addr), PE (X.blk s H scope (compEnvC scope cl C X.env) fp) elt te) (hs : ∀ x, foldedSetIterable iter X.env x = pure x := by intro _; rfl) :
    PE X (.SetComp elt [⟨tg, iter, ifs, 0⟩] scope pos) (tSI X.w wi g tt te (own.map (·.2))) := by
  refine ⟨fun pins s σ H Q I h => ?_⟩
  rw [PpSet.eval_SetComp]
  have cells : ∀ y ∈ scope.names, y.2 = .free → ∃ c, X.env.cells.lookup y.1 = some c := fun y hy e => (ok.free y hy e).elim (fun k => I.ok.has _ (.inl k)) fun k => I.ok.has _ (.inr k)
  refine wpAny_comprehension_free (use := none) rfl hs (closure_ok cells) ok.kind (fun y hy e => by rw [ok.uniq y hy, e]) (thn (hi.run pins s σ H _ I h) fun xv s1 hx => thn hx fun itv sA hA => ?_)
  obtain ⟨it, fp, tn, J, HA, rfl, IA, T, stA, fA, q⟩ := hA
  refine PpSet.newSet_ok (newEnv_comp ?_)
  generalize hD : sA.heap.objs.size = D
  have freeD : HA D = none := IA.hok.fresh (Nat.le_of_eq hD)
  obtain ⟨W, ⟨m0, w0⟩, turn⟩ := q D freeD
  generalize eB : ({ sA with heap := sA.heap.push (nSet X.w) } : Shared) = sB
  have hB : sB.heap = sA.heap.push (nSet X.w) := by rw [← eB]
  have IB : Inv X pins σ (upd HA D (SI0 X.w D)) sB := by
    rw [← eB]
    refine IA.laid (t' := sA.toks) (fun b o e => Heap.get?_push_of_some _ e) (Nat.le_of_eq hD) ?_
    rw [← hD]
    exact setO_new (setR_fresh X.w)
  have small : ∀ b ∈ fp, b < sA.heap.objs.size := fun b hb => by
    obtain ⟨o, e, _⟩ := T.obj _ _ stA b hb
    exact Heap.lt_size e
  have fB : ∀ b ∈ fp, FpOk X pins (upd HA D (SI0 X.w D)) b ∧ b < sB.heap.objs.size := fun b hb => by
    have lt := small b hb
    refine ⟨⟨?_, (fA b hb).2⟩, by rw [hB, Heap.size_push]; exact Nat.lt_succ_of_lt lt⟩
    rw [upd_ne (by rw [← hD]; exact Nat.ne_of_lt lt)]
    exact (fA b hb).1
  have stB : tn 0 sB.heap := T.keep _ _ _ stA fun b _ o e => by rw [hB]; exact Heap.get?_push_of_some _ e
  have IC := block_start IB ok hN fB
  generalize eH : upd HA D (SI0 X.w D) = HB at IB IC w0 fB
  have noB : ∀ b ∈ fp, HB b = none := fun b hb => (fB b hb).1.1
  let C := sB.heap.objs.size
  let cls := cellsFrom (C + 1) scope.names (cloFrom X.env.cells scope.names [])
  have pg := hg sB HB C cls fp
  have pt := ht sB HB C cls fp
  have pe := he sB HB C cls fp
  show codeAny _ _ (.compStart (.SetComp elt [⟨tg, iter, ifs, 0⟩] scope pos) 0 (.ref it) (.ref D) (compEnvC scope cls C X.env)) (compPost (model X.prog X.w) X.A X.xe none (EP X pins σ Q) (.ref D) C) { sB with heap := pushCells (sB.heap.push { cls := .type "dict", data := .dict #[] }) scope.names }
  have locC : (compEnvC scope cls C X.env).locals = C := rfl
  generalize compEnvC scope cls C X.env = ce at IC pg pt pe locC ⊢
  generalize eS : ({ sB with heap := pushCells (sB.heap.push { cls := .type "dict", data := .dict #[] }) scope.names } : Shared) = sC at IC ⊢
  have stC : tn 0 sC.heap := T.keep _ _ _ stB fun b _ o e => by rw [← eS]; exact pushCells_keeps _ _ _ _ (Heap.get?_push_of_some _ e)
  have stays : ∀ {σ' : L2.St} {H' : Hp} {s' : Shared}, Inv (X.blk sB HB scope ce fp) [] σ' H' s' → (∀ b ∈ fp, H' b = none) → ∀ b ∈ fp, FpOk (X.blk sB HB scope ce fp) [] H' b := fun {σ' H' s'} I' nb b hb =>
    ⟨nb b hb, (I'.ok.exf b hb).1, I'.ok.exfs b hb, .inl hb, fun x c e => (I'.ok.exf b hb).2 x c e, fun p hp => absurd (show p ∈ ([] : List (Addr × Obj)) ++ [] from hp) (by simp)⟩
  have loop : codeAny (model X.prog X.w) X.A (.compLoop (.SetComp elt [⟨tg, iter, ifs, 0⟩] scope pos) 0 (.ref it) (.ref D) ce) (compPost (model X.prog X.w) X.A X.xe none (EP X pins σ Q) (.ref D) C) sC := by
    refine PpSet.compLoopS_any (fun n s' => ∃ i H', Inv (X.blk sB HB scope ce fp) [] (wipe σ (own.map (·.2))) H' s' ∧ tn i s'.heap ∧ (∀ b ∈ fp, H' b = none) ∧ W i n H') ?_ m0 ⟨0, HB, IC, stC, noB, w0⟩
    rintro n s5 ⟨i, H5, I5, st5, n5, w5⟩
    rcases turn i n H5 w5 with ⟨stop, ends⟩ | ⟨go, N, hNx, step⟩
    · refine thnF (T.done (X.blk sB HB scope ce fp) rfl rfl rfl hc i [] s5 _ H5 (fun _ _ => False) I5 (stays I5 n5) st5 stop) fun r s6 ⟨hr, I6⟩ => ?_
      subst hr
      have I7 : Inv X pins σ H5 s6 := IB.call' (ch := fp) I6.os I6.base I6.hok I6.bare fun b hb => ⟨(fB b hb).1.2.2.2.1, (fB b hb).1.2.1, (fB b hb).1.2.2.2.2.1, (fB b hb).1.2.2.2.2.2⟩
      have nC : H5 C = none := by
        have z : H5 ce.locals = none := I6.free
        rwa [locC] at z
      obtain ⟨m, hm, _⟩ := I6.loc
      have hm : s6.heap.Ns ce.locals m := hm
      rw [locC] at hm
      refine ⟨m, hm, fun h2 sb => ?_⟩
      obtain ⟨f0, f1, f2, f3, f4, f5⟩ := IB.fpOk (Nat.le_refl _) nC
      exact ⟨.ref D, H5, I7.turned (t' := s6.toks) (fun b o hb e => (sb.2 b hb).trans e) f0 f1 f3 f4 f5, rfl, ends⟩
    · refine thnF (T.item (X.blk sB HB scope ce fp) rfl rfl rfl hc i [] s5 _ H5 (fun _ _ => False) I5 (stays I5 n5) st5 go) fun r s6 ⟨u, hr, h6⟩ => ?_
      subst hr
      refine thnF h6 fun _ s7 ⟨x, H7, I7, r7, y7, st7, n7⟩ => ?_
      refine thnF (pg.run _ s7 _ H7 x u _ (I7.pinned (stays I7 n7) (T.obj _ _ st7)) r7 (step x H7 y7)) fun _ s8 ⟨σ8, H8, I8, hw8, q8⟩ => ?_
      refine thnF (pt.run _ s8 σ8 H8 _ I8 q8) fun b s9 ⟨H9, I9, q9⟩ => ?_
      have last : ∀ {s' : Shared} {H' : Hp}, Inv (X.blk sB HB scope ce fp) ([] ++ pinsAt fp s7.heap) σ8 H' s' → N H' → ∃ m, m < n ∧ ∃ i H', Inv (X.blk sB HB scope ce fp) [] (wipe σ (own.map (·.2))) H' s' ∧ tn i s'.heap ∧ (∀ b ∈ fp, H' b = none) ∧ W i m H' := fun {s' H'} I' nx => by
        obtain ⟨m', hm, w'⟩ := hNx H' nx
        have pin : ∀ b ∈ fp, ∀ o, s7.heap.get? b = some o → s'.heap.get? b = some o ∧ H' b = none := fun b hb o e => by
          have z := I'.pin (b, o) (List.mem_append_right _ (List.mem_append_right _ (mem_pinsAt hb e)))
          exact ⟨z.1, z.2.1⟩
        have hl : (wipe σ (own.map (·.2))).length = σ8.length := by rw [← hw8, wipe_length]
        refine ⟨m', hm, i + 1, H', (I'.unpinned (pins := [])).weak hl (fun j v e => ?_), T.keep _ _ _ st7 fun b hb o e => (pin b hb o e).1, fun b hb => ?_, w'⟩
        · rw [← hw8] at e
          exact (wipe_some e).1
        · obtain ⟨o, e, _⟩ := T.obj _ _ st7 b hb
          exact (pin b hb o e).2
      cases b with
      | false =>
        simp only [Bool.false_eq_true, if_false] at q9 ⊢
        exact last I9 q9
      | true =>
        simp only [if_true] at q9 ⊢
        refine thnF (pe.run _ s9 σ8 H9 _ I9 q9) fun z s10 ⟨yv, H10, I10, r10, c, S0, n0, ey, hD10, hz10, nx⟩ => ?_
        subst ey
        obtain ⟨tk, rfl⟩ := r10
        exact add_int (X := X.blk sB HB scope ce fp) I10 hD10 hz10 fun s11 I11 => last I11 nx
  exact PpSet.codeAny_compStart_set loop (T.self X.A 0 _ _ _ stC loop)
end
end VL

set_option Elab.async false
set_option linter.all false
set_option maxRecDepth 100000
set_option maxHeartbeats 2000000
namespace VL
open PySem PySem.Spec PyProof.Rows L2
/-! ### sorted({elt for x in it if ..}), len of it -/
def siGo (mt : D → Gm → Option Gm) (mc : Mt) (me : Me) (vs : List Nat) : List D → Gm → List Int → Option (List Int × Gm)
  | [], Γ, acc => some (acc, Γ)
  | d :: ds, Γ, acc => (lcTurn mt mc me d Γ).bind fun p => match p.1 with
    | none => siGo mt mc me vs ds (wipeG p.2 vs) acc
    | some (.int c) => siGo mt mc me vs ds (wipeG p.2 vs) (acc ++ [c])
    | _ => none
theorem si_it {J : It} {n : Nat} {Gd : Hp → Prop} {Y : Nat → Hp → V → Hp → Prop} (wk : Walk J n Gd Y) {w : World} {g : TG} {tt : TT} {te : TE} {vs : List Nat} {σ : L2.St} {H1 : Hp} {D : Addr} {Qd : Hp → Prop} (Pv : Nat → Hp → Prop) (h0 : Pv 0 (upd H1 D (SI0 w D))) (hG : ∀ i H, i ≤ n → Pv i H → Gd H)
    (hs : ∀ i x H H', i < n → Pv i H → Y i H x H' → g x (wipe σ vs) H' fun σ2 H2 => wipe σ2 vs = wipe σ vs ∧ tt σ2 H2 fun b H3 =>
      if b = true then te σ2 H3 fun y H4 => ∃ (c : Int) (S : Int → Bool) (n : Nat), y = .int c ∧ H4 D = some (SetO w D S n) ∧ n + 1 < scanBound ∧ Pv (i + 1) (upd H4 D (SI1 w D S n c)) else Pv (i + 1) H3) (hd : ∀ H, Pv n H → Qd H) :
    ∃ W : Nat → Nat → Hp → Prop, (∃ m, W 0 m (upd H1 D (SI0 w D))) ∧ ∀ i m H, W i m H →
      (J.stop i H ∧ Qd H) ∨ (J.go i H ∧ ∃ N : Hp → Prop, (∀ H', N H' → ∃ m', m' < m ∧ W (i + 1) m' H') ∧ ∀ x H', J.yld i H x H' → g x (wipe σ vs) H' fun σ2 H2 => wipe σ2 vs = wipe σ vs ∧ tt σ2 H2 fun b H3 =>
        if b = true then te σ2 H3 fun y H4 => ∃ (c : Int) (S : Int → Bool) (n : Nat), y = .int c ∧ H4 D = some (SetO w D S n) ∧ n + 1 < scanBound ∧ N (upd H4 D (SI1 w D S n c)) else N H3) := by
  refine ⟨fun i m H => m = n - i ∧ i ≤ n ∧ Pv i H, ⟨n, by simp, Nat.zero_le _, h0⟩, ?_⟩
  rintro i m H ⟨rfl, hi, p⟩
  have q := hG i H hi p
  by_cases hlt : i < n
  · exact .inr ⟨wk.goes i H hlt q, Pv (i + 1), fun H' p' => ⟨n - (i + 1), by omega, rfl, hlt, p'⟩, fun x H' y => hs i x H H' hlt p (wk.yields i H x H' hlt q y)⟩
  · have e : i = n := by omega
    subst e
    exact .inl ⟨wk.stops H q, hd H p⟩
section
variable {K : PySem.W.Frag}
/-- a set comprehension, and what is done with the set: r takes it, with members ms, and tells rr -/
def RSet (w : World) (K : PySem.W.Frag) (r : List V → Hp → VK → Prop) (f : List Int → Option Rr) : Prop := ∀ (G H : Hp) (D : Addr) (S : Int → Bool) (n : Nat) (ms : List Int) (rr : Rr), H D = some (SetO w D S n) → (∀ k, S k = true ↔ k ∈ ms) → n = (usI ms).length → f ms = some rr → ∀ Q : VK,
  (∀ v H', RrOk K G H v H' rr → Q v H') → r [.ref D] H Q
def mSI (f : List Int → Option Rr) (mi : Mi) (mt : D → Gm → Option Gm) (mc : Mt) (me : Me) (vs : List Nat) : Me := fun Γ => (mi Γ).bind fun p =>
  if hidOk p.2 vs && decide (p.1.length ≤ 1000) then (siGo mt mc me vs p.1 (wipeG p.2 vs) []).bind fun q => (f q.1).bind fun rr => some (fin rr, mergeG p.2 q.2 vs) else none
theorem te_si {w : World} {r : List V → Hp → VK → Prop} {f : List Int → Option Rr} (hr : RSet w K r f) {wi : TI} {g : TG} {tt : TT} {te : TE} {mi : Mi} {mt : D → Gm → Option Gm} {mc : Mt} {me : Me} {S vs : List Nat} (hi : ITok K wi mi) (hg : TGok K g mt S) (hc : TTok K tt mc) (he : TEok K te me) (hS : ∀ i ∈ S, i ∈ vs) :
    TEok K (tCB r (tCons (tSI w wi g tt te vs) tNil)) (mSI f mi mt mc me vs) := fun A F Γ rs Γ' e σ G H gs Q q => by
  obtain ⟨⟨ds, Γ1⟩, e1, e⟩ := obind e
  dsimp only at e
  split at e
  case isFalse => cases e
  rename_i hh
  obtain ⟨hid, hz⟩ := Bool.and_eq_true_iff.mp hh
  have hz := of_decide_eq_true hz
  obtain ⟨⟨out, Γb⟩, e2, e⟩ := obind e
  obtain ⟨rr, e3, e⟩ := obind e
  cases e
  refine hi A F Γ ds Γ1 e1 σ G H gs _ fun J G1 H1 Gd Y s1 g1 wk hGd hY => ?_
  intro Dl hD
  refine si_it wk (fun i Hi => ∃ Γi Gi S n ms, siGo mt mc me vs (ds.drop i) Γi ms = some (out, Γb) ∧ Same G1 Gi ∧ GS K A (upd F Dl (SetO w Dl S n)) Γi (wipe σ vs) Gi Hi ∧ (∀ k, S k = true ↔ k ∈ ms) ∧ n = (usI ms).length ∧ n ≤ i ∧ i ≤ ds.length) ?_ ?_ ?_ ?_
  · exact ⟨wipeG Γ1 vs, G1, _, _, [], by rw [List.drop_zero]; exact e2, Same.refl _, (g1.wiped vs).frameNew hD, fun k => by simp, rfl, Nat.le_refl _, Nat.zero_le _⟩
  · rintro i Hi _ ⟨Γi, Gi, S, n, ms, _, k2, k3, _⟩
    exact hGd Hi (k2.trans k3.ex)
  · rintro i x Hi H' hi ⟨Γi, Gi, S, n, ms, k1, k2, k3, k4, k5, k6, k7⟩ y
    obtain ⟨rv0, d, r1, r2, r3⟩ := hY i Hi x H' hi (k2.trans k3.ex) y
    have hlt := lt_of_get r3
    have hdrop : ds.drop i = d :: ds.drop (i + 1) := by
      rw [List.drop_eq_getElem_cons hlt]
      congr 1
      exact Option.some.inj ((List.getElem?_eq_getElem hlt).symm.trans r3)
    rw [hdrop] at k1
    obtain ⟨⟨od, Γt⟩, t1, k1⟩ := obind k1
    obtain ⟨Γ2, t2, t1⟩ := obind t1
    obtain ⟨⟨b, Γ3⟩, t3, t1⟩ := obind t1
    obtain ⟨G2, s2, g2, h2⟩ := item_ok k3 (r1.mono k2) r2
    refine hg A _ Γi d Γ2 t2 (wipe σ vs) G2 H' x g2 h2 _ fun σ3 g3 w3 => ?_
    have w3' := w3 vs hS
    rw [wipe_wipe] at w3'
    refine ⟨w3', ?_⟩
    refine hc A _ Γ2 b Γ3 t3 σ3 G2 H' g3 _ fun G4 H4 s4 g4 => ?_
    cases b with
    | false =>
      have t1 : some (none, Γ3) = some (od, Γt) := t1
      cases t1
      refine iteF ⟨wipeG Γt vs, G4, S, n, ms, k1, (k2.trans s2).trans s4, ?_, k4, k5, by omega, by omega⟩
      have := g4.wiped vs
      rw [w3'] at this
      exact this
    | true =>
      have t1 : ((me Γ3).bind fun q => (frz q.2 q.1).bind fun u => some (some u.1, u.2)) = some (od, Γt) := t1
      obtain ⟨⟨rv, Γ5⟩, t5, t1⟩ := obind t1
      obtain ⟨⟨dv, Γ6⟩, t6, t1⟩ := obind t1
      cases t1
      refine iteT (he A _ Γ3 rv Γ5 t5 σ3 G4 H4 g4 _ fun y G5 H5 s5 g5 h5 => ?_)
      obtain ⟨G6, s6, g6, h6⟩ := frz_ok g5 h5 t6
      cases dv with
      | int c =>
        cases h6
        have bnd : n + 1 < scanBound := Nat.lt_of_le_of_lt (show n + 1 ≤ 1002 by omega) (by decide)
        refine ⟨c, S, n, rfl, g6.fr Dl _ upd_same, bnd, ?_⟩
        have mem : ∀ k, (S k || decide (k = c)) = true ↔ k ∈ ms ++ [c] := fun k => by
          rw [Bool.or_eq_true, k4, decide_eq_true_eq, List.mem_append, List.mem_singleton]
        have num : (if S c = true then n else n + 1) = (usI (ms ++ [c])).length := by
          by_cases hc' : S c = true
          · rw [if_pos hc', k5]
            congr 1
            exact usI_same fun k => ⟨fun hk => List.mem_append_left _ hk, fun hk => by
              rcases List.mem_append.mp hk with hk | hk
              · exact hk
              · rw [List.mem_singleton.mp hk]
                exact (k4 c).mp hc'⟩
          · rw [if_neg hc', k5]
            have nc : c ∉ ms := fun z => hc' ((k4 c).mpr z)
            have e9 : usI (ms ++ [c]) = insU c (usI ms) := (usI_eq (insU_pair (usI_pair ms)) fun k => by rw [insU_mem, usI_mem, List.mem_append, List.mem_singleton]; exact Or.comm).symm
            rw [e9]
            have : ∀ l : List Int, c ∉ l → (insU c l).length = l.length + 1 := fun l => by
              induction l with
              | nil => exact fun _ => rfl
              | cons j l ih =>
                intro hn
                unfold insU
                split
                · rfl
                · split
                  · rename_i e
                    exact absurd (by rw [e]; exact List.mem_cons_self ..) hn
                  · show (insU c l).length + 1 = _
                    rw [ih fun z => hn (List.mem_cons_of_mem _ z)]
                    rfl
            rw [this _ fun z => nc (usI_mem.mp z)]
        refine ⟨wipeG Γ6 vs, G6, _, _, ms ++ [c], k1, ((k2.trans s2).trans s4).trans (s5.trans s6), ?_, mem, num, ?_, by omega⟩
        · have := (g6.wiped vs).frameSet (o' := SI1 w Dl S n c)
          rw [w3'] at this
          exact this
        · split <;> omega
      | _ => cases k1
  · rintro H9 ⟨Γi, Gi, S, n, ms, k1, k2, k3, k4, k5, _⟩
    rw [List.drop_length] at k1
    cases k1
    have g9 := k3.frameDrop (free_F g1 hD)
    have gm := g1.merged hid g9 k2
    refine hr Gi H9 Dl S n _ rr (k3.fr Dl _ upd_same) k4 k5 e3 Q fun v H' hrr => ?_
    obtain ⟨G3, s3, g3, h3⟩ := fin_ok gm hrr
    exact q v G3 H' ((s1.trans k2).trans s3) g3 h3
def fSortU (ms : List Int) : Option Rr := if (usI ms).length < 64 then some (.fr (il (usI ms))) else none
theorem rs_sorted {w : World} : RSet w K (rSortedSet w) fSortU := fun G H D S n ms rr e k4 k5 ef Q q => by
  unfold fSortU at ef
  by_cases hz : (usI ms).length < 64
  · rw [if_pos hz] at ef
    cases ef
    refine ⟨D, S, n, rfl, e, by omega, fun ns p m1 m2 m3 hp => ?_⟩
    have em : ns = usI ms := usI_eq m1 fun k => by rw [m2 k, k4 k]
    subst em
    exact q _ _ ⟨p, _, rfl, hp, rfl, ints_dvA _⟩
  · rw [if_neg hz] at ef
    cases ef
end
end VL

set_option Elab.async false
set_option linter.all false
set_option maxRecDepth 100000
set_option maxHeartbeats 2000000
namespace VL
open PySem PySem.Spec PyProof.Rows L2
/-! ### lists and tuples as tests -/
def truD : D → Option Bool
  | .list ds => some (!ds.isEmpty)
  | .none => some false
  | .bool b => some b
  | .int i => some (i != 0)
  | _ => none
def mTru (me : Me) : Mt := fun Γ => (me Γ).bind fun p => (peek p.2 p.1).bind fun d => (truD d).bind fun b => some (b, p.2)
section
variable {K : PySem.W.Frag}
theorem tt_tru {te : TE} {me : Me} (h : TEok K te me) : TTok K (fun σ H Q => te σ H fun x H' => ∃ k, TruV K x H' k ∧ Q k H') (mTru me) := fun A F Γ b Γ' e σ G H g Q q => by
  obtain ⟨⟨r, Γ1⟩, e1, e⟩ := obind e
  obtain ⟨d, e2, e⟩ := obind e
  obtain ⟨c, e3, e⟩ := obind e
  cases e
  refine h A F Γ r _ e1 σ G H g _ fun v G1 H1 s1 g1 h1 => ?_
  have k := peek_ok g1 h1 e2
  refine ⟨b, ?_, q G1 H1 s1 g1⟩
  cases d with
  | list ds =>
    obtain ⟨a, xs, rfl, k1, k2⟩ := k
    cases e3
    refine .inl ⟨xs, k1, ?_⟩
    have := k2.length
    cases xs <;> cases ds <;> first | rfl | cases this
  | none =>
    cases e3
    cases k
    rfl
  | bool c =>
    cases e3
    cases k
    rfl
  | int i =>
    cases e3
    cases k
    rfl
  | _ => cases e3
end
end VL

set_option Elab.async false
set_option linter.all false
set_option maxRecDepth 100000
set_option maxHeartbeats 2000000
namespace VL
open PySem PySem.Spec PyProof.Rows L2 StX
/-! ### (.., *xs), len of sets of ints, x is True -/
def starR : D → Option (List D)
  | .list ds => some ds
  | .tuple ds => some ds
  | _ => none
def mStar (me : Me) (ma : Ma) : Ma := fun Γ => (me Γ).bind fun p => (frz p.2 p.1).bind fun u => (starR u.1).bind fun ds => (ma u.2).bind fun q => some (ds.map .im ++ q.1, q.2)
section
variable {K : PySem.W.Frag}
theorem rsA_im {F : Hp} {Γ : Gm} {σ : L2.St} {G H : Hp} : ∀ {xs : List V} {ds : List D}, DvA K G xs ds → RsA K F Γ σ G H xs (ds.map .im)
  | _, _, .nil => .nil
  | _, _, .cons h t => RsA.cons (r := .im _) h (rsA_im t)
theorem rsA_app {F : Hp} {Γ : Gm} {σ : L2.St} {G H : Hp} {ys : List V} {ss : List Rs} (k : RsA K F Γ σ G H ys ss) : ∀ {xs : List V} {rs : List Rs}, RsA K F Γ σ G H xs rs → RsA K F Γ σ G H (xs ++ ys) (rs ++ ss)
  | _, _, .nil => k
  | _, _, .cons h t => .cons h (rsA_app k t)
theorem ta_star {te : TE} {ta : TA} {me : Me} {ma : Ma} (h : TEok K te me) (k : TAok K ta ma) : TAok K (tStar K te ta) (mStar me ma) := fun A F Γ rs Γ' e σ G H g Q q => by
  obtain ⟨⟨r, Γ1⟩, e1, e⟩ := obind e
  obtain ⟨⟨d, Γ2⟩, e2, e⟩ := obind e
  obtain ⟨ds, e3, e⟩ := obind e
  obtain ⟨⟨r2, Γ3⟩, e4, e⟩ := obind e
  cases e
  refine h A F Γ r Γ1 e1 σ G H g _ fun v G1 H1 s1 g1 h1 => ?_
  obtain ⟨G2, s2, g2, h2⟩ := frz_ok g1 h1 e2
  cases d with
  | list es =>
    cases e3
    cases h2 with
    | lst k1 k2 =>
      refine ⟨_, _, rfl, .inr (g2.ex.seq k1), k A F Γ2 r2 _ e4 σ G2 H1 g2 _ fun ys G3 H3 s3 g3 h3 => ?_⟩
      exact q _ G3 H3 ((s1.trans s2).trans s3) g3 (rsA_app h3 (rsA_im (k2.mono s3)))
  | tuple es =>
    cases e3
    cases h2 with
    | tup k1 k2 =>
      refine ⟨_, _, rfl, .inl (sqt_mono g2.ex k1), k A F Γ2 r2 _ e4 σ G2 H1 g2 _ fun ys G3 H3 s3 g3 h3 => ?_⟩
      exact q _ G3 H3 ((s1.trans s2).trans s3) g3 (rsA_app h3 (rsA_im (k2.mono s3)))
  | _ => cases e3
end
/-! len -/
theorem setR_count {w : World} {h : Heap} {a : Addr} {S : Int → Bool} {n : Nat} {ms : List Int} (R : SetR w h a S n) (hm : ∀ k, S k = true ↔ k ∈ ms) : n = (usI ms).length := by
  obtain ⟨o, es, ep, t, _, _, _, _, nd, mem, _, _, hn, _⟩ := R
  have nu : (usI ms).Nodup := (usI_pair ms).imp fun h z => by rw [z] at h; exact Int.lt_irrefl _ h
  have p := (List.perm_ext_iff_of_nodup nd nu).mpr fun k => by rw [← mem k, hm k, usI_mem]
  have := p.length_eq
  rw [List.length_map, Array.length_toList] at this
  omega
def rLenSet (w : World) : List V → Hp → VK → Prop := fun vs H Q => ∃ (a : Addr) (S : Int → Bool) (n : Nat), vs = [.ref a] ∧ H a = some (SetO w a S n) ∧ n < 1000000 ∧ Q (.int n) H
section
variable {X : Cx}
theorem cr_lenSet : CallR X (.builtin "len") (rLenSet X.w) := by
  intro pins s σ H vs us Q I r h
  obtain ⟨a, S, n, rfl, ha, hz, q⟩ := h
  rw [Vals.ref1 r]
  obtain ⟨o, es, ep, t, ho, hx, hd, _, _, _, _, hf, hn, _⟩ := setO_get I ha
  refine call_len_set ho hx hd hf (by rw [hn]; omega) ?_
  refine ⟨.int n, H, I.tok _, ⟨_, by rw [hn]⟩, q⟩
def rSetC (w : World) (K : PySem.W.Frag) : List V → Hp → VK → Prop := fun vs H Q => ∃ (a : Addr) (ns : List Int), vs = [.ref a] ∧ SqL K H a (ns.map V.int) ∧ ns.length + 1 < scanBound ∧ ∀ (p : Addr), H p = none → Q (.ref p) (upd H p (SetO w p (fun j => decide (j ∈ ns)) (usI ns).length))
theorem c_setC (hc : X.calm = true) : CallR X (.type "set") (rSetC X.w X.K) := by
  intro pins s σ H vs us Q I r h
  obtain ⟨a, ns, rfl, hs, hb, q⟩ := h
  rw [Vals.ref1 r]
  obtain ⟨its, rv, pl, _⟩ := I.list hs
  refine set_list ns (I.ok.hd hc) pl.isList (by simpa using ints_of_vals rv) hb fun g tk c w1 w2 w3 => ?_
  have hn : H s.heap.objs.size = none := I.hok.fresh (Nat.le_refl _)
  have ec : c = (usI ns).length := setR_count w1 fun k => by rw [decide_eq_true_eq]
  subst ec
  have J : Inv X pins σ (upd H s.heap.objs.size (SetO X.w s.heap.objs.size (fun j => decide (j ∈ ns)) (usI ns).length)) { s with heap := g, gens := s.gens, drawn := s.drawn, toks := tk } :=
    I.call (ch := []) (Un.laid w3 (Nat.le_refl _) hn) (I.hok.laid w3 (Nat.le_refl _) (setO_new w1)) I.bare (fun _ z => nomatch z)
  exact ⟨.ref s.heap.objs.size, _, J, rfl, q _ hn⟩
end
section
variable {K : PySem.W.Frag}
def fLenU (ms : List Int) : Option Rr := if (usI ms).length < 1000000 then some (.im (.int (usI ms).length)) else none
theorem rs_len {w : World} : RSet w K (rLenSet w) fLenU := fun G H D S n ms rr e k4 k5 ef Q q => by
  unfold fLenU at ef
  by_cases hz : (usI ms).length < 1000000
  · rw [if_pos hz] at ef
    cases ef
    exact ⟨D, S, n, rfl, e, by omega, q _ H ⟨rfl, by rw [k5]; exact .int _⟩⟩
  · rw [if_neg hz] at ef
    cases ef
def mLenSet (me : Me) : Me := fun Γ => (me Γ).bind fun p => (peek p.2 p.1).bind fun d => (intsD d).bind fun ns => if ns.length < 1000 then some (.im (.int (usI ns).length), p.2) else none
theorem te_lenSet {w : World} {te : TE} {me : Me} (h : TEok K te me) : TEok K (tCB (rLenSet w) (tCons (tCB (rSetC w K) (tCons te tNil)) tNil)) (mLenSet me) := fun A F Γ rs Γ' e σ G H g Q q => by
  obtain ⟨⟨r, Γ1⟩, e1, e⟩ := obind e
  obtain ⟨d, e2, e⟩ := obind e
  obtain ⟨ns, e3, e⟩ := obind e
  by_cases hz : ns.length < 1000
  case neg =>
    have e : (if ns.length < 1000 then some (Rs.im (.int (usI ns).length), Γ1) else none) = some (rs, Γ') := e
    rw [if_neg hz] at e
    cases e
  have e : (if ns.length < 1000 then some (Rs.im (.int (usI ns).length), Γ1) else none) = some (rs, Γ') := e
  rw [if_pos hz] at e
  cases e
  refine h A F Γ r _ e1 σ G H g _ fun v G1 H1 s1 g1 h1 => ?_
  have k := peek_ok g1 h1 e2
  have ul : ∀ l : List Int, (usI l).length ≤ l.length := fun l => by
    have ins : ∀ (k : Int) (l : List Int), (insU k l).length ≤ l.length + 1 := fun k l => by
      induction l with
      | nil => exact Nat.le_refl _
      | cons j l ih =>
        unfold insU
        split
        · exact Nat.le_refl _
        · split
          · exact Nat.le_succ _
          · exact Nat.succ_le_succ ih
    induction l with
    | nil => exact Nat.le_refl _
    | cons k l ih => exact Nat.le_trans (ins k (usI l)) (Nat.succ_le_succ ih)
  cases d with
  | list ds =>
    obtain ⟨a, xs, rfl, k1, k2⟩ := k
    have ex := intsOf_vals k2 e3
    subst ex
    refine ⟨a, ns, rfl, k1, Nat.lt_of_le_of_lt (Nat.succ_le_of_lt hz) (by decide), fun p hp => ?_⟩
    have := ul ns
    refine ⟨p, _, _, rfl, upd_same, by omega, ?_⟩
    exact q _ G1 _ s1 (g1.new (o := SetO w p (fun j => decide (j ∈ ns)) (usI ns).length) hp) (.int _)
  | _ => cases e3
end
/-! x is True -/
section
variable {X : Cx}
theorem op_isB : OpR X (compareOp .Is) (fun x y H Q => ∃ a b : Bool, x = .bl a ∧ y = .bl b ∧ Q (.bl (a == b)) H) := by
  intro pins s σ H x y v u Q I rx ry h
  obtain ⟨a, b, rfl, rfl, q⟩ := h
  cases rx
  cases ry
  show wpAny _ _ ((isSame (Value.bool a) (Value.bool b)) >>= fun z => pure (Value.bool z)) _ _ s
  exact wpAny_bind (wpAny_isSame_plain rfl (wpAny_pure (fin_bl I q (by cases a <;> cases b <;> rfl))))
theorem op_isntB : OpR X (compareOp .IsNot) (fun x y H Q => ∃ a b : Bool, x = .bl a ∧ y = .bl b ∧ Q (.bl (a != b)) H) := by
  intro pins s σ H x y v u Q I rx ry h
  obtain ⟨a, b, rfl, rfl, q⟩ := h
  cases rx
  cases ry
  show wpAny _ _ ((isSame (Value.bool a) (Value.bool b)) >>= fun z => pure (Value.bool (!z))) _ _ s
  exact wpAny_bind (wpAny_isSame_plain rfl (wpAny_pure (fin_bl I q (by cases a <;> cases b <;> rfl))))
def gIsB : D → D → Option Bool
  | .bool a, .bool b => some (a == b)
  | _, _ => none
def gIsntB : D → D → Option Bool
  | .bool a, .bool b => some (a != b)
  | _, _ => none
theorem d_isB {X : Cx} : OpR X (compareOp .Is) (rS2 X.K (bl2 gIsB)) := OpR.to op_isB fun x y H Q ⟨d, e, z, h1, h2, h3, q⟩ => by
  cases d <;> cases e <;> first
    | (cases h1; cases h2; cases h3; exact ⟨_, _, rfl, rfl, q⟩)
    | (cases h3; done)
theorem d_isntB {X : Cx} : OpR X (compareOp .IsNot) (rS2 X.K (bl2 gIsntB)) := OpR.to op_isntB fun x y H Q ⟨d, e, z, h1, h2, h3, q⟩ => by
  cases d <;> cases e <;> first
    | (cases h1; cases h2; cases h3; exact ⟨_, _, rfl, rfl, q⟩)
    | (cases h3; done)
end
end VL

set_option Elab.async false
set_option linter.all false
set_option maxRecDepth 100000
namespace VL
open PySem PySem.Spec PyProof.Rows L2
theorem fm_if {α : Type} (q : α → Bool) (e : α → D) : ∀ l : List α, l.filterMap (fun k => if q k then some (e k) else none) = (l.filter q).map e
  | [] => rfl
  | k :: l => by
    by_cases h : q k = true
    · rw [List.filter_cons_of_pos h, List.filterMap_cons_some (by rw [if_pos h]), fm_if q e l]
      rfl
    · rw [List.filter_cons_of_neg h, List.filterMap_cons_none (by rw [if_neg h]), fm_if q e l]
theorem enum_r (gl : List D) : enumD gl = (List.range gl.length).map fun k => .tuple [.int (k : Int), gl.getD k .none] := by
  unfold enumD
  apply List.ext_getElem?
  intro i
  rw [List.getElem?_map, List.getElem?_map, List.getElem?_zipIdx]
  by_cases h : i < gl.length
  · rw [List.getElem?_range h, List.getElem?_eq_getElem h]
    simp [List.getD_eq_getElem?_getD, List.getElem?_eq_getElem h]
  · rw [List.getElem?_eq_none (by omega), List.getElem?_eq_none (by rw [List.length_range]; omega)]
    rfl
theorem enum_mem {gl : List D} {d : D} (h : d ∈ enumD gl) : ∃ k : Nat, k < gl.length ∧ d = .tuple [.int (k : Int), gl.getD k .none] := by
  rw [enum_r] at h
  obtain ⟨k, hk, rfl⟩ := List.mem_map.mp h
  exact ⟨k, List.mem_range.mp hk, rfl⟩
theorem enum_fm {p : Int → Bool} {f : D → Option D} {gl : List D} (h : ∀ k : Nat, k < gl.length → f (.tuple [.int (k : Int), gl.getD k .none]) = if p (k : Int) then some (.int (k : Int)) else none) : (enumD gl).filterMap f = il ((rgI gl.length).filter p) := by
  rw [enum_r, List.filterMap_map]
  have cg : ∀ l : List Nat, (∀ k ∈ l, k < gl.length) → l.filterMap (f ∘ fun k : Nat => PyData.tuple [.int (k : Int), gl.getD k .none]) = l.filterMap (fun k : Nat => if (fun k : Nat => p (k : Int)) k then some ((fun k : Nat => PyData.int (k : Int)) k) else none) := fun l => by
    induction l with
    | nil => exact fun _ => rfl
    | cons k l ih =>
      intro hl
      have e := h k (hl k (List.mem_cons_self ..))
      have ih := ih fun j hj => hl j (List.mem_cons_of_mem _ hj)
      have e' : (f ∘ fun k : Nat => PyData.tuple [.int (k : Int), gl.getD k .none]) k = if p (k : Int) then some (.int (k : Int)) else none := e
      by_cases hp : p (k : Int) = true
      · rw [if_pos hp] at e'
        rw [List.filterMap_cons_some e', ih, List.filterMap_cons_some (by show (if p (k : Int) = true then _ else _) = _; rw [if_pos hp])]
      · rw [if_neg hp] at e'
        rw [List.filterMap_cons_none e', ih, List.filterMap_cons_none (by show (if p (k : Int) = true then _ else _) = _; rw [if_neg hp])]
  have e1 := cg (List.range gl.length) fun k hk => List.mem_range.mp hk
  rw [e1, fm_if]
  unfold il rgI
  rw [List.filter_map, List.map_map]
  have e2 : (p ∘ fun (i : Nat) => (0 : Int) + (i : Int)) = fun k : Nat => p (k : Int) := by
    funext i
    show p ((0 : Int) + (i : Int)) = p (i : Int)
    rw [Int.zero_add]
  rw [e2]
  apply List.map_congr_left
  intro a _
  show PyData.int (a : Int) = .int ((0 : Int) + (a : Int))
  rw [Int.zero_add]
theorem enum_len (gl : List D) : (enumD gl).length = gl.length := by
  rw [enum_r, List.length_map, List.length_range]
theorem il_len (ns : List Int) : (il ns).length = ns.length := List.length_map ..
theorem filter_len (p : Int → Bool) (n : Nat) : ((rgI n).filter p).length ≤ n := by
  have := List.length_filter_le p (rgI n)
  rw [rgI_len] at this
  exact this
/-- a set comprehension that leaves the slots as they are -/
theorem si_one {f : List Int → Option Rr} {mi : Mi} {mt : D → Gm → Option Gm} {mc : Mt} {me : Me} {vs : List Nat} {Γ Γ1 : Gm} {ns : List Int} {rr : Rr} (g : Int → Option Int) (h1 : mi Γ = some (il ns, Γ1)) (h2 : hidOk Γ1 vs = true) (h3 : ns.length ≤ 1000)
    (h : ∀ k ∈ ns, ∃ Γ2, lcTurn mt mc me (.int k) (wipeG Γ1 vs) = some ((g k).map .int, Γ2) ∧ wipeG Γ2 vs = wipeG Γ1 vs) (hf : f (ns.filterMap g) = some rr) : mSI f mi mt mc me vs Γ = some (fin rr, mergeG Γ1 (wipeG Γ1 vs) vs) := by
  have go : ∀ (l acc : List Int), (∀ k ∈ l, k ∈ ns) → siGo mt mc me vs (il l) (wipeG Γ1 vs) acc = some (acc ++ l.filterMap g, wipeG Γ1 vs) := fun l => by
    induction l with
    | nil => exact fun acc _ => by rw [List.filterMap_nil, List.append_nil]; rfl
    | cons k l ih =>
      intro acc hl
      obtain ⟨Γ2, e1, e2⟩ := h k (hl k (List.mem_cons_self ..))
      have ih2 := fun acc => ih acc fun j hj => hl j (List.mem_cons_of_mem _ hj)
      show (lcTurn mt mc me (.int k) (wipeG Γ1 vs)).bind _ = _
      rw [e1]
      cases hg : g k with
      | none =>
        rw [List.filterMap_cons_none hg, ← ih2 acc, ← e2]
        rw [e2]
        show siGo mt mc me vs (il l) (wipeG Γ2 vs) acc = _
        rw [e2]
      | some c =>
        rw [List.filterMap_cons_some hg]
        show siGo mt mc me vs (il l) (wipeG Γ2 vs) (acc ++ [c]) = _
        rw [e2, ih2 (acc ++ [c]), List.append_assoc]
        rfl
  unfold mSI
  rw [h1]
  have hz : (il ns).length ≤ 1000 := by rw [il_len]; exact h3
  simp only [Option.bind_some, h2, Bool.true_and, decide_eq_true hz, if_true, go ns [] fun _ h => h, List.nil_append, hf]
end VL

set_option Elab.async false
set_option linter.all false
set_option maxRecDepth 100000
set_option maxHeartbeats 2000000
namespace VL
open PySem PySem.Spec PyProof.Rows L2
/-! ### set - set of ints: the machine -/
section
variable {P : Program} {w : World} {A : Around} {E : Value → Shared → Prop} {s : Shared} {a b : Addr} {S T : Int → Bool} {n m : Nat}
theorem setR_type (R : SetR w s.heap a S n) : s.TypeIs (.ref a) "set" := by
  obtain ⟨o, es, ep, t, ho, hx, _⟩ := R
  exact ⟨o, ho, hx.1⟩
theorem anySet_at (R : SetR w s.heap a S n) {Q : Bool → Shared → Prop} (h : Q true s) : wpAny (model P w) A (Builtin.Frozenset.isAnySet (.ref a)) Q E s := by
  have hT := setR_type R
  have hs := sub_set_self
  obtain ⟨hp, g, d, tk, os⟩ := s
  unfold Builtin.Frozenset.isAnySet orM
  wp_walk
  try exact h
theorem entries_at (R : SetR w s.heap a S n) {Q : Array (Int × Value) → Shared → Prop} (h : ∀ es ep t, SetAt s.heap a es ep t → (∀ e ∈ es.toList, GoodE e) → (es.toList.map keyOf).Nodup → (∀ k, S k = true ↔ k ∈ es.toList.map keyOf) → es.size = n → Q es s) : wpAny (model P w) A (setEntries a) Q E s := by
  obtain ⟨o, es, ep, t, ho, hx, hd, g, nd, hm, hb, hf, hn, _⟩ := R
  unfold setEntries
  refine wpAny_bind (wpAny_setState_of ho hd hf (wpAny_pure ?_))
  exact h es ep t ⟨o, ho, hx.1, hd⟩ g nd hm hn
theorem size_at (R : SetR w s.heap a S n) {Q : Nat → Shared → Prop} (h : Q n s) : wpAny (model P w) A (Builtin.Frozenset.sizeOf a) Q E s := by
  unfold Builtin.Frozenset.sizeOf
  exact wpAny_bind (entries_at R fun es ep t _ _ _ _ e => wpAny_pure (by rw [e]; exact h))
end
end VL

set_option Elab.async false
set_option linter.all false
set_option maxRecDepth 100000
set_option maxHeartbeats 2000000
namespace VL
open PySem PySem.Spec PyProof.Rows L2
section
variable {P : Program} {w : World} {A : Around} {E : Value → Shared → Prop} {s : Shared} {a b : Addr} {S T : Int → Bool} {n m : Nat}
theorem walk_at {o : Obj} {es : Array (Int × Value)} {ep : Nat} {t : SetTable} (ho : s.heap.get? a = some o) (hd : o.data = .set es ep t) (hf : t.fits es.size = true) (hl : w.params.followText "set-order" = true ∨ t.led = true) {Q : Array (Int × Value) → Shared → Prop}
    (h : ∀ ys d, ys.toList.Perm es.toList → Q ys { s with drawn := d }) : wpAny (model P w) A (setWalk a) Q E s := by
  unfold setWalk
  refine wpAny_bind (wpAny_setState_of ho hd hf ?_)
  dsimp only
  refine wpAny_bind (wpAny_byText ?_)
  by_cases hb : w.params.followText "set-order" = true
  · refine wp_if_pos hb ?_
    refine wpAny_bind (wpAny_askSetting (wpAny_pure ?_))
    exact h _ s.drawn (pick_perm _ _)
  · refine wp_if_neg hb ?_
    try refine wpAny_bind (wpAny_pure ?_)
    by_cases hdr : (!t.plain && decide (es.size > 1)) = true
    · refine wp_if_pos hdr ?_
      refine wpAny_bind (drawOrder_at _ _ _ _ (by rw [Array.length_toList]; exact Nat.le_refl _) fun ys d p => wpAny_pure ?_)
      exact h _ d (by simpa using p)
    · refine wp_if_neg hdr ?_
      try refine wpAny_bind (wpAny_pure ?_)
      refine wpAny_bind (wpAny_of_eq (a := ()) ?_ ?_)
      · show (if (!t.led && decide (es.size > 1)) = true then unsupported "set:maker-not-led" else pure ()) = pure ()
        rw [hl.resolve_left hb]
        rfl
      · exact wpAny_pure (h es s.drawn (List.Perm.refl _))
theorem quiet_at : ∀ {l : List Addr} {Q : Bool → Shared → Prop}, (∀ x ∈ l, ∃ S n, SetR w s.heap x S n) → (∀ k, Q k s) → wpAny (model P w) A (setsQuiet l) Q E s := by
  intro l Q hl h
  unfold setsQuiet
  wp_walk using wpAny_forIn_list _ (fun rest b s' => s' = s ∧ b.1 = none ∧ ∀ x ∈ rest, ∃ S n, SetR w s.heap x S n) _
  case turn =>
    rintro x rest b s' ⟨rfl, hb, hr⟩
    obtain ⟨S, n, R⟩ := hr x (List.mem_cons_self ..)
    refine wpAny_bind (entries_at R fun es ep t _ g _ _ _ => ?_)
    refine wpAny_bind (PySem.MeetsSeq2.wpAny_forIn_array _ (fun rest b s'' => s'' = s' ∧ b.1 = none ∧ ∀ e ∈ rest, GoodE e) _ ?_ ?_ _ _ ⟨rfl, rfl, g⟩)
    · rintro ⟨e1, e2⟩ rest2 b2 s'' ⟨rfl, hb2, hg2⟩
      obtain ⟨k, tk, hk, _⟩ := hg2 _ (List.mem_cons_self ..)
      dsimp only at hk
      subst hk
      exact wpAny_pure ⟨rfl, rfl, fun e he => hg2 e (List.mem_cons_of_mem _ he)⟩
    · rintro ⟨b1, b2⟩ s'' ⟨rfl, hb2, _⟩
      dsimp only at hb2
      subst hb2
      exact wpAny_pure ⟨rfl, rfl, fun y hy => hr y (List.mem_cons_of_mem _ hy)⟩
  case fin =>
    rintro ⟨b1, b2⟩ s' ⟨rfl, hb, _⟩
    dsimp only at hb
    subst hb
    exact wpAny_pure (h true)
  case h => exact ⟨rfl, rfl, hl⟩
/-- the entries of a set in some order; the filled set may be marked -/
theorem unseen_at {r : Addr} {S' : Int → Bool} {n' : Nat} {others : List Addr} (R : SetR w s.heap a S n) (Rr : SetR w s.heap r S' n') (ho' : ∀ x ∈ others, ∃ S n, SetR w s.heap x S n) (ne : r ≠ a) {Q : Array (Int × Value) → Shared → Prop}
    (h : ∀ ys h' d, (∀ e ∈ ys.toList, GoodE e) → (ys.toList.map keyOf).Nodup → (∀ k, S k = true ↔ k ∈ ys.toList.map keyOf) → ys.size = n → Heap.SameBut r s.heap h' → SetR w h' r S' n' → Q ys { s with heap := h', drawn := d }) :
    wpAny (model P w) A (setWalkUnseen a others (some r)) Q E s := by
  have R0 := R
  obtain ⟨o, es, ep, t, ho, hx, hd, g, nd, hm, hb, hf, hn, hr, hl⟩ := R
  have done : ∀ ys : Array (Int × Value), ys.toList.Perm es.toList → (∀ e ∈ ys.toList, GoodE e) ∧ (ys.toList.map keyOf).Nodup ∧ (∀ k, S k = true ↔ k ∈ ys.toList.map keyOf) ∧ ys.size = n := fun ys p =>
    ⟨fun e he => g e (p.mem_iff.mp he), (p.map keyOf).nodup_iff.mpr nd, fun k => (hm k).trans (p.map keyOf).mem_iff.symm, by rw [← Array.length_toList, p.length_eq, Array.length_toList, hn]⟩
  have wk : wpAny (model P w) A (setWalk a) Q E s := walk_at ho hd hf hl fun ys d p => by
    obtain ⟨d1, d2, d3, d4⟩ := done ys p
    exact h ys s.heap d d1 d2 d3 d4 (Heap.SameBut.refl _ _) Rr
  unfold setWalkUnseen
  refine wpAny_bind (wpAny_setState_of ho hd hf ?_)
  dsimp only
  refine wpAny_bind (wpAny_byText ?_)
  by_cases hc : ((w.params.followText "set-order" || (t.led && t.plain)) || decide (es.size ≤ 1)) = true
  · refine wp_if_pos hc ?_
    exact wk
  · refine wp_if_neg hc ?_
    try refine wpAny_bind (wpAny_pure ?_)
    refine wpAny_bind (quiet_at (l := a :: others) (fun x hx => (List.mem_cons.mp hx).elim (fun z => by subst z; exact ⟨S, n, R0⟩) (ho' x)) fun k => ?_)
    cases k with
    | false =>
      refine wp_if_pos (by rfl) ?_
      exact wk
    | true =>
      refine wp_if_neg (by simp) ?_
      try refine wpAny_bind (wpAny_pure ?_)
      refine wpAny_bind (wpAny_rule ?_)
      obtain ⟨d1, d2, d3, d4⟩ := done es (List.Perm.refl _)
      obtain ⟨of, ef, epf, tf, hof, hxf, hdf, gf, ndf, hmf, hbf, hff, hnf, hrf, hlf⟩ := Rr
      refine wpAny_bind (wpAny_setState_of hof hdf hff ?_)
      dsimp only
      by_cases hs : ((tf.led && !t.led) || (tf.plain && !t.plain)) = true
      · refine wp_if_pos hs ?_
        refine wpAny_bind (wpAny_storeSet_of hof hdf ?_ (fits_of_scanBound hbf))
        refine wpAny_pure ?_
        refine h es _ s.drawn d1 d2 d3 d4 (Heap.SameBut.update s.heap r _) ?_
        have ho1 := store_at (es' := ef) (t' := { tf with led := tf.led && t.led, plain := tf.plain && t.plain }) hof hdf
        have hf2 : ({ tf with led := tf.led && t.led, plain := tf.plain && t.plain } : SetTable).fits ef.size = true := hff
        refine ⟨_, ef, _, _, ho1, hxf, rfl, gf, ndf, hmf, hbf, hf2, hnf, hrf, ?_⟩
        rcases hl with z | z
        · exact .inl z
        · rcases hlf with y | y
          · exact .inl y
          · exact .inr (by show (tf.led && t.led) = true; rw [z, y]; rfl)
      · refine wp_if_neg hs ?_
        try refine wpAny_bind (wpAny_pure ?_)
        exact wpAny_pure (h es s.heap s.drawn d1 d2 d3 d4 (Heap.SameBut.refl _ _) ⟨of, ef, epf, tf, hof, hxf, hdf, gf, ndf, hmf, hbf, hff, hnf, hrf, hlf⟩)
end
end VL

set_option Elab.async false
set_option linter.all false
set_option maxRecDepth 100000
set_option maxHeartbeats 2000000
namespace VL
open PySem PySem.Spec PyProof.Rows L2
section
variable {P : Program} {w : World} {A : Around} {E : Value → Shared → Prop} {s : Shared} {a b : Addr} {S T : Int → Bool} {n m : Nat}
theorem base_at (R : SetR w s.heap a S n) {Q : Value → Shared → Prop} (h : Q (.type "set") s) : wpAny (model P w) A (Builtin.Frozenset.baseOf a) Q E s := by
  have hT := setR_type R
  have hs := sub_set_self
  obtain ⟨hp, g, d, tk, os⟩ := s
  unfold Builtin.Frozenset.baseOf
  wp_walk
  try exact h
theorem newSet_at {Q : Value → Shared → Prop} (h : Q (.ref s.heap.objs.size) { s with heap := s.heap.push (nSet w) }) : wpAny (model P w) A (newSet (.type "set")) Q E s := by
  unfold newSet
  refine wpAny_bind (wpAny_byText ?_)
  dsimp only
  simp only [newObj]
  refine wpAny_bind (wpAny_alloc (wpAny_pure ?_))
  exact h
theorem epoch_at {o : Obj} {es : Array (Int × Value)} {ep : Nat} {t : SetTable} (ho : s.heap.get? a = some o) (hd : o.data = .set es ep t) (hf : t.fits es.size = true) {Q : Unit → Shared → Prop} {id : String} (h : Q () s) : wpAny (model P w) A (Builtin.Frozenset.unchanged id a ep) Q E s := by
  unfold Builtin.Frozenset.unchanged
  refine wpAny_bind (wpAny_setEpoch_of ho hd hf ?_)
  refine wp_if_neg (by simp) ?_
  exact wpAny_pure h
theorem diff_a {id : String} (R : SetR w s.heap a S n) (Rb : SetR w s.heap b T m) (hn : n + 1 < scanBound) (hlt : ¬ n / 4 > m) {Q : Value → Shared → Prop}
    (h : ∀ g d c, SetR w g s.heap.objs.size (fun k => S k && !T k) c → c ≤ n → (∀ x o, s.heap.get? x = some o → g.get? x = some o) → Q (.ref s.heap.objs.size) { s with heap := g, drawn := d }) : wpAny (model P w) A (Builtin.Frozenset.difference id a (.ref b)) Q E s := by
  unfold Builtin.Frozenset.difference
  refine wpAny_bind (anySet_at Rb ?_)
  refine wp_if_neg (by simp) ?_
  try refine wpAny_bind (wpAny_pure ?_)
  refine wpAny_bind (size_at Rb ?_)
  refine wpAny_bind (size_at R ?_)
  refine wp_if_neg hlt ?_
  refine wpAny_bind (base_at R ?_)
  refine wpAny_bind (newSet_at ?_)
  refine wpAny_bind (wpAny_pure ?_)
  have pu : ∀ x o, s.heap.get? x = some o → (s.heap.push (nSet w)).get? x = some o := fun x o e => Heap.get?_push_of_some _ e
  generalize hs1 : ({ s with heap := s.heap.push (nSet w) } : Shared) = s1
  have e1 : s1.heap = s.heap.push (nSet w) := by rw [← hs1]
  have hR1 : SetR w s1.heap a S n := R.at fun o e => by rw [e1]; exact pu a o e
  have hRb1 : SetR w s1.heap b T m := Rb.at fun o e => by rw [e1]; exact pu b o e
  generalize hr : s.heap.objs.size = r
  have hRr : SetR w s1.heap r (fun _ => false) 0 := by rw [e1, ← hr]; exact setR_fresh w
  have nra : r ≠ a := by rw [← hr]; exact Ne.symm (Nat.ne_of_lt R.lt)
  have nrb : r ≠ b := by rw [← hr]; exact Ne.symm (Nat.ne_of_lt Rb.lt)
  have hR2 := hR1
  obtain ⟨o, es, ep, t, ho, hx, hd, g, nd, hm, hb, hf, hnn, hrr, hl⟩ := hR1
  refine wpAny_bind (wpAny_setEpoch_of ho hd hf ?_)
  refine wpAny_bind (wpAny_holding ?_)
  refine wpAny_bind (wp_if_pos rfl (unseen_at (r := r) hR2 hRr (fun x hx => ?_) nra fun ys h' d k1 k2 k3 k4 sb Rr => ?_))
  · rcases List.mem_cons.mp hx with z | z
    · subst z; exact ⟨_, _, hRb1⟩
    · cases List.mem_singleton.mp z; exact ⟨_, _, hRr⟩
  refine wpAny_bind (PySem.MeetsSeq2.wpAny_forIn_array _ (fun rest _ s2 => ∃ g c, s2 = { s1 with heap := g, drawn := d } ∧ Heap.SameBut r s1.heap g ∧ (∀ e ∈ rest, GoodE e ∧ S (keyOf e) = true) ∧ (rest.map keyOf).Nodup ∧ SetR w g r (fun k => S k && (!T k && !decide (k ∈ rest.map keyOf))) c ∧ c + rest.length ≤ n) _ ?_ ?_ _ _ ⟨h', 0, rfl, sb, fun e he => ⟨k1 e he, (k3 _).mpr (List.mem_map_of_mem he)⟩, k2, Rr.congr fun k => ?_, ?_⟩)
  · rintro ⟨x1, x2⟩ rest u s2 ⟨g2, c, rfl, sb2, q1, q2, q3, q4⟩
    obtain ⟨⟨k, tk, hk, hh⟩, hS⟩ := q1 _ (List.mem_cons_self ..)
    dsimp only at hk hh
    subst hk
    subst hh
    have hRb2 : SetR w g2 b T m := hRb1.at fun o e => (sb2.2 b (Ne.symm nrb)).trans e
    have ho2 : g2.get? a = some o := (sb2.2 a (Ne.symm nra)).trans ho
    have hko : keyOf (hashInt k, Value.int k tk) = k := rfl
    rw [List.map_cons, hko] at q2 q3
    have q2' := List.nodup_cons.mp q2
    have hS : S k = true := hS
    have hl' : c + (rest.length + 1) ≤ n := q4
    dsimp only
    refine wpAny_bind (wpAny_holding ?_)
    refine wp_if_pos rfl ?_
    refine wpAny_bind (wpAny_setFind_of (knd := intKind P w) (k := k) (intKind_is P w k tk) rfl (s := { s1 with heap := g2, drawn := d }) hRb2.setOf fun rr hrr2 => ?_)
    refine wpAny_bind (wpAny_pure ?_)
    rw [hrr2]
    cases hT : T k with
    | true =>
      refine wp_if_neg (by simp) ?_
      refine wpAny_pure ?_
      refine wpAny_bind (epoch_at (s := { s1 with heap := g2, drawn := d }) ho2 hd hf ?_)
      refine wpAny_pure ⟨g2, c, rfl, sb2, fun e he => q1 e (List.mem_cons_of_mem _ he), q2'.2, q3.congr fun j => ?_, by omega⟩
      by_cases hj : j = k
      · subst hj
        simp [hT]
      · simp only [List.mem_cons, hj, false_or]
    | false =>
      refine wp_if_pos rfl ?_
      refine wpAny_bind (setR_add_hashed (s := { s1 with heap := g2, drawn := d }) (k := k) (tk := tk) q3 (by omega) fun g3 sb3 R3 => ?_)
      refine wpAny_pure ?_
      have ho3 : g3.get? a = some o := (sb3.2 a (Ne.symm nra)).trans ho2
      refine wpAny_bind (epoch_at (s := { s1 with heap := g3, drawn := d }) ho3 hd hf ?_)
      refine wpAny_pure ⟨g3, c + 1, rfl, sb2.trans sb3, fun e he => q1 e (List.mem_cons_of_mem _ he), q2'.2, ?_, by omega⟩
      have h0 : (S k && (!T k && !decide (k ∈ k :: rest.map keyOf))) = false := by simp
      rw [h0] at R3
      refine SetR.congr R3 fun j => ?_
      by_cases hj : j = k
      · subst hj
        simp only [hT, hS, q2'.1, decide_false, decide_true, Bool.not_false, Bool.and_true, Bool.or_true]
      · simp only [List.mem_cons, hj, false_or, decide_false, Bool.or_false]
  · rintro u s2 ⟨g2, c, rfl, sb2, q1, q2, q3, q4⟩
    refine wpAny_pure ?_
    refine wpAny_pure ?_
    have z := h g2 d c ?_ (by simpa using q4) fun x o2 e => ?_
    · rw [← hs1, hr] at *
      exact z
    · rw [hr]
      exact q3.congr fun k => by simp
    · have : x ≠ r := by rw [← hr]; exact Nat.ne_of_lt (Heap.lt_size e)
      exact (sb2.2 x this).trans (by rw [e1]; exact pu x o2 e)
  · have := k3 k
    cases hSk : S k with
    | false => simp
    | true => simp [this.mp hSk]
  · rw [Array.length_toList, k4]
    omega
end
end VL

set_option Elab.async false
set_option linter.all false
set_option maxRecDepth 100000
set_option maxHeartbeats 2000000
namespace VL
open PySem PySem.Spec PyProof.Rows L2
/-! ### a clean table can be laid -/
def s5 (M i : Nat) : Nat := (i * 5 + 1) % M
def it5 (M : Nat) : Nat → Nat → Nat
  | 0, i => i
  | n + 1, i => it5 M n (s5 M i)
theorem it5_add (M : Nat) : ∀ (a b i : Nat), it5 M (a + b) i = it5 M b (it5 M a i)
  | 0, b, i => by rw [Nat.zero_add]; rfl
  | a + 1, b, i => by
    have : a + 1 + b = (a + b) + 1 := by omega
    rw [this]
    exact it5_add M a b (s5 M i)
def hit5 (M : Nat) : Nat → Nat → Nat → Bool
  | 0, _, _ => false
  | f + 1, i, j => i == j || hit5 M f (s5 M i) j
theorem hit5_it {M : Nat} : ∀ {f i j : Nat}, hit5 M f i j = true → ∃ n, n < f ∧ it5 M n i = j
  | 0, _, _, h => by cases h
  | f + 1, i, j, h => by
    rcases Bool.or_eq_true_iff.mp h with h | h
    · exact ⟨0, by omega, beq_iff_eq.mp h⟩
    · obtain ⟨n, h1, h2⟩ := hit5_it h
      exact ⟨n + 1, by omega, h2⟩
def Full (M : Nat) : Prop := ∀ i, i < M → ∀ j, j < M → ∃ n, n < M ∧ it5 M n i = j
theorem full_of {M : Nat} (h1 : (List.range M).all (fun j => hit5 M M 0 j) = true) (h2 : it5 M M 0 = 0) : Full M := by
  intro i hi j hj
  rw [List.all_eq_true] at h1
  obtain ⟨p, p1, p2⟩ := hit5_it (h1 i (List.mem_range.mpr hi))
  obtain ⟨q, q1, q2⟩ := hit5_it (h1 j (List.mem_range.mpr hj))
  by_cases h : p ≤ q
  · refine ⟨q - p, by omega, ?_⟩
    rw [← p2, ← it5_add, show p + (q - p) = q by omega, q2]
  · refine ⟨M - p + q, by omega, ?_⟩
    rw [← p2, ← it5_add, show p + (M - p + q) = M + q by omega, it5_add, h2, q2]
theorem full8 : Full 8 := full_of (by decide +kernel) (by decide +kernel)
theorem full16 : Full 16 := full_of (by decide +kernel) (by decide +kernel)
theorem full32 : Full 32 := full_of (by decide +kernel) (by decide +kernel)
theorem full64 : Full 64 := full_of (by decide +kernel) (by decide +kernel)
theorem full256 : Full 256 := full_of (by decide +kernel) (by decide +kernel)
theorem full128 : Full 128 := full_of (by decide +kernel) (by decide +kernel)
theorem free_some {mask : Nat} (F : Full (mask + 1)) {owner : Array (Option Nat)} {j : Nat} (hj : j < mask + 1) (hf : (owner.getD j (some 0)).isNone = true) : ∀ (t fuel i p : Nat), i < mask + 1 → p < 32 ^ t → t + (mask + 1) ≤ fuel → ∃ k, SetTable.layClean.free mask owner fuel i p = some k ∧ (owner.getD k (some 0)).isNone = true := by
  have zero : ∀ (n fuel i : Nat), it5 (mask + 1) n i = j → n < fuel → ∃ k, SetTable.layClean.free mask owner fuel i 0 = some k ∧ (owner.getD k (some 0)).isNone = true := by
    intro n
    induction n with
    | zero =>
      intro fuel i h hn
      have h : i = j := h
      subst h
      obtain ⟨f, rfl⟩ : ∃ f, fuel = f + 1 := ⟨fuel - 1, by omega⟩
      unfold SetTable.layClean.free
      cases hq : (List.range (SetTable.runEnd mask i + 1 - i)).find? fun k => (owner.getD (i + k) (some 0)).isNone with
      | some k =>
        have := List.find?_some hq
        exact ⟨i + k, rfl, this⟩
      | none =>
        have hr : i ≤ SetTable.runEnd mask i := by unfold SetTable.runEnd; split <;> omega
        have := List.find?_eq_none.mp hq 0 (List.mem_range.mpr (by omega))
        rw [Nat.add_zero] at this
        exact absurd hf this
    | succ n ih =>
      intro fuel i h hn
      obtain ⟨f, rfl⟩ : ∃ f, fuel = f + 1 := ⟨fuel - 1, by omega⟩
      unfold SetTable.layClean.free
      cases hq : (List.range (SetTable.runEnd mask i + 1 - i)).find? fun k => (owner.getD (i + k) (some 0)).isNone with
      | some k =>
        have := List.find?_some hq
        exact ⟨i + k, rfl, this⟩
      | none =>
        have := ih f (s5 (mask + 1) i) h (by omega)
        exact this
  intro t
  induction t with
  | zero =>
    intro fuel i p hi hp hfu
    have : p = 0 := by rw [Nat.pow_zero] at hp; omega
    subst this
    obtain ⟨n, n1, n2⟩ := F i hi j hj
    exact zero n fuel i n2 (by omega)
  | succ t ih =>
    intro fuel i p hi hp hfu
    obtain ⟨f, rfl⟩ : ∃ f, fuel = f + 1 := ⟨fuel - 1, by omega⟩
    unfold SetTable.layClean.free
    cases hq : (List.range (SetTable.runEnd mask i + 1 - i)).find? fun k => (owner.getD (i + k) (some 0)).isNone with
    | some k =>
      have := List.find?_some hq
      exact ⟨i + k, rfl, this⟩
    | none =>
      exact ih f ((i * 5 + 1 + p / 32) % (mask + 1)) (p / 32) (Nat.mod_lt _ (by omega)) (by rw [Nat.pow_succ] at hp; omega) (by omega)
theorem bits_lt (h : Int) : SetTable.bits h < 32 ^ 13 := by
  unfold SetTable.bits
  have := Int.emod_lt_of_pos h (show (0 : Int) < 2 ^ 64 by decide)
  have h2 := Int.emod_nonneg h (show (2 : Int) ^ 64 ≠ 0 by decide)
  have h3 : (32 : Nat) ^ 13 = 2 ^ 65 := by decide
  rw [h3]
  omega
/-- the live slots of an owner table, in order -/
def liveO (M : Nat) (owner : Array (Option Nat)) : List (Nat × Nat) := (List.range M).filterMap fun j => (owner.getD j none).map (j, ·)
theorem fm_congr {α β : Type} {f g : α → Option β} : ∀ {l : List α}, (∀ x ∈ l, f x = g x) → l.filterMap f = l.filterMap g
  | [], _ => rfl
  | x :: l, h => by
    have e := h x (List.mem_cons_self ..)
    have ih := fm_congr (l := l) fun y hy => h y (List.mem_cons_of_mem _ hy)
    cases hg : g x with
    | none => rw [List.filterMap_cons_none (e.trans hg), List.filterMap_cons_none hg, ih]
    | some v => rw [List.filterMap_cons_some (e.trans hg), List.filterMap_cons_some hg, ih]
theorem live_step {f f' : Nat → Option (Nat × Nat)} {j : Nat} {v : Nat × Nat} : ∀ {l : List Nat}, l.Nodup → j ∈ l → f j = none → f' j = some v → (∀ x ∈ l, x ≠ j → f' x = f x) → (l.filterMap f').Perm (v :: l.filterMap f)
  | [], _, h, _, _, _ => nomatch h
  | x :: l, nd, h, h1, h2, h3 => by
    obtain ⟨n1, n2⟩ := List.nodup_cons.mp nd
    by_cases e : x = j
    · subst e
      have : l.filterMap f' = l.filterMap f := fm_congr fun y hy => h3 y (List.mem_cons_of_mem _ hy) fun z => n1 (z ▸ hy)
      rw [List.filterMap_cons_some h2, List.filterMap_cons_none h1, this]

    · have hj : j ∈ l := (List.mem_cons.mp h).resolve_left (Ne.symm e)
      have ih := live_step n2 hj h1 h2 fun y hy => h3 y (List.mem_cons_of_mem _ hy)
      have hx := h3 x (List.mem_cons_self ..) e
      cases hf : f x with
      | none =>
        rw [List.filterMap_cons_none (hx.trans hf), List.filterMap_cons_none hf]
        exact ih
      | some u =>
        rw [List.filterMap_cons_some (hx.trans hf), List.filterMap_cons_some hf]
        exact (ih.cons u).trans (List.Perm.swap _ _ _)
theorem live_full {f : Nat → Option (Nat × Nat)} : ∀ {l : List Nat}, (∀ x ∈ l, (f x).isSome = true) → (l.filterMap f).length = l.length
  | [], _ => rfl
  | x :: l, h => by
    obtain ⟨v, hv⟩ := Option.isSome_iff_exists.mp (h x (List.mem_cons_self ..))
    rw [List.filterMap_cons_some hv, List.length_cons, List.length_cons, live_full fun y hy => h y (List.mem_cons_of_mem _ hy)]
def OkO (M : Nat) (q : Array (Option Nat) × Nat) : Prop := q.1.size = M ∧ ((liveO M q.1).map (·.2)).Perm (List.range q.2)
theorem okO_free {M : Nat} {q : Array (Option Nat) × Nat} (h : OkO M q) (hk : q.2 < M) : ∃ j, j < M ∧ (q.1.getD j (some 0)).isNone = true := by
  obtain ⟨h1, h2⟩ := h
  by_cases hx : ∀ x ∈ List.range M, ((q.1.getD x none).map (x, ·)).isSome = true
  · have e := live_full hx
    have e2 := h2.length_eq
    rw [List.length_map, List.length_range] at e2
    rw [List.length_range] at e
    have e3 : (liveO M q.1).length = M := e
    omega
  · have hx2 : ∃ x, x ∈ List.range M ∧ ¬ ((q.1.getD x none).map (x, ·)).isSome = true := by
      apply Classical.byContradiction
      intro hn
      exact hx fun x hx1 => Classical.byContradiction fun hx2 => hn ⟨x, hx1, hx2⟩
    obtain ⟨x, hx1, hx2⟩ := hx2
    have hlt := List.mem_range.mp hx1
    refine ⟨x, hlt, ?_⟩
    have hs : x < q.1.size := by omega
    simp only [Array.getD, hs, dite_true] at hx2 ⊢
    cases hv : q.1[x] with
    | none => simp [hv]
    | some v => simp [hv] at hx2
theorem okO_step {M j : Nat} {q : Array (Option Nat) × Nat} (h : OkO M q) (hj : (q.1.getD j (some 0)).isNone = true) : OkO M (q.1.setIfInBounds j (some q.2), q.2 + 1) := by
  obtain ⟨h1, h2⟩ := h
  have hs : j < q.1.size := by
    apply Classical.byContradiction
    intro hn
    simp only [Array.getD, hn, dite_false] at hj
    cases hj
  have hv : q.1[j] = none := by
    simp only [Array.getD, hs, dite_true] at hj
    exact Option.isNone_iff_eq_none.mp hj
  refine ⟨by rw [Array.size_setIfInBounds]; exact h1, ?_⟩
  have p := live_step (f := fun j => (q.1.getD j none).map (j, ·)) (f' := fun x => ((q.1.setIfInBounds j (some q.2)).getD x none).map (x, ·)) (j := j) (v := (j, q.2)) (l := List.range M) List.nodup_range (List.mem_range.mpr (by omega)) (by simp [Array.getD, hs, hv]) (by simp [Array.getD, hs]) (fun x hx hne => by
    have hx := List.mem_range.mp hx
    have hxs : x < q.1.size := by omega
    simp [Array.getD, hxs, Array.getElem_setIfInBounds, Ne.symm hne])
  have p2 := p.map (·.2)
  rw [List.map_cons] at p2
  show ((liveO M (q.1.setIfInBounds j (some q.2))).map (·.2)).Perm (List.range (q.2 + 1))
  rw [List.range_succ]
  exact p2.trans ((h2.cons q.2).trans (List.perm_append_singleton _ _).symm)
theorem layClean_some {mask : Nat} (F : Full (mask + 1)) {hashes : Array Int} (hz : hashes.size ≤ mask) : ∃ owner, SetTable.layClean mask hashes = some owner ∧ OkO (mask + 1) (owner, hashes.size) := by
  unfold SetTable.layClean
  have key : ∀ (l : List Int) (q : Array (Option Nat) × Nat), OkO (mask + 1) q → q.2 + l.length ≤ mask → ∃ q', l.foldl (fun acc h => do
      let (owner, k) ← acc
      let j ← SetTable.layClean.free mask owner (SetTable.turns mask) (SetTable.bits h % (mask + 1)) (SetTable.bits h)
      pure (owner.setIfInBounds j (some k), k + 1)) (some q) = some q' ∧ OkO (mask + 1) q' ∧ q'.2 = q.2 + l.length := by
    intro l
    induction l with
    | nil => exact fun q h _ => ⟨q, rfl, h, rfl⟩
    | cons x l ih =>
      intro q h hl
      rw [List.length_cons] at hl
      obtain ⟨j, j1, j2⟩ := okO_free h (by omega)
      obtain ⟨k, k1, k2⟩ := free_some F j1 j2 13 (SetTable.turns mask) (SetTable.bits x % (mask + 1)) (SetTable.bits x) (Nat.mod_lt _ (by omega)) (bits_lt x) (by unfold SetTable.turns; omega)
      obtain ⟨q', e1, e2, e3⟩ := ih (q.1.setIfInBounds k (some q.2), q.2 + 1) (okO_step h k2) (by dsimp only; omega)
      refine ⟨q', ?_, e2, by rw [e3, List.length_cons]; dsimp only; omega⟩
      rw [List.foldl_cons]
      rw [← e1]
      congr 1
      show (SetTable.layClean.free mask q.1 (SetTable.turns mask) (SetTable.bits x % (mask + 1)) (SetTable.bits x)).bind _ = _
      rw [k1]
      rfl
  have h0 : OkO (mask + 1) (Array.replicate (mask + 1) none, 0) := by
    refine ⟨Array.size_replicate, ?_⟩
    have : liveO (mask + 1) (Array.replicate (mask + 1) none) = [] := by
      unfold liveO
      rw [List.filterMap_eq_nil_iff]
      intro x hx
      have hx := List.mem_range.mp hx
      simp [Array.getD, hx]
    show ((liveO (mask + 1) (Array.replicate (mask + 1) none)).map (·.2)).Perm (List.range 0)
    rw [this]
    exact List.Perm.refl _
  obtain ⟨q', e1, e2, e3⟩ := key hashes.toList _ h0 (by dsimp only; rw [Array.length_toList]; omega)
  rw [Array.foldl_toList] at e1
  refine ⟨q'.1, ?_, ?_⟩
  · rw [e1]
    rfl
  · have : q' = (q'.1, hashes.size) := by
      rw [← Array.length_toList]
      exact Prod.ext rfl (by rw [e3]; dsimp only; omega)
    rw [← this]
    exact e2
end VL

set_option Elab.async false
set_option linter.all false
set_option maxRecDepth 100000
set_option maxHeartbeats 2000000
namespace VL
open PySem PySem.Spec PyProof.Rows L2
theorem laid_ok {mask finger moves : Nat} {led plain : Bool} (F : Full (mask + 1)) {hashes : Array Int} (hz : hashes.size ≤ mask) : ∃ t order, SetTable.laid mask finger moves led plain hashes = some (t, order) ∧ t.mask = mask ∧ t.place.size = hashes.size ∧ t.dummies = #[] ∧ t.led = led ∧ Ris t.place.toList ∧ order.toList.Perm (List.range hashes.size) := by
  obtain ⟨owner, e, h1, h2⟩ := layClean_some F hz
  unfold SetTable.laid
  rw [e]
  refine ⟨_, _, rfl, rfl, ?_, rfl, rfl, ?_, h2⟩
  · have := h2.length_eq
    rw [List.length_map, List.length_range] at this
    show (((List.range (mask + 1)).filterMap fun j => (owner.getD j none).map (j, ·)).map (·.1)).toArray.size = _
    rw [List.size_toArray, List.length_map]
    exact this
  · refine (ris_live (fun j => owner.getD j none) (List.range (mask + 1)) ?_).1
    unfold Ris
    first | exact List.pairwise_lt_range | exact List.pairwise_lt_range _
theorem above_full : ∀ w : Nat, w ≤ 255 → Full (SetTable.sizeAbove w - 1 + 1) ∧ w < SetTable.sizeAbove w ∧ SetTable.sizeAbove w ≤ 256 := by
  intro w hw
  have h : ∀ w : Fin 256, (SetTable.sizeAbove w.val = 8 ∨ SetTable.sizeAbove w.val = 16 ∨ SetTable.sizeAbove w.val = 32 ∨ SetTable.sizeAbove w.val = 64 ∨ SetTable.sizeAbove w.val = 128 ∨ SetTable.sizeAbove w.val = 256) ∧ w.val < SetTable.sizeAbove w.val := by decide +kernel
  obtain ⟨h1, h2⟩ := h ⟨w, by omega⟩
  dsimp only at h1 h2
  refine ⟨?_, h2, ?_⟩
  · rcases h1 with e | e | e | e | e | e <;> rw [e]
    · exact full8
    · exact full16
    · exact full32
    · exact full64
    · exact full128
    · exact full256
  · rcases h1 with e | e | e | e | e | e <;> rw [e] <;> decide
theorem order_perm {es : Array (Int × Value)} {order : Array Nat} (h : order.toList.Perm (List.range (es.map (·.1)).size)) : (order.filterMap (es[·]?)).toList.Perm es.toList := by
  rw [Array.size_map] at h
  rw [Array.toList_filterMap]
  exact (h.filterMap _).trans (by rw [filterMap_getElem?_range])
section
variable {P : Program} {w : World} {A : Around} {E : Value → Shared → Prop} {s : Shared} {a b : Addr} {S T : Int → Bool} {n m : Nat}
/-- the object of a set, its entries told -/
def SetE (w : World) (h : Heap) (a : Addr) (es : Array (Int × Value)) (t : SetTable) : Prop := ∃ o ep, h.get? a = some o ∧ o.ExactSet ∧ o.data = .set es ep t ∧ es.size < scanBound ∧ t.fits es.size = true ∧ Ris t.place.toList ∧ (w.params.followText "set-order" = true ∨ t.led = true)
theorem setE_of (R : SetR w s.heap a S n) : ∃ es t, SetE w s.heap a es t ∧ (∀ e ∈ es.toList, GoodE e) ∧ (es.toList.map keyOf).Nodup ∧ (∀ k, S k = true ↔ k ∈ es.toList.map keyOf) ∧ es.size = n := by
  obtain ⟨o, es, ep, t, ho, hx, hd, g, nd, hm, hb, hf, hn, hr, hl⟩ := R
  exact ⟨es, t, ⟨o, ep, ho, hx, hd, hb, hf, hr, hl⟩, g, nd, hm, hn⟩
theorem setE_to {h : Heap} {es : Array (Int × Value)} {t : SetTable} (Z : SetE w h a es t) (g : ∀ e ∈ es.toList, GoodE e) (nd : (es.toList.map keyOf).Nodup) (hm : ∀ k, S k = true ↔ k ∈ es.toList.map keyOf) (hn : es.size = n) : SetR w h a S n := by
  obtain ⟨o, ep, ho, hx, hd, hb, hf, hr, hl⟩ := Z
  exact ⟨o, es, ep, t, ho, hx, hd, g, nd, hm, hb, hf, hn, hr, hl⟩
theorem storeE {es es' : Array (Int × Value)} {t t' : SetTable} (Z : SetE w s.heap a es t) (hb : es'.size < scanBound) (hf : t'.fits es'.size = true) (hr : Ris t'.place.toList) (hl : w.params.followText "set-order" = true ∨ t'.led = true) {Q : Unit → Shared → Prop}
    (h : ∀ g, Heap.SameBut a s.heap g → SetE w g a es' t' → Q () { s with heap := g }) : wpAny (model P w) A (storeSet a es' t') Q E s := by
  obtain ⟨o, ep, ho, hx, hd, _⟩ := Z
  refine wpAny_storeSet_of ho hd ?_ (fits_of_scanBound hb)
  exact h _ (Heap.SameBut.update s.heap a _) ⟨_, _, store_at (es' := es') (t' := t') ho hd, hx, rfl, hb, hf, hr, hl⟩
theorem stateE {es : Array (Int × Value)} {t : SetTable} (Z : SetE w s.heap a es t) {Q : Array (Int × Value) × Nat × SetTable → Shared → Prop} (h : ∀ ep, (∃ o, s.heap.get? a = some o ∧ o.data = .set es ep t) → Q (es, ep, t) s) : wpAny (model P w) A (setState a) Q E s := by
  obtain ⟨o, ep, ho, hx, hd, hb, hf, hr, hl⟩ := Z
  exact wpAny_setState_of ho hd hf (h ep ⟨o, ho, hd⟩)
/-- the table laid anew -/
theorem relay_at {es : Array (Int × Value)} {t : SetTable} (Z : SetE w s.heap a es t) {wanted : Nat} (hw : wanted ≤ 255) (hz : es.size < SetTable.sizeAbove wanted) {Q : Unit → Shared → Prop}
    (h : ∀ g es' t', Heap.SameBut a s.heap g → SetE w g a es' t' → es'.toList.Perm es.toList → t'.mask = SetTable.sizeAbove wanted - 1 → t'.dummies = #[] → Q () { s with heap := g }) : wpAny (model P w) A (setRelay a wanted) Q E s := by
  obtain ⟨F, f1, f2⟩ := above_full wanted hw
  have Z0 := Z
  obtain ⟨o, ep, ho, hx, hd, hb, hf, hr, hl⟩ := Z
  unfold setRelay
  refine wpAny_bind (wpAny_setState_of ho hd hf ?_)
  dsimp only
  refine wp_if_neg (by rw [sizeLine_eq]; omega) ?_
  try refine wpAny_bind (wpAny_pure ?_)
  obtain ⟨t', order, e1, e2, e3, e4, e5, e6, e7⟩ := laid_ok (finger := t.finger) (moves := t.movedTo (SetTable.sizeAbove wanted - 1)) (led := t.led) (plain := t.plain) F (hashes := es.map (·.1)) (by rw [Array.size_map]; omega)
  have er : t.relaid (es.map (·.1)) wanted = some (t', order) := e1
  have hp := order_perm e7
  have hsz : (order.filterMap (es[·]?)).size = es.size := by rw [← Array.length_toList, hp.length_eq, Array.length_toList]
  rw [er]
  refine wpAny_bind (wpAny_of_eq (a := (order.filterMap (es[·]?), t')) ?_ ?_)
  · show (if ((order.filterMap (es[·]?)).size != es.size) = true then _ else _) = _
    rw [hsz]
    simp
  · dsimp only
    have hfit : t'.fits (order.filterMap (es[·]?)).size = true := by
      unfold SetTable.fits SetTable.fill
      rw [e4, e3, hsz, Array.size_map, e2]
      simp
      omega
    refine storeE Z0 (by rw [hsz]; exact hb) hfit e6 (hl.imp id fun z => by rw [e5]; exact z) fun g sb Z' => ?_
    exact h g _ t' sb Z' hp e2 e4
end
end VL

set_option Elab.async false
set_option linter.all false
set_option maxRecDepth 100000
set_option maxHeartbeats 2000000
namespace VL
open PySem PySem.Spec PyProof.Rows L2
section
variable {P : Program} {w : World} {A : Around} {E : Value → Shared → Prop} {s : Shared} {a b r : Addr} {S T : Int → Bool} {n m : Nat}
theorem SetE.at {h h' : Heap} {es : Array (Int × Value)} {t : SetTable} (Z : SetE w h a es t) (k : ∀ o, h.get? a = some o → h'.get? a = some o) : SetE w h' a es t := by
  obtain ⟨o, ep, ho, r⟩ := Z
  exact ⟨o, ep, k o ho, r⟩
theorem fresh_setE (w : World) (h : Heap) : SetE w (h.push (nSet w)) h.objs.size #[] (.fresh 0 0 (!w.params.followText "set-order")) := by
  refine ⟨nSet w, 0, Heap.get?_push_size _ rfl, ⟨rfl, rfl, rfl⟩, rfl, (by decide), rfl, List.Pairwise.nil, ?_⟩
  show _ ∨ (!w.params.followText "set-order") = true
  cases w.params.followText "set-order"
  · exact .inr rfl
  · exact .inl rfl
/-- room is made in an empty fresh table -/
theorem room_at {t : SetTable} (Z : SetE w s.heap r #[] t) (hm : t.mask = 7) (hd : t.dummies = #[]) (hn : n ≤ 60) {Q : Unit → Shared → Prop}
    (h : ∀ g t', Heap.SameBut r s.heap g → SetE w g r #[] t' → t'.dummies = #[] → n ≤ t'.mask → Full (t'.mask + 1) → Q () { s with heap := g }) : wpAny (model P w) A (setRoomFor r n) Q E s := by
  have hp : t.place.size = 0 := by
    obtain ⟨o, ep, ho, hx, hdd, hb, hf, hr, hl⟩ := Z
    unfold SetTable.fits at hf
    rw [Bool.and_eq_true] at hf
    exact beq_iff_eq.mp hf.1
  have hfill : t.fill = 0 := by unfold SetTable.fill; rw [hp, hd]; rfl
  unfold setRoomFor
  refine wpAny_bind (stateE Z fun ep _ => ?_)
  dsimp only
  unfold SetTable.roomFor
  rw [hfill, hm, hp]
  by_cases hc : (0 + n) * 5 ≥ 7 * 3
  · rw [if_pos hc]
    dsimp only
    have hw : (0 + n) * 2 ≤ 255 := by omega
    obtain ⟨F, f1, f2⟩ := above_full ((0 + n) * 2) hw
    refine relay_at Z hw (by show 0 < _; omega) fun g es' t' sb Z' p e1 e2 => ?_
    have : es' = #[] := by
      have := p.length_eq
      apply Array.eq_empty_of_size_eq_zero
      rw [← Array.length_toList, this]
      rfl
    subst this
    exact h g t' sb Z' e2 (by rw [e1]; omega) (by rw [e1]; exact F)
  · rw [if_neg hc]
    exact wpAny_pure (h s.heap t (Heap.SameBut.refl _ _) Z hd (by rw [hm]; omega) (by rw [hm]; exact full8))
/-- a set merged into an empty fresh one -/
theorem merge_at (R : SetR w s.heap a S n) {t : SetTable} (Z : SetE w s.heap r #[] t) (ne : r ≠ a) (hm : t.mask = 7) (hd : t.dummies = #[]) (hn : n ≤ 60) {Q : Unit → Shared → Prop}
    (h : ∀ g, Heap.SameBut r s.heap g → SetR w g r S n → Q () { s with heap := g }) : wpAny (model P w) A (setMerge r a) Q E s := by
  obtain ⟨es, to, Za, g, nd, hk, hz⟩ := setE_of R
  unfold setMerge
  refine wp_if_neg (by simpa using ne) ?_
  try refine wpAny_bind (wpAny_pure ?_)
  refine wpAny_bind (stateE Za fun ep _ => ?_)
  dsimp only
  by_cases he : es.isEmpty = true
  · refine wp_if_pos he ?_
    have he : es = #[] := by simpa using he
    subst he
    exact wpAny_pure (h s.heap (Heap.SameBut.refl _ _) (setE_to Z g nd hk hz))
  · refine wp_if_neg he ?_
    try refine wpAny_bind (wpAny_pure ?_)
    rw [hz]
    refine wpAny_bind (room_at Z hm hd hn fun g1 t1 sb1 Z1 e1 e2 F => ?_)
    have Za1 : SetE w g1 a es to := Za.at fun o e => (sb1.2 a (Ne.symm ne)).trans e
    have Z1' := Z1
    obtain ⟨o1, ep1, ho1, hx1, hd1, hb1, hf1, hr1, hl1⟩ := Z1'
    obtain ⟨oa, epa, hoa, hxa, hda, hba, hfa, hra, hla⟩ := Za1
    have hfill : t1.fill = 0 := by
      unfold SetTable.fits at hf1
      rw [Bool.and_eq_true] at hf1
      have : t1.place.size = 0 := beq_iff_eq.mp hf1.1
      unfold SetTable.fill
      rw [this, e1]
      rfl
    refine wpAny_bind (stateE (s := { s with heap := g1 }) Z1 fun ep _ => ?_)
    dsimp only
    have led : w.params.followText "set-order" = true ∨ (t1.led && to.led) = true := by
      rcases hl1 with z | z
      · exact .inl z
      · rcases hla with y | y
        · exact .inl y
        · exact .inr (by rw [z, y]; rfl)
    unfold SetTable.road
    rw [hfill]
    rw [if_neg (by decide)]
    by_cases hs : (t1.mask == to.mask && to.dummies.isEmpty) = true
    · rw [if_pos hs]
      dsimp only
      refine storeE (s := { s with heap := g1 }) (t' := { to with finger := t1.finger, led := t1.led && to.led, moves := t1.moves, plain := t1.plain && to.plain }) Z1 hba hfa hra led fun g2 sb2 Z2 => ?_
      exact h g2 (sb1.trans sb2) (setE_to Z2 g nd hk hz)
    · rw [if_neg hs]
      dsimp only
      obtain ⟨t', order, q1, q2, q3, q4, q5, q6, q7⟩ := laid_ok (finger := t1.finger) (moves := t1.moves) (led := t1.led && to.led) (plain := t1.plain && to.plain) F (hashes := es.map (·.1)) (by rw [Array.size_map, hz]; exact e2)
      have hp := order_perm q7
      have hsz : (order.filterMap (es[·]?)).size = es.size := by rw [← Array.length_toList, hp.length_eq, Array.length_toList]
      rw [q1]
      refine wpAny_bind (wpAny_of_eq (a := (order.filterMap (es[·]?), t')) ?_ ?_)
      · show (if ((order.filterMap (es[·]?)).size != es.size) = true then _ else _) = _
        rw [hsz]
        simp
      · dsimp only
        have hfit : t'.fits (order.filterMap (es[·]?)).size = true := by
          unfold SetTable.fits SetTable.fill
          rw [q4, q3, hsz, Array.size_map, q2]
          simp
          omega
        refine storeE (s := { s with heap := g1 }) Z1 (by rw [hsz]; exact hba) hfit q6 (led.imp id fun z => by rw [q5]; exact z) fun g2 sb2 Z2 => ?_
        exact h g2 (sb1.trans sb2) (setE_to Z2 (fun e he => g e (hp.mem_iff.mp he)) ((hp.map keyOf).nodup_iff.mpr nd) (fun k => (hk k).trans (hp.map keyOf).mem_iff.symm) (by rw [hsz]; exact hz))
theorem copy_at (R : SetR w s.heap a S n) (hn : n ≤ 60) {Q : Value → Shared → Prop}
    (h : ∀ g, SetR w g s.heap.objs.size S n → (∀ x o, s.heap.get? x = some o → g.get? x = some o) → Q (.ref s.heap.objs.size) { s with heap := g }) : wpAny (model P w) A (Builtin.Frozenset.copyOf a) Q E s := by
  unfold Builtin.Frozenset.copyOf
  refine wpAny_bind (base_at R ?_)
  refine wpAny_bind (newSet_at ?_)
  refine wpAny_bind (wpAny_pure ?_)
  have pu : ∀ x o, s.heap.get? x = some o → (s.heap.push (nSet w)).get? x = some o := fun x o e => Heap.get?_push_of_some _ e
  refine wpAny_bind (merge_at (s := { s with heap := s.heap.push (nSet w) }) (R.at (pu a)) (fresh_setE w s.heap) (Ne.symm (Nat.ne_of_lt R.lt)) rfl rfl hn fun g sb R2 => ?_)
  refine wpAny_pure (h g R2 fun x o e => ?_)
  exact (sb.2 x (Nat.ne_of_lt (Heap.lt_size e))).trans (pu x o e)
end
end VL

set_option Elab.async false
set_option linter.all false
set_option maxRecDepth 100000
set_option maxHeartbeats 2000000
namespace VL
open PySem PySem.Spec PyProof.Rows L2
theorem ins_size {α : Type} (xs : Array α) (p : Nat) (x : α) : (SetTable.insertAt xs p x).size = xs.size + 1 := by
  unfold SetTable.insertAt
  rw [Array.size_append, Array.size_push, Array.size_extract, Array.size_extract]
  omega
theorem erase_list {α : Type} (xs : Array α) (p : Nat) : (SetTable.eraseAt xs p).toList = xs.toList.eraseIdx p := by
  unfold SetTable.eraseAt
  rw [Array.toList_append, Array.toList_extract, Array.toList_extract, List.eraseIdx_eq_take_drop_succ]
  simp [List.extract_eq_drop_take]
  exact List.take_of_length_le (by simp)
section
variable {P : Program} {w : World} {A : Around} {E : Value → Shared → Prop} {s : Shared} {a b r : Addr} {S T : Int → Bool} {n m : Nat}
theorem find_at {es : Array (Int × Value)} {t : SetTable} {k : Int} {tk : Tok} (Z : SetE w s.heap a es t) (g : ∀ e ∈ es.toList, GoodE e) {Q : Option Nat → Shared → Prop} (h0 : k ∉ es.toList.map keyOf → Q none s) (h1 : ∀ j (hj : j < es.toList.length), keyOf es.toList[j] = k → Q (some j) s) : wpAny (model P w) A (setFind a (.int k tk) (hashInt k)) Q E s := by
  obtain ⟨o, ep, ho, hx, hd, hb, hf, _⟩ := Z
  have hkey : (intKind P w).is k (.int k tk) = true := intKind_is P w k tk
  have hel : ElemsOf (intKind P w) es.toList := good_elems g
  show wpAny (model P w) A (setFind a (.int k tk) ((intKind P w).hash k)) Q E s
  unfold setFind setFindIn
  refine wpAny_bind (wpAny_setState_of ho hd hf ?_)
  dsimp only
  rw [byScan_of rfl hb hel]
  simp only [↓reduceIte]
  refine wpAny_bind (wpAny_rule ?_)
  refine wpAny_bind (wpAny_setScan_of hkey ho hd hf hel ?_)
  cases hr : List.findIdx? (fun e => (intKind P w).is k e.2) es.toList with
  | none =>
    dsimp only
    refine wpAny_pure (h0 fun z => ?_)
    obtain ⟨e, he, q⟩ := (good_mem (P := P) (w := w) g k).1 z
    have c := List.findIdx?_eq_none_iff.mp hr e he
    rw [q] at c
    cases c
  | some j =>
    dsimp only
    obtain ⟨hj, pj, _⟩ := List.findIdx?_eq_some_iff_getElem.mp hr
    rw [Nat.zero_add]
    exact wpAny_pure (h1 j hj ((good_is (P := P) (w := w) (g _ (List.getElem_mem hj)) k).1 pj))
theorem drop_ok {t : SetTable} {N i : Nat} (hf : t.fits N = true) (hr : Ris t.place.toList) (hi : i < N) : (t.drop i).fits (N - 1) = true ∧ Ris (t.drop i).place.toList ∧ (t.drop i).led = t.led := by
  unfold SetTable.fits at hf
  rw [Bool.and_eq_true] at hf
  have hp : t.place.size = N := beq_iff_eq.mp hf.1
  have hfi : t.place.size + t.dummies.size ≤ t.mask := of_decide_eq_true hf.2
  have hlt : i < t.place.size := by omega
  have e : t.place[i]? = some t.place[i] := Array.getElem?_eq_getElem hlt
  have es : (SetTable.eraseAt t.place i).size = t.place.size - 1 := by
    rw [← Array.length_toList, erase_list, List.length_eraseIdx_of_lt (by rw [Array.length_toList]; exact hlt), Array.length_toList]
  unfold SetTable.drop
  rw [e]
  dsimp only
  refine ⟨?_, ?_, rfl⟩
  · unfold SetTable.fits SetTable.fill
    rw [Bool.and_eq_true]
    dsimp only
    rw [es, ins_size, hp]
    refine ⟨beq_self_eq_true _, decide_eq_true ?_⟩
    omega
  · show Ris (SetTable.eraseAt t.place i).toList
    rw [erase_list]
    exact List.Pairwise.sublist (List.eraseIdx_sublist _ _) hr
theorem discard_at {k : Int} {tk : Tok} (R : SetR w s.heap r S n) {Q : Bool → Shared → Prop}
    (h : ∀ g c bb, Heap.SameBut r s.heap g → SetR w g r (fun j => S j && !decide (j = k)) c → c ≤ n → Q bb { s with heap := g }) : wpAny (model P w) A (setDiscardHashed r (.int k tk) (hashInt k)) Q E s := by
  obtain ⟨es, t, Z, g, nd, hm, hz⟩ := setE_of R
  unfold setDiscardHashed
  refine wpAny_bind (find_at Z g (fun hk => ?_) fun j hj hk => ?_)
  · dsimp only
    refine wpAny_pure (h s.heap n false (Heap.SameBut.refl _ _) (R.congr fun i => ?_) (Nat.le_refl _))
    by_cases e : i = k
    · subst e
      cases hS : S i with
      | false => rfl
      | true => exact absurd ((hm i).mp hS) hk
    · simp [e]
  · dsimp only
    have Z0 := Z
    obtain ⟨o, ep, ho, hx, hd, hb, hf, hr, hl⟩ := Z
    have hjs : j < es.size := by rw [← Array.length_toList]; exact hj
    obtain ⟨d1, d2, d3⟩ := drop_ok hf hr hjs
    have ez : (SetTable.eraseAt es j).size = es.size - 1 := by
      rw [← Array.length_toList, erase_list, List.length_eraseIdx_of_lt hj, Array.length_toList]
    have pm : (es.toList[j] :: (SetTable.eraseAt es j).toList).Perm es.toList := by
      rw [erase_list]
      exact erase_perm _ _ _ (List.getElem?_eq_getElem hj)
    have pk := pm.map keyOf
    rw [List.map_cons, hk] at pk
    have nk := List.nodup_cons.mp (pk.nodup_iff.mpr nd)
    refine wpAny_bind (wpAny_setState_of ho hd hf ?_)
    dsimp only
    refine wpAny_bind (storeE Z0 (by rw [ez]; omega) (by rw [ez]; exact d1) d2 (hl.imp id fun z => by rw [d3]; exact z) fun g2 sb Z2 => ?_)
    refine wpAny_bind (wpAny_point ?_)
    refine wpAny_pure (h g2 (es.size - 1) true sb (setE_to Z2 (fun e he => g e (pm.mem_iff.mp (List.mem_cons_of_mem _ he))) nk.2 (fun i => ?_) ez) (by omega))
    rw [Bool.and_eq_true, hm i, ← pk.mem_iff, List.mem_cons]
    constructor
    · rintro ⟨h1, h2⟩
      refine h1.resolve_left fun z => ?_
      subst z
      simp at h2
    · intro h1
      refine ⟨.inr h1, ?_⟩
      have : i ≠ k := fun z => nk.1 (z ▸ h1)
      simp [this]
theorem tidy_at (R : SetR w s.heap r S n) (hn : n ≤ 60) {Q : Unit → Shared → Prop} (h : ∀ g, Heap.SameBut r s.heap g → SetR w g r S n → Q () { s with heap := g }) : wpAny (model P w) A (setTidy r) Q E s := by
  obtain ⟨es, t, Z, g, nd, hm, hz⟩ := setE_of R
  unfold setTidy
  refine wpAny_bind (stateE Z fun ep _ => ?_)
  dsimp only
  by_cases hc : t.tooManyDummies = true
  · refine wp_if_pos hc ?_
    have hg : SetTable.grown es.size ≤ 255 := by
      unfold SetTable.grown
      split <;> omega
    have hg2 : es.size ≤ SetTable.grown es.size := by
      unfold SetTable.grown
      split <;> omega
    obtain ⟨_, f1, _⟩ := above_full _ hg
    refine relay_at Z hg (by omega) fun g2 es' t' sb Z' p _ _ => ?_
    have hsz : es'.size = es.size := by rw [← Array.length_toList, p.length_eq, Array.length_toList]
    exact h g2 sb (setE_to Z' (fun e he => g e (p.mem_iff.mp he)) ((p.map keyOf).nodup_iff.mpr nd) (fun k => (hm k).trans (p.map keyOf).mem_iff.symm) (by rw [hsz]; exact hz))
  · refine wp_if_neg hc ?_
    exact wpAny_pure (h s.heap (Heap.SameBut.refl _ _) R)
end
end VL

set_option Elab.async false
set_option linter.all false
set_option maxRecDepth 100000
set_option maxHeartbeats 2000000
namespace VL
open PySem PySem.Spec PyProof.Rows L2
section
variable {P : Program} {w : World} {A : Around} {E : Value → Shared → Prop} {s : Shared} {a b r : Addr} {S T : Int → Bool} {n m : Nat}
theorem unseen_n {others : List Addr} (R : SetR w s.heap a S n) (ho' : ∀ x ∈ others, ∃ S n, SetR w s.heap x S n) {Q : Array (Int × Value) → Shared → Prop}
    (h : ∀ ys d, (∀ e ∈ ys.toList, GoodE e) → (ys.toList.map keyOf).Nodup → (∀ k, S k = true ↔ k ∈ ys.toList.map keyOf) → ys.size = n → Q ys { s with drawn := d }) :
    wpAny (model P w) A (setWalkUnseen a others none) Q E s := by
  have R0 := R
  obtain ⟨o, es, ep, t, ho, hx, hd, g, nd, hm, hb, hf, hn, hr, hl⟩ := R
  have done : ∀ ys : Array (Int × Value), ys.toList.Perm es.toList → (∀ e ∈ ys.toList, GoodE e) ∧ (ys.toList.map keyOf).Nodup ∧ (∀ k, S k = true ↔ k ∈ ys.toList.map keyOf) ∧ ys.size = n := fun ys p =>
    ⟨fun e he => g e (p.mem_iff.mp he), (p.map keyOf).nodup_iff.mpr nd, fun k => (hm k).trans (p.map keyOf).mem_iff.symm, by rw [← Array.length_toList, p.length_eq, Array.length_toList, hn]⟩
  have wk : wpAny (model P w) A (setWalk a) Q E s := walk_at ho hd hf hl fun ys d p => by
    obtain ⟨d1, d2, d3, d4⟩ := done ys p
    exact h ys d d1 d2 d3 d4
  unfold setWalkUnseen
  refine wpAny_bind (wpAny_setState_of ho hd hf ?_)
  dsimp only
  refine wpAny_bind (wpAny_byText ?_)
  by_cases hc : ((w.params.followText "set-order" || (t.led && t.plain)) || decide (es.size ≤ 1)) = true
  · refine wp_if_pos hc ?_
    exact wk
  · refine wp_if_neg hc ?_
    try refine wpAny_bind (wpAny_pure ?_)
    refine wpAny_bind (quiet_at (l := a :: others) (fun x hx => (List.mem_cons.mp hx).elim (fun z => by subst z; exact ⟨S, n, R0⟩) (ho' x)) fun k => ?_)
    cases k with
    | false =>
      refine wp_if_pos (by rfl) ?_
      exact wk
    | true =>
      refine wp_if_neg (by simp) ?_
      try refine wpAny_bind (wpAny_pure ?_)
      refine wpAny_bind (wpAny_rule ?_)
      obtain ⟨d1, d2, d3, d4⟩ := done es (List.Perm.refl _)
      exact wpAny_pure (h es s.drawn d1 d2 d3 d4)
theorem update_at {id : String} (R : SetR w s.heap r S n) (Rb : SetR w s.heap b T m) (ne : r ≠ b) (hn : n ≤ 60) (hm : m < n) {Q : Unit → Shared → Prop}
    (h : ∀ g d c, Heap.SameBut r s.heap g → SetR w g r (fun k => S k && !T k) c → c ≤ n → Q () { s with heap := g, drawn := d }) : wpAny (model P w) A (Builtin.Frozenset.differenceUpdate id r (.ref b)) Q E s := by
  unfold Builtin.Frozenset.differenceUpdate
  refine wp_if_neg (by simpa using Ne.symm ne) ?_
  try refine wpAny_bind (wpAny_pure ?_)
  refine wpAny_bind (anySet_at Rb ?_)
  refine wp_if_pos rfl ?_
  try refine wpAny_bind (wpAny_pure ?_)
  refine wpAny_bind (size_at Rb ?_)
  refine wpAny_bind (size_at R ?_)
  refine wp_if_neg (by omega) ?_
  try refine wpAny_bind (wpAny_pure ?_)
  have Rb2 := Rb
  obtain ⟨o, es, ep, t, ho, hx, hd, g, nd, hmm, hb, hf, hnn, hrr, hl⟩ := Rb
  refine wpAny_bind (wpAny_setEpoch_of ho hd hf ?_)
  refine wpAny_bind (wpAny_holding ?_)
  refine wpAny_bind (unseen_n Rb2 (fun x hx => ?_) fun ys d k1 k2 k3 k4 => ?_)
  · cases List.mem_singleton.mp hx; exact ⟨_, _, R⟩
  refine wpAny_bind (PySem.MeetsSeq2.wpAny_forIn_array _ (fun rest _ s2 => ∃ g c, s2 = { s with heap := g, drawn := d } ∧ Heap.SameBut r s.heap g ∧ (∀ e ∈ rest, GoodE e ∧ T (keyOf e) = true) ∧ (rest.map keyOf).Nodup ∧ SetR w g r (fun k => S k && !(T k && !decide (k ∈ rest.map keyOf))) c ∧ c ≤ n) _ ?_ ?_ _ _ ⟨s.heap, n, rfl, Heap.SameBut.refl _ _, fun e he => ⟨k1 e he, (k3 _).mpr (List.mem_map_of_mem he)⟩, k2, R.congr fun k => ?_, Nat.le_refl _⟩)
  · rintro ⟨x1, x2⟩ rest u s2 ⟨g2, c, rfl, sb2, q1, q2, q3, q4⟩
    obtain ⟨⟨k, tk, hk, hh⟩, hT⟩ := q1 _ (List.mem_cons_self ..)
    dsimp only at hk hh
    subst hk
    subst hh
    have hko : keyOf (hashInt k, Value.int k tk) = k := rfl
    rw [List.map_cons, hko] at q2 q3
    have q2' := List.nodup_cons.mp q2
    have hT : T k = true := hT
    dsimp only
    refine wpAny_bind (wpAny_holding (discard_at (s := { s with heap := g2, drawn := d }) q3 fun g3 c3 bb sb3 R3 hc3 => ?_))
    have ho3 : g3.get? b = some o := (sb3.2 b (Ne.symm ne)).trans ((sb2.2 b (Ne.symm ne)).trans ho)
    refine wpAny_bind (epoch_at (s := { s with heap := g3, drawn := d }) ho3 hd hf ?_)
    refine wpAny_pure ⟨g3, c3, rfl, sb2.trans sb3, fun e he => q1 e (List.mem_cons_of_mem _ he), q2'.2, R3.congr fun j => ?_, by omega⟩
    by_cases hj : j = k
    · subst hj
      simp only [hT, q2'.1, decide_false, decide_true, Bool.not_false, Bool.not_true, Bool.and_true, Bool.and_false]
    · simp only [List.mem_cons, hj, false_or, decide_false, Bool.not_false, Bool.and_true]
  · rintro u s2 ⟨g2, c, rfl, sb2, q1, q2, q3, q4⟩
    refine wpAny_pure ?_
    refine tidy_at (s := { s with heap := g2, drawn := d }) q3 (by omega) fun g3 sb3 R3 => ?_
    exact h g3 d c (sb2.trans sb3) (R3.congr fun k => by simp) q4
  · have := k3 k
    cases hT : T k with
    | false => simp
    | true => simp [this.mp hT]
end
end VL

set_option Elab.async false
set_option linter.all false
set_option maxRecDepth 100000
set_option maxHeartbeats 2000000
namespace VL
open PySem PySem.Spec PyProof.Rows L2
section
variable {P : Program} {w : World} {A : Around} {E : Value → Shared → Prop} {s : Shared} {a b : Addr} {S T : Int → Bool} {n m : Nat}
theorem diff_at {id : String} (R : SetR w s.heap a S n) (Rb : SetR w s.heap b T m) (hn : n ≤ 60) {Q : Value → Shared → Prop}
    (h : ∀ g d c, SetR w g s.heap.objs.size (fun k => S k && !T k) c → c ≤ n → (∀ x o, s.heap.get? x = some o → g.get? x = some o) → Q (.ref s.heap.objs.size) { s with heap := g, drawn := d }) : wpAny (model P w) A (Builtin.Frozenset.difference id a (.ref b)) Q E s := by
  by_cases hlt : n / 4 > m
  · unfold Builtin.Frozenset.difference
    refine wpAny_bind (anySet_at Rb ?_)
    refine wp_if_neg (by simp) ?_
    try refine wpAny_bind (wpAny_pure ?_)
    refine wpAny_bind (size_at Rb ?_)
    refine wpAny_bind (size_at R ?_)
    refine wp_if_pos hlt ?_
    refine wpAny_bind (wpAny_rule ?_)
    refine wpAny_bind (copy_at R hn fun g Rg pg => ?_)
    refine wpAny_bind (wpAny_pure ?_)
    have nb : s.heap.objs.size ≠ b := Ne.symm (Nat.ne_of_lt Rb.lt)
    refine wpAny_bind (wpAny_holding (update_at (s := { s with heap := g }) Rg (Rb.at (pg b)) nb hn (by omega) fun g2 d c sb R2 hc => ?_))
    refine wpAny_pure (h g2 d c R2 hc fun x o e => ?_)
    exact (sb.2 x (Nat.ne_of_lt (Heap.lt_size e))).trans (pg x o e)
  · exact diff_a R Rb (by show n + 1 < 4096; omega) hlt h
theorem entry_set_sub : entryFor table "set.__sub__" = some Builtin.«frozenset.__sub__» :=
  entryFor_alias (id' := "frozenset.__sub__") (by kernel_rfl) rfl (by decide +kernel) (by kernel_rfl)
theorem call_sub (R : SetR w s.heap a S n) (Rb : SetR w s.heap b T m) (hn : n ≤ 60) {Q : Value → Shared → Prop}
    (h : ∀ g d c tk, SetR w g s.heap.objs.size (fun k => S k && !T k) c → c ≤ n → (∀ x o, s.heap.get? x = some o → g.get? x = some o) → Q (.ref s.heap.objs.size) { s with heap := g, drawn := d, toks := tk }) : wpAny (model P w) A (binaryOp .Sub (.ref a) (.ref b)) Q E s := by
  refine wpAny_binaryOp_same (op := .Sub) (T := "set") (setR_type R) (setR_type Rb) F.fills_set_sub F.slot_set_sub ?_
  refine wpAny_call_entry F.slot_set_sub (setR_type R) entry_set_sub ?_ (F.args_set_sub_2 _ _)
  show wpAny _ _ (do
    let (self, other) ← Builtin.Frozenset.slot1 "__sub__" ⟨[.ref a, .ref b], []⟩
    let (l, r) := if false = true then (other, self) else (self, other)
    if !(← Builtin.Frozenset.isAnySet l <&&> Builtin.Frozenset.isAnySet r) then rule s!"frozenset.{"__sub__"}.declined"; return ← ret .notImplemented
    ret (← Builtin.Frozenset.difference s!"frozenset.{"__sub__"}" (← Builtin.Frozenset.addrOf l) r)) _ _ s
  unfold Builtin.Frozenset.slot1 slotArgs
  refine wpAny_bind (wpAny_of_eq (a := (Value.ref a, Value.ref b)) rfl ?_)
  refine wpAny_bind ?_
  unfold andM
  refine wpAny_bind (anySet_at R ?_)
  refine anySet_at Rb ?_
  refine wp_if_neg (by simp) ?_
  refine wpAny_bind (wpAny_of_eq (a := a) rfl ?_)
  refine wpAny_bind (diff_at R Rb hn fun g d c R2 hc pg => ?_)
  refine wpAny_pure ⟨_, rfl, by simp, ?_⟩
  exact h g d c s.toks R2 hc pg
end
end VL

set_option Elab.async false
set_option linter.all false
set_option maxRecDepth 100000
set_option maxHeartbeats 2000000
namespace VL
open PySem PySem.Spec PyProof.Rows L2
/-! ### sorted(set(xs) - set(ys)) -/
def rSubS (w : World) : R2 := fun x y H Q => ∃ (a b : Addr) (S T : Int → Bool) (n m : Nat), x = .ref a ∧ y = .ref b ∧ H a = some (SetO w a S n) ∧ H b = some (SetO w b T m) ∧ n ≤ 60 ∧
  ∀ (p : Addr) (c : Nat), H p = none → (∃ g, SetR w g p (fun k => S k && !T k) c) → Q (.ref p) (upd H p (SetO w p (fun k => S k && !T k) c))
theorem d_subS {X : Cx} : OpR X (binaryOp .Sub) (rSubS X.w) := by
  intro pins s σ H x y v u Q I rx ry h
  obtain ⟨a, b, S, T, n, m, rfl, rfl, ha, hb, hn, q⟩ := h
  cases rx
  cases ry
  refine call_sub (setO_get I ha) (setO_get I hb) hn fun g d c tk R2 hc pg => ?_
  have hf : H s.heap.objs.size = none := I.hok.fresh (Nat.le_refl _)
  have J : Inv X pins σ (upd H s.heap.objs.size (SetO X.w s.heap.objs.size (fun k => S k && !T k) c)) { s with heap := g, drawn := d, toks := tk } :=
    I.call (ch := []) (Un.laid pg (Nat.le_refl _) hf) (I.hok.laid pg (Nat.le_refl _) (setO_new R2)) I.bare (fun _ z => nomatch z)
  exact ⟨.ref s.heap.objs.size, _, J, rfl, q _ c hf ⟨g, R2⟩⟩
def mSortDiff (me mf : Me) : Me := fun Γ => (me Γ).bind fun p => (peek p.2 p.1).bind fun d => (intsD d).bind fun ns => (mf p.2).bind fun q => (peek q.2 q.1).bind fun e => (intsD e).bind fun ms => if ns.length ≤ 60 ∧ ms.length ≤ 60 then some (.fr (il (usI (ns.filter fun k => !decide (k ∈ ms)))), q.2) else none
theorem usI_le : ∀ l : List Int, (usI l).length ≤ l.length := fun l => by
  have ins : ∀ (k : Int) (l : List Int), (insU k l).length ≤ l.length + 1 := fun k l => by
    induction l with
    | nil => exact Nat.le_refl _
    | cons j l ih =>
      unfold insU
      split
      · exact Nat.le_refl _
      · split
        · exact Nat.le_succ _
        · exact Nat.succ_le_succ ih
  induction l with
  | nil => exact Nat.le_refl _
  | cons k l ih => exact Nat.le_trans (ins k (usI l)) (Nat.succ_le_succ ih)
section
variable {K : PySem.W.Frag}
theorem te_sortDiff {w : World} {te tf : TE} {me mf : Me} (h : TEok K te me) (k : TEok K tf mf) :
    TEok K (tCB (rSortedSet w) (tCons (tOp (rSubS w) (tCB (rSetC w K) (tCons te tNil)) (tCB (rSetC w K) (tCons tf tNil))) tNil)) (mSortDiff me mf) := fun A F Γ rs Γ' e σ G H g Q q => by
  obtain ⟨⟨r, Γ1⟩, e1, e⟩ := obind e
  obtain ⟨d, e2, e⟩ := obind e
  obtain ⟨ns, e3, e⟩ := obind e
  obtain ⟨⟨r2, Γ2⟩, e4, e⟩ := obind e
  obtain ⟨d2, e5, e⟩ := obind e
  obtain ⟨ms, e6, e⟩ := obind e
  by_cases hz : ns.length ≤ 60 ∧ ms.length ≤ 60
  case neg =>
    have e : (if ns.length ≤ 60 ∧ ms.length ≤ 60 then some (Rs.fr (il (usI (ns.filter fun k => !decide (k ∈ ms)))), Γ2) else none) = some (rs, Γ') := e
    rw [if_neg hz] at e
    cases e
  have e : (if ns.length ≤ 60 ∧ ms.length ≤ 60 then some (Rs.fr (il (usI (ns.filter fun k => !decide (k ∈ ms)))), Γ2) else none) = some (rs, Γ') := e
  rw [if_pos hz] at e
  cases e
  obtain ⟨z1, z2⟩ := hz
  refine h A F Γ r _ e1 σ G H g _ fun v G1 H1 s1 g1 h1 => ?_
  have k1 := peek_ok g1 h1 e2
  cases d with
  | list ds =>
    obtain ⟨a, xs, rfl, k1, k2⟩ := k1
    have ex := intsOf_vals k2 e3
    subst ex
    refine ⟨a, ns, rfl, k1, Nat.lt_of_le_of_lt (show ns.length + 1 ≤ 61 by omega) (by decide), fun p hp => ?_⟩
    have g2 := g1.frameNew (o := SetO w p (fun j => decide (j ∈ ns)) (usI ns).length) hp
    refine k A _ Γ1 r2 Γ' e4 σ G1 _ g2 _ fun v2 G2 H2 s2 g3 h3 => ?_
    have k3 := peek_ok g3 h3 e5
    cases d2 with
    | list ds2 =>
      obtain ⟨b, ys, rfl, k3, k4⟩ := k3
      have ex := intsOf_vals k4 e6
      subst ex
      refine ⟨b, ms, rfl, k3, Nat.lt_of_le_of_lt (show ms.length + 1 ≤ 61 by omega) (by decide), fun p2 hp2 => ?_⟩
      have hpp : H2 p = some (SetO w p (fun j => decide (j ∈ ns)) (usI ns).length) := g3.fr p _ upd_same
      have ne : p ≠ p2 := fun z => by rw [z, hp2] at hpp; cases hpp
      have g4 := g3.frameDrop (free_F g1 hp)
      have g5 := g4.new (o := SetO w p2 (fun j => decide (j ∈ ms)) (usI ms).length) hp2
      refine ⟨p, p2, _, _, _, _, rfl, rfl, (upd_ne ne).trans hpp, upd_same, by have := usI_le ns; omega, fun p3 c hp3 ⟨g9, R9⟩ => ?_⟩
      have g6 := g5.new (o := SetO w p3 (fun k => decide (k ∈ ns) && !decide (k ∈ ms)) c) hp3
      have hm : ∀ k, (decide (k ∈ ns) && !decide (k ∈ ms)) = true ↔ k ∈ ns.filter fun k => !decide (k ∈ ms) := fun k => by
        rw [List.mem_filter, Bool.and_eq_true, decide_eq_true_eq]
      have hc := setR_count R9 hm
      have hl : (usI (ns.filter fun k => !decide (k ∈ ms))).length < 64 := by
        have h1 := usI_le (ns.filter fun k => !decide (k ∈ ms))
        have h2 := List.length_filter_le (fun k => !decide (k ∈ ms)) ns
        omega
      refine rs_sorted (K := K) G2 _ p3 _ c _ (.fr (il (usI (ns.filter fun k => !decide (k ∈ ms))))) upd_same hm hc (by unfold fSortU; rw [if_pos hl]) Q fun v H' hrr => ?_
      obtain ⟨G3, s3, g7, h7⟩ := fin_ok g6 hrr
      exact q v G3 H' ((s1.trans s2).trans s3) g7 h7
    | _ => cases e6
  | _ => cases e3
end
end VL

set_option Elab.async false
set_option linter.all false
set_option maxRecDepth 100000
set_option maxHeartbeats 2000000
namespace VL
open PySem PySem.Spec PyProof.Rows L2
/-! ### name op= e, ints -/
def ipO (f : Int → Int → Option Int) : TIp := fun x y H Q => ∃ i j k, x = .int i ∧ y = .int j ∧ f i j = some k ∧ Q (.int k) H
def aAdd (i j : Int) : Option Int := some (i + j)
def aSub (i j : Int) : Option Int := some (i - j)
def aDiv (i j : Int) : Option Int := if 0 < j ∧ j.natAbs < BIG then some (i / j) else none
theorem g_add {X : Cx} : PIp X .Add (ipO aAdd) := by
  intro pins s σ H x y v u Q I r1 r2 ⟨i, j, k, e1, e2, e3, q⟩
  cases e3
  exact ip_add pins s σ H x y v u Q I r1 r2 ⟨i, j, e1, e2, q⟩
theorem g_sub {X : Cx} : PIp X .Sub (ipO aSub) := by
  intro pins s σ H x y v u Q I r1 r2 ⟨i, j, k, e1, e2, e3, q⟩
  cases e3
  exact ip_sub pins s σ H x y v u Q I r1 r2 ⟨i, j, e1, e2, q⟩
theorem g_div {X : Cx} : PIp X .FloorDiv (ipO aDiv) := by
  intro pins s σ H x y v u Q I r1 r2 ⟨i, j, k, e1, e2, e3, q⟩
  unfold aDiv at e3
  by_cases hj : 0 < j ∧ j.natAbs < BIG
  · rw [if_pos hj] at e3
    cases e3
    exact iop_fdivW pins s σ H x y v u Q I r1 r2 ⟨i, j, e1, e2, ⟨hj.1, Nat.lt_trans (big_log hj.2) (by decide)⟩, q⟩
  · rw [if_neg hj] at e3
    cases e3
section
variable {K : PySem.W.Frag}
def sAug (i : Nat) (f : Int → Int → Option Int) (me : Me) : Ms := fun Γ => match Γ[i]? with
  | some (some (.im (.int a))) => (me Γ).bind fun p => match p.1 with
    | .im (.int b) => (f a b).map fun c => .nx (p.2.set i (some (.im (.int c))))
    | _ => none
  | _ => none
theorem ts_aug {te : TE} {me : Me} {f : Int → Int → Option Int} (i : Nat) (h : TEok K te me) : TSok K (tAug i te (ipO f)) (sAug i f me) := fun A F Γ o e σ G H D g q => by
  unfold sAug at e
  split at e
  · rename_i a ea
    obtain ⟨⟨r, Γ1⟩, e1, e⟩ := obind e
    dsimp only at e
    split at e
    · rename_i b
      obtain ⟨c, ec, e⟩ := Option.map_eq_some_iff.mp e
      cases e
      obtain ⟨x, hx, hd⟩ := g.im ea
      cases hd
      refine ⟨_, hx, h A F Γ _ Γ1 e1 σ G H g _ fun v G1 H1 s1 g1 h1 => ?_⟩
      cases h1
      exact ⟨a, b, c, rfl, rfl, ec, q _ G1 H1 s1 (g1.asgIm (.int c) i)⟩
    · cases e
  · cases e
end
end VL

set_option Elab.async false
set_option linter.all false
set_option maxRecDepth 100000
set_option maxHeartbeats 2000000
namespace VL
open PySem PySem.Spec PyProof.Rows L2
section
variable {K : PySem.W.Frag}
/-! ### f([a, b ..]) of a display that nobody holds: its items stay what they are -/
def mSNL (f : List D → Option D) (ma : Ma) : Me := fun Γ => (ma Γ).bind fun p => (peekA p.2 p.1).bind fun ds => if ds.length ≤ LIM then (f [.list ds]).bind fun z => if isSc z then some (.im z, p.2) else none else none
theorem te_snL {f : List D → Option D} {ta : TA} {ma : Ma} (ha : TAok K ta ma) : TEok K (tCB (rSN K f) (tCons (tLst ta) tNil)) (mSNL f ma) := fun A F Γ rs Γ' e σ G H g Q q => by
  obtain ⟨⟨r1, Γ1⟩, e1, e⟩ := obind e
  obtain ⟨ds, e2, e⟩ := obind e
  by_cases hz : ds.length ≤ LIM
  · rw [if_pos hz] at e
    obtain ⟨z, e3, e⟩ := obind e
    by_cases hs : isSc z = true
    · rw [if_pos hs] at e
      cases e
      refine ha A F Γ r1 _ e1 σ G H g _ fun vs G1 H1 s1 g1 h1 => ?_
      have hd := PkA.dv g1.ex (peekA_ok g1 h1 e2)
      refine ⟨by rw [hd.length]; exact lim_line hz, fun p hp => ?_⟩
      refine ⟨[.list ds], z, .cons (.lst (SqL.of upd_same) (hd.mono (same_new hp))) .nil, e3, ?_⟩
      exact q _ G1 _ s1 (g1.new hp) (dv_sc hs)
    · rw [if_neg hs] at e
      cases e
  · rw [if_neg hz] at e
    cases e
/-! ### x.reverse() -/
def mRevM (mo : Me) : Me := fun Γ => (mo Γ).bind fun p => (peek p.2 p.1).bind fun d => (isL d).bind fun _ => slotUp p.2 (fun ds => some (.none, ds.reverse)) p.1
theorem DvA.reverse {G : Hp} : ∀ {vs : List V} {ds : List D}, DvA K G vs ds → DvA K G vs.reverse ds.reverse
  | _, _, .nil => .nil
  | _, _, .cons h t => by
    rw [List.reverse_cons, List.reverse_cons]
    exact (DvA.reverse t).append (.one h)
theorem te_revM {to : TE} {mo : Me} (ho : TEok K to mo) : TEok K (tBM0 K "list" rReverse to) (mRevM mo) := fun A F Γ rs Γ' e σ G H g Q q => by
  obtain ⟨⟨r, Γ1⟩, e1, e⟩ := obind e
  obtain ⟨dl, el, e⟩ := obind e
  obtain ⟨_, el2, e⟩ := obind e
  obtain ⟨j, b, ds, d2, ds', er, e5, e6, er2, e10⟩ := slotUp_some e
  have er : r = .sl j := er
  subst er er2
  cases e6
  refine ho A F Γ _ Γ1 e1 σ G H g _ fun v G1 H1 s1 g1 h1 => ?_
  refine ⟨ty_list g1 h1 el el2, ?_⟩
  have h1 : σ[j]? = some (some v) := h1
  obtain ⟨a, xs, k1, k2, k3, k4, _⟩ := g1.ow e5
  rw [h1] at k1
  cases k1
  refine ⟨a, xs, rfl, rfl, k3, ?_⟩
  have gm := g1.mut e5 h1 (DvA.reverse k4)
  have e10 : Γ' = _ := e10
  rw [← e10] at gm
  exact q .non G1 _ s1 gm .non
end
end VL

set_option Elab.async false
set_option linter.all false
set_option maxRecDepth 100000
set_option maxHeartbeats 2000000
namespace VL
open PySem PySem.Spec PyProof.Rows L2
section
variable {K : PySem.W.Frag} {A : Addr} {F : Hp} {Γ : Gm} {σ : L2.St} {G H : Hp} {ds : List D} {a : Addr} {xs : List V}
/-- a slot's own list stands still for a while -/
theorem GS.lend (g : GS K A F Γ σ G H) {i : Nat} {b : Bool} (e : Γ[i]? = some (some (.ow b ds))) (ha : σ[i]? = some (some (.ref a))) (h0 : G a = none) (hH : H a = some (.lst xs)) : GS K A (upd F a (.lst xs)) (Γ.set i none) σ G H where
  ex := g.ex
  fr := fun c u hc => by
    by_cases h : c = a
    · subst h
      rw [upd_same] at hc
      cases hc
      exact hH
    · rw [upd_ne h] at hc
      exact g.fr c u hc
  dj := fun c hc => by
    by_cases h : c = a
    · subst h
      exact h0
    · rw [upd_ne h] at hc
      exact g.dj c hc
  len := by rw [List.length_set]; exact g.len
  sl := fun j o ej => by
    rcases set_get ej with ⟨_, rfl⟩ | ⟨_, ej⟩
    · trivial
    · exact g.sl j o ej
  of := fun j c es x ej ex => by
    rcases set_get ej with ⟨_, q⟩ | ⟨hj, ej⟩
    · cases q
    · have hx : x ≠ a := fun z => hj (g.ne i j b c ds es a e ej ha (by rw [← z]; exact ex))
      rw [upd_ne hx]
      exact g.of j c es x ej ex
  ne := fun j k c c' es fs x e1 e2 e3 e4 => by
    rcases set_get e1 with ⟨_, q⟩ | ⟨_, e1⟩
    · cases q
    · rcases set_get e2 with ⟨_, q⟩ | ⟨_, e2⟩
      · cases q
      · exact g.ne j k c c' es fs x e1 e2 e3 e4
theorem GS.giveBack {G' H' : Hp} (g : GS K A (upd F a (.lst xs)) Γ σ G' H') {i : Nat} (b : Bool) (hi : σ[i]? = some (some (.ref a))) (hF : F a = none) (hd : DvA K G' xs ds) (hb : b = true → a = A) : GS K A F (Γ.set i (some (.ow b ds))) σ G' H' where
  ex := g.ex
  fr := fun c u hc => g.fr c u (by rw [upd_ne (ne_of_none hc hF)]; exact hc)
  dj := fun c hc => g.dj c (by
    by_cases h : c = a
    · subst h
      exact absurd hF hc
    · rw [upd_ne h]
      exact hc)
  len := by rw [List.length_set]; exact g.len
  sl := fun j o ej => by
    rcases set_get ej with ⟨rfl, rfl⟩ | ⟨_, ej⟩
    · exact ⟨a, xs, hi, g.dj a (by rw [upd_same]; intro z; cases z), g.fr a _ upd_same, hd, hb⟩
    · exact g.sl j o ej
  of := fun j c es x ej ex => by
    rcases set_get ej with ⟨rfl, _⟩ | ⟨_, ej⟩
    · rw [hi] at ex
      cases ex
      exact hF
    · have q := g.of j c es x ej ex
      by_cases h : x = a
      · subst h
        exact hF
      · rw [upd_ne h] at q
        exact q
  ne := fun j k c c' es fs x e1 e2 e3 e4 => by
    have no : ∀ (m : Nat) d es, Γ[m]? = some (some (.ow d es)) → σ[m]? ≠ some (some (.ref a)) := fun m d es h z => by
      have q := g.of m d es a h z
      rw [upd_same] at q
      cases q
    rcases set_get e1 with ⟨rfl, _⟩ | ⟨_, e1⟩
    · rcases set_get e2 with ⟨rfl, _⟩ | ⟨_, e2⟩
      · rfl
      · rw [hi] at e3
        cases e3
        exact absurd e4 (no k c' fs e2)
    · rcases set_get e2 with ⟨rfl, _⟩ | ⟨_, e2⟩
      · rw [hi] at e4
        cases e4
        exact absurd e3 (no j c es e1)
      · exact g.ne j k c c' es fs x e1 e2 e3 e4
/-- a comprehension over the list that a slot holds as its own; it is the slot's own behind it, too -/
def mLcO (i : Nat) (mt : D → Gm → Option Gm) (mc : Mt) (me : Me) (vs : List Nat) : Me := fun Γ => match Γ[i]? with
  | some (some (.ow b ds)) => if hidOk (Γ.set i none) vs && decide (ds.length ≤ LIM) then (lcGo mt mc me vs ds (wipeG (Γ.set i none) vs) []).bind fun q => some (.fr q.1, (mergeG (Γ.set i none) q.2 vs).set i (some (.ow b ds))) else none
  | _ => mLc (mWalk (mVar i)) mt mc me vs Γ
theorem te_lcO {g : TG} {tt : TT} {te : TE} {mt : D → Gm → Option Gm} {mc : Mt} {me : Me} {S vs : List Nat} (i0 : Nat) (hg : TGok K g mt S) (hc : TTok K tt mc) (he : TEok K te me) (hS : ∀ i ∈ S, i ∈ vs) :
    TEok K (tLc (iList K (tVar i0)) g tt te vs) (mLcO i0 mt mc me vs) := fun A F Γ rs Γ' e σ G H gs Q q => by
  unfold mLcO at e
  split at e
  case h_2 => exact te_lc (it_list (te_var i0)) hg hc he hS A F Γ rs Γ' e σ G H gs Q q
  rename_i bO ds eO
  split at e
  case isFalse => cases e
  rename_i hh
  obtain ⟨hid, hz⟩ := Bool.and_eq_true_iff.mp hh
  have hz := of_decide_eq_true hz
  obtain ⟨⟨out, Γb⟩, e2, e⟩ := obind e
  cases e
  obtain ⟨a, ys, o1, o2, o3, o4, o5⟩ := gs.ow eO
  have hF := gs.of i0 bO ds a eO o1
  have g1 := gs.lend eO o1 o2 o3
  have lys : ys.length = ds.length := o4.length
  refine ⟨.ref a, o1, a, rfl, ⟨ys, SqL.of o3⟩, ?_⟩
  intro Dl hD
  have hDa : Dl ≠ a := fun z => by
    rw [z, o3] at hD
    cases hD
  have hDF : upd F a (.lst ys) Dl = none := by
    rw [upd_ne hDa]
    exact free_F gs hD
  refine lc_it (walk_list (K := K) (a := a) (xs := ys)) (fun i Hi => ∃ Γi Gi xs acc, lcGo mt mc me vs (ds.drop i) Γi acc = some (out, Γb) ∧ Same G Gi ∧ GS K A (upd (upd F a (.lst ys)) Dl (.lst xs)) Γi (wipe σ vs) Gi Hi ∧ DvA K Gi xs acc ∧ acc.length ≤ i) ?_ ?_ ?_ ?_
  · exact ⟨wipeG (Γ.set i0 none) vs, G, [], [], by rw [List.drop_zero]; exact e2, Same.refl _, (g1.wiped vs).frameNew hD, .nil, Nat.zero_le _⟩
  · rintro i Hi _ ⟨Γi, Gi, xs, acc, _, k2, k3, _⟩
    exact SqL.of (k3.fr a _ (by rw [upd_ne (Ne.symm hDa)]; exact upd_same))
  · rintro i x Hi H' hi ⟨Γi, Gi, xs, acc, k1, k2, k3, k4, k5⟩ y
    obtain ⟨yH, y2⟩ := y
    subst yH
    obtain ⟨d, r3, r1⟩ := o4.getV y2
    have hdrop : ds.drop i = d :: ds.drop (i + 1) := by
      have hlt := lt_of_get r3
      rw [List.drop_eq_getElem_cons hlt]
      congr 1
      exact Option.some.inj ((List.getElem?_eq_getElem hlt).symm.trans r3)
    rw [hdrop] at k1
    obtain ⟨⟨od, Γt⟩, t1, k1⟩ := obind k1
    obtain ⟨Γ2, t2, t1⟩ := obind t1
    obtain ⟨⟨b, Γ3⟩, t3, t1⟩ := obind t1
    refine hg A _ Γi d Γ2 t2 (wipe σ vs) Gi _ x k3 (r1.mono k2) _ fun σ3 g3 w3 => ?_
    have w3' := w3 vs hS
    rw [wipe_wipe] at w3'
    refine ⟨w3', ?_⟩
    refine hc A _ Γ2 b Γ3 t3 σ3 Gi _ g3 _ fun G4 H4 s4 g4 => ?_
    cases b with
    | false =>
      have t1 : some (none, Γ3) = some (od, Γt) := t1
      cases t1
      refine iteF ⟨wipeG Γt vs, G4, xs, acc, ?_, k2.trans s4, ?_, k4.mono s4, by omega⟩
      · rw [show acc ++ (none : Option D).toList = acc by simp] at k1
        exact k1
      · have := g4.wiped vs
        rw [w3'] at this
        exact this
    | true =>
      have t1 : ((me Γ3).bind fun q => (frz q.2 q.1).bind fun u => some (some u.1, u.2)) = some (od, Γt) := t1
      obtain ⟨⟨rv, Γ5⟩, t5, t1⟩ := obind t1
      obtain ⟨⟨dv, Γ6⟩, t6, t1⟩ := obind t1
      cases t1
      refine iteT (he A _ Γ3 rv Γ5 t5 σ3 G4 H4 g4 _ fun y G5 H5 s5 g5 h5 => ?_)
      obtain ⟨G6, s6, g6, h6⟩ := frz_ok g5 h5 t6
      refine ⟨xs, g6.fr Dl _ upd_same, ?_, ?_⟩
      · rw [k4.length]
        exact lim_lt (by omega)
      · refine ⟨wipeG Γ6 vs, G6, xs ++ [y], acc ++ [dv], k1, (k2.trans s4).trans (s5.trans s6), ?_, (k4.mono (s4.trans (s5.trans s6))).append (.one h6), ?_⟩
        · have := (g6.wiped vs).frameSet (o' := .lst (xs ++ [y]))
          rw [w3'] at this
          exact this
        · rw [List.length_append]
          show acc.length + 1 ≤ i + 1
          omega
  · rintro H9 ⟨Γi, Gi, xs, acc, k1, k2, k3, k4, _⟩
    rw [lys, List.drop_length] at k1
    cases k1
    have g9 := k3.frameDrop hDF
    have gm := g1.merged hid g9 k2
    have gf := gm.giveBack bO o1 hF (o4.mono k2) o5
    refine q (.ref Dl) Gi H9 k2 gf ⟨Dl, xs, rfl, k3.dj Dl (by rw [upd_same]; intro z; cases z), free_F gs hD, k3.fr Dl _ upd_same, k4, fun i c es ei z => ?_⟩
    rcases set_get ei with ⟨rfl, _⟩ | ⟨_, ei⟩
    · rw [o1] at z
      cases z
      exact hDa rfl
    · have noOw : i ∉ vs ∧ Γb[i]? = some (some (.ow c es)) := by
        rcases mergeG_get ei with ⟨q1, q2⟩ | q
        · have := List.all_eq_true.mp hid i q1
          rw [q2] at this
          cases this
        · exact q
      exact k3.frameSl i c es noOw.2 (by rw [wipe_out noOw.1]; exact z)
end
end VL

set_option Elab.async false
set_option linter.all false
set_option maxRecDepth 100000
set_option exponentiation.threshold 4000
namespace SH
open PySem PySem.Spec PyProof.Rows L2 VL
def m_law_source : Ms := (sSeq (sAsg 2 (mCB (imN fAbs) (mCons (mVar 0) mNil))) (sRet (mSeq false (mCons (mCB (imN fMax2) (mCons (mC (.int 0)) (mCons (m2 (im2 fSub) (mVar 2) (m2 (im2 fPow) (mC (.int 10)) (mC (.int 18)))) mNil))) (mCons (m2 fAdd (m2 fAdd (m2 fMul (m2 (im2 fMod) (mCB (imN fInt) (mCons (mVar 2) mNil)) (m2 fAdd (m2 (im2 fPow) (mC (.int 10)) (mC (.int 44))) (mC (.int 31)))) (mC (.int 97))) (m2 fMul (mC (.int 2)) (mVar 1))) (mCB (imN fInt) (mCons (m2 (im2 (bl2 gLt)) (mVar 0) (mC (.int 0))) mNil))) (mCons (mC (.int 0)) mNil))))))
abbrev d_law_source : List D → Option Fr := fnV 2 3 m_law_source
def m_law_draw : Ms := (sSeq (sIf (mB (m2 (im2 (bl2 gGt)) (m2 fIx (mVar 0) (mC (.int 0))) (mC (.int 0)))) (sSeq (sAsg 3 (m2 (im2 fMod) (mCB (imN fInt) (mCons (m2 fIx (mVar 0) (mC (.int 0))) mNil)) (mVar 1))) (sSeq (sSetL (m2 (im2 fDiv) (m2 fIx (mVar 0) (mC (.int 0))) (mVar 1)) (mVar 0) (mC (.int 0))) (sRet (mVar 3)))) sNext) (sSeq (sSetL (m2 fAdd (m2 fIx (mVar 0) (mC (.int 2))) (mC (.int 1))) (mVar 0) (mC (.int 2))) (sSeq (sAsg 2 (m2 (im2 fMod) (mCB (imN fInt) (mCons (m2 (im2 fPow) (m2 fAdd (m2 fIx (mVar 0) (mC (.int 1))) (m2 fMul (mC (.int 900007)) (m2 fIx (mVar 0) (mC (.int 2))))) (mC (.int 3))) mNil)) (m2 fAdd (m2 (im2 fPow) (mC (.int 10)) (mC (.int 39))) (mC (.int 3))))) (sSeq (sAsg 2 (m2 (im2 fMod) (mCB (imN fInt) (mCons (m2 (im2 fPow) (m2 fAdd (m2 fMul (mVar 2) (m2 fIx (mVar 0) (mC (.int 2)))) (mC (.int 60013))) (mC (.int 3))) mNil)) (m2 fAdd (m2 (im2 fPow) (mC (.int 10)) (mC (.int 40))) (mC (.int 121))))) (sRet (m2 (im2 fMod) (mCB (imN fInt) (mCons (m2 (im2 fDiv) (mVar 2) (mC (.int 104729))) mNil)) (mVar 1)))))))
abbrev d_law_draw : List D → List D → Option (Fr × List D) := fnS 2 4 m_law_draw
def plaw_source_0 : Ms := (sAsg 2 (mCB (imN fAbs) (mCons (mVar 0) mNil)))
def plaw_source_1 : Ms := (sRet (mSeq false (mCons (mCB (imN fMax2) (mCons (mC (.int 0)) (mCons (m2 (im2 fSub) (mVar 2) (m2 (im2 fPow) (mC (.int 10)) (mC (.int 18)))) mNil))) (mCons (m2 fAdd (m2 fAdd (m2 fMul (m2 (im2 fMod) (mCB (imN fInt) (mCons (mVar 2) mNil)) (m2 fAdd (m2 (im2 fPow) (mC (.int 10)) (mC (.int 44))) (mC (.int 31)))) (mC (.int 97))) (m2 fMul (mC (.int 2)) (mVar 1))) (mCB (imN fInt) (mCons (m2 (im2 (bl2 gLt)) (mVar 0) (mC (.int 0))) mNil))) (mCons (mC (.int 0)) mNil)))))
theorem plaw_source_eq : m_law_source = (sSeq plaw_source_0 plaw_source_1) := rfl
def plaw_draw_0 : Ms := (sIf (mB (m2 (im2 (bl2 gGt)) (m2 fIx (mVar 0) (mC (.int 0))) (mC (.int 0)))) (sSeq (sAsg 3 (m2 (im2 fMod) (mCB (imN fInt) (mCons (m2 fIx (mVar 0) (mC (.int 0))) mNil)) (mVar 1))) (sSeq (sSetL (m2 (im2 fDiv) (m2 fIx (mVar 0) (mC (.int 0))) (mVar 1)) (mVar 0) (mC (.int 0))) (sRet (mVar 3)))) sNext)
def plaw_draw_1 : Ms := (sSetL (m2 fAdd (m2 fIx (mVar 0) (mC (.int 2))) (mC (.int 1))) (mVar 0) (mC (.int 2)))
def plaw_draw_2 : Ms := (sAsg 2 (m2 (im2 fMod) (mCB (imN fInt) (mCons (m2 (im2 fPow) (m2 fAdd (m2 fIx (mVar 0) (mC (.int 1))) (m2 fMul (mC (.int 900007)) (m2 fIx (mVar 0) (mC (.int 2))))) (mC (.int 3))) mNil)) (m2 fAdd (m2 (im2 fPow) (mC (.int 10)) (mC (.int 39))) (mC (.int 3)))))
def plaw_draw_3 : Ms := (sAsg 2 (m2 (im2 fMod) (mCB (imN fInt) (mCons (m2 (im2 fPow) (m2 fAdd (m2 fMul (mVar 2) (m2 fIx (mVar 0) (mC (.int 2)))) (mC (.int 60013))) (mC (.int 3))) mNil)) (m2 fAdd (m2 (im2 fPow) (mC (.int 10)) (mC (.int 40))) (mC (.int 121)))))
def plaw_draw_4 : Ms := (sRet (m2 (im2 fMod) (mCB (imN fInt) (mCons (m2 (im2 fDiv) (mVar 2) (mC (.int 104729))) mNil)) (mVar 1)))
theorem plaw_draw_eq : m_law_draw = (sSeq plaw_draw_0 (sSeq plaw_draw_1 (sSeq plaw_draw_2 (sSeq plaw_draw_3 plaw_draw_4)))) := rfl
theorem big_of {i : Int} (h0 : -(10^500) ≤ i) (h : i ≤ 10^500) : i.natAbs < BIG := by
  have : (10:Int)^500 < ((2^3000 : Nat) : Int) := by decide +kernel
  unfold BIG; omega
theorem draw (x y z c : Int) (hx : 0 ≤ x) (hy : 0 ≤ y) (hy2 : y ≤ 10^60) (hz : 0 ≤ z) (hz2 : z ≤ 10^6) (hc : 1 ≤ c) (hc2 : c ≤ 10^60) :
    ∃ r x' z', d_law_draw [.int x, .int y, .int z] [.int c] = some (.im (.int r), [.int x', .int y, .int z']) ∧ 0 ≤ r ∧ r < c ∧ 0 ≤ x' ∧ z ≤ z' ∧ z' ≤ z + 1 := by
  have c0 : 0 < c := by omega
  have cB : c.natAbs < BIG := big_of (by omega) (by omega)
  by_cases h : 0 < x
  · refine ⟨x % c, x / c, z, ?_, Int.emod_nonneg _ (by omega), Int.emod_lt_of_pos _ c0, Int.ediv_nonneg hx (by omega), by omega, by omega⟩
    simp [d_law_draw, m_law_draw, fnS, startS, sSeq, sIf, mB, m2, im2, bl2, gGt, gInt, fIx, mVar, mVarO, mC, peek, peekO, hold, fin, isSc, h, sAsg, asgR, mCB, imN, fInt, mCons, mNil, peekA, fMod, ii, sSetL, frz, fDiv, intR, slotUp, sRet, retR, bodyS, ss0, atI, ixN, c0, cB]
  · have e1 : (y + 900007 * (z+1)).natAbs < BIG := big_of (by omega) (by omega)
    generalize ea : (y + 900007 * (z+1)) = a at e1
    generalize eb : a ^ 3 % (10 ^ 39 + 3) = b
    have b0 : 0 ≤ b := by rw [← eb]; exact Int.emod_nonneg _ (by decide +kernel)
    have b1 : b < 10^39+3 := by rw [← eb]; exact Int.emod_lt_of_pos _ (by decide +kernel)
    have b2 : 0 ≤ b * (z+1) := Int.mul_nonneg b0 (by omega)
    have b3 : b * (z+1) ≤ (10^39+3) * (10^6+1) := Int.mul_le_mul (by omega) (by omega) (by omega) (by decide +kernel)
    have e2 : (b * (z+1) + 60013).natAbs < BIG := big_of (by omega) (by omega)
    have e3 : b.natAbs < BIG := big_of (by omega) (by omega)
    have e4 : (z+1).natAbs < BIG := big_of (by omega) (by omega)
    have e5 : (900007 : Nat) < BIG := by unfold BIG; decide +kernel
    have e6 : (10 : Nat) < BIG := by unfold BIG; decide +kernel
    have e7 : (104729 : Nat) < BIG := by unfold BIG; decide +kernel
    simp at eb
    refine ⟨(b * (z+1) + 60013) ^ 3 % 10000000000000000000000000000000000000121 / 104729 % c, x, z+1, ?_, Int.emod_nonneg _ (by omega), Int.emod_lt_of_pos _ c0, hx, by omega, by omega⟩
    simp [d_law_draw, m_law_draw, fnS, startS, sSeq, sIf, mB, m2, im2, bl2, gGt, gInt, fIx, mVar, mVarO, mC, peek, peekO, hold, fin, isSc, h, sAsg, asgR, mCB, imN, fInt, mCons, mNil, peekA, fMod, ii, sSetL, frz, fDiv, intR, slotUp, sRet, retR, bodyS, ss0, atI, ixN, c0, cB, fAdd, fMul, fPow, sNext, ea, eb, e1, e2, e3, e4, e5, e6, e7]
def Src (B : Int) (ss : List D) : Prop := ∃ x y z : Int, ss = [.int x, .int y, .int z] ∧ 0 ≤ x ∧ 0 ≤ y ∧ y ≤ 10 ^ 60 ∧ 0 ≤ z ∧ z ≤ B
theorem Src.mono {B C : Int} {ss : List D} (h : Src B ss) (hc : B ≤ C) : Src C ss := by
  obtain ⟨x, y, z, h0, h1, h2, h3, h4, h5⟩ := h
  exact ⟨x, y, z, h0, h1, h2, h3, h4, by omega⟩
theorem drawS {B c : Int} {ss : List D} (h : Src B ss) (hB : B ≤ 10 ^ 5) (h1 : 1 ≤ c) (h2 : c ≤ 10 ^ 50) : ∃ r ss', d_law_draw ss [.int c] = some (.im (.int r), ss') ∧ 0 ≤ r ∧ r < c ∧ Src (B + 1) ss' := by
  obtain ⟨x, y, z, rfl, k1, k2, k3, k4, k5⟩ := h
  obtain ⟨r, x', z', e, r1, r2, r3, r4, r5⟩ := draw x y z c k1 k2 k3 k4 (by omega) h1 (by omega)
  exact ⟨r, _, e, r1, r2, x', y, z', rfl, r3, k2, k3, by omega, by omega⟩
theorem source (cell k : Int) (h0 : 0 ≤ k) (h1 : k ≤ 100) : ∃ ss, d_law_source [.int cell, .int k] = some (.fr ss) ∧ Src 0 ss := by
  have e6 : (10 : Nat) < BIG := by unfold BIG; decide +kernel
  have e7 : (97 : Nat) < BIG := by unfold BIG; decide +kernel
  have e8 : (2 : Nat) < BIG := by unfold BIG; decide +kernel
  have e9 : k.natAbs < BIG := big_of (by omega) (by omega)
  generalize eg : (if cell < 0 then -cell else cell) = g
  generalize em : g % 100000000000000000000000000000000000000000031 = m
  have m0 : 0 ≤ m := by rw [← em]; exact Int.emod_nonneg _ (by decide +kernel)
  have m1' : m < 100000000000000000000000000000000000000000031 := by rw [← em]; exact Int.emod_lt_of_pos _ (by decide +kernel)
  have e10 : m.natAbs < BIG := big_of (by omega) (by omega)
  generalize eb : (if decide (cell < 0) = true then (1:Int) else 0) = b
  have hb : 0 ≤ b ∧ b ≤ 1 := by rw [← eb]; split <;> omega
  refine ⟨[.int (if 0 < g - 1000000000000000000 then g - 1000000000000000000 else 0), .int (m * 97 + 2 * k + b), .int 0], ?_, _, _, _, rfl, ?_, by omega, by omega, by omega, by omega⟩
  · show bodyR (m_law_source [some (.im (.int cell)), some (.im (.int k)), none]) = _
    simp only [decide_eq_true_eq] at eb
    simp [m_law_source, sSeq, sAsg, mCB, imN, fAbs, mCons, mNil, mVar, mVarO, mC, hold, peekA, peek, peekO, isSc, fin, asgR, sRet, mSeq, fMax2, m2, im2, fSub, ii, fPow, e6, e7, e8, e9, e10, fAdd, fMul, fMod, fInt, bl2, gLt, gInt, eg, em, frzA, frz, LIM, retR, bodyR, eb]
  · split <;> omega
theorem m0 {P : D → Prop} : ∀ d ∈ ([] : List D), P d := fun _ h => nomatch h
theorem mc {P : D → Prop} {a : D} {l : List D} (h : P a) (t : ∀ d ∈ l, P d) : ∀ d ∈ a :: l, P d := fun d hd => by
  cases hd with
  | head => exact h
  | tail _ hd => exact t d hd
theorem ma {P : D → Prop} {l k : List D} (h : ∀ d ∈ l, P d) (t : ∀ d ∈ k, P d) : ∀ d ∈ l ++ k, P d := fun d hd => (List.mem_append.mp hd).elim (h d) (t d)
theorem shA {n : Nat} : ∀ {ds : List D}, (∀ d ∈ ds, SeqAt.shaped d = true ∧ d.depth ≤ n) → PyData.canLayAll0 ds = true ∧ PyData.depthAll ds ≤ n
  | [], _ => ⟨rfl, Nat.zero_le _⟩
  | d :: ds, h => by
    obtain ⟨h1, h2⟩ := shA (ds := ds) fun e he => h e (List.mem_cons_of_mem _ he)
    obtain ⟨h3, h4⟩ := h d (List.mem_cons_self ..)
    have h3 : (d.canLay0 && decide (d.depth ≤ 64)) = true := h3
    rw [Bool.and_eq_true] at h3
    refine ⟨?_, ?_⟩
    · show (d.canLay0 && PyData.canLayAll0 ds) = true
      rw [h3.1, h1]
      rfl
    · show max d.depth (PyData.depthAll ds) ≤ n
      omega
theorem shL {n : Nat} {ds : List D} (h : ∀ d ∈ ds, SeqAt.shaped d = true ∧ d.depth ≤ n) (hn : n ≤ 63) : SeqAt.shaped (.list ds) = true := by
  obtain ⟨h1, h2⟩ := shA h
  show (PyData.canLayAll0 ds && decide (PyData.depthAll ds + 1 ≤ 64)) = true
  rw [h1, decide_eq_true (by omega)]
  rfl
theorem shT {n : Nat} {ds : List D} (h : ∀ d ∈ ds, SeqAt.shaped d = true ∧ d.depth ≤ n) (hn : n ≤ 63) : SeqAt.shaped (.tuple ds) = true := by
  obtain ⟨h1, h2⟩ := shA h
  show (PyData.canLayAll0 ds && decide (PyData.depthAll ds + 1 ≤ 64)) = true
  rw [h1, decide_eq_true (by omega)]
  rfl
end SH

set_option Elab.async false
set_option linter.all false
set_option maxRecDepth 100000
set_option exponentiation.threshold 4000
namespace VL
open PySem PySem.Spec PyProof.Rows L2
theorem lc_eq {mi : Mi} {mt : D → Gm → Option Gm} {mc : Mt} {me : Me} {vs : List Nat} {Γ Γ1 Γ2 : Gm} {ds es : List D} (h1 : mi Γ = some (ds, Γ1)) (h2 : hidOk Γ1 vs = true) (h3 : ds.length ≤ LIM) (h4 : lcGo mt mc me vs ds (wipeG Γ1 vs) [] = some (es, Γ2)) : mLc mi mt mc me vs Γ = some (.fr es, mergeG Γ1 Γ2 vs) := by
  unfold mLc
  rw [h1]
  simp only [Option.bind_some, h2, Bool.true_and, decide_eq_true h3, if_true, h4]
theorem asg_fr {i : Nat} {me : Me} {Γ Γ' : Gm} {es : List D} (h : me Γ = some (.fr es, Γ')) : sAsg i me Γ = some (.nx (Γ'.set i (some (.ow false es)))) := by
  unfold sAsg
  rw [h]
  rfl
theorem rangeD_len (lo : Int) (n : Nat) : (rangeD lo n).length = n := by
  unfold rangeD
  rw [List.length_map, List.length_range]
theorem rangeD_mem {n : Nat} {d : D} (h : d ∈ rangeD 0 n) : ∃ k : Int, d = .int k ∧ 0 ≤ k ∧ k < n := by
  unfold rangeD at h
  obtain ⟨i, h1, rfl⟩ := List.mem_map.mp h
  have := List.mem_range.mp h1
  exact ⟨0 + (i : Int), rfl, by omega, by omega⟩
theorem at_of {l : List D} {i : Int} (h1 : 0 ≤ i) (h2 : i < l.length) : ∃ d, atI l i = some d ∧ d ∈ l := by
  have hlt : i.toNat < l.length := by omega
  refine ⟨l[i.toNat], ?_, List.getElem_mem hlt⟩
  unfold atI ixN
  rw [if_pos h1, if_pos h2]
  exact List.getElem?_eq_getElem hlt
theorem ixN_of {n : Nat} {i : Int} (h1 : 0 ≤ i) (h2 : i < n) : ixN n i = some i.toNat := by
  unfold ixN
  rw [if_pos h1, if_pos h2]
end VL
namespace SH
open PySem PySem.Spec PyProof.Rows L2 VL
def m_law_content : Ms := (sSeq (sPar2 4 5 (mCallS d_law_draw (mCons (mVar 0) (mCons (mC (.int 4)) mNil))) (mSeq false mNil)) (sSeq (sFor (mRng rng1 (mCons (mVar 1) mNil)) (gmName 3) (sSeq (sAsg 6 (mIf (mB (mVar 2)) (m2 (im2 fSub) (mCallS d_law_draw (mCons (mVar 0) (mCons (m2 fAdd (m2 fMul (mC (.int 2)) (m2 (im2 fPow) (mC (.int 10)) (mC (.int 30)))) (mC (.int 1))) mNil))) (m2 (im2 fPow) (mC (.int 10)) (mC (.int 30)))) (mCallS d_law_draw (mCons (mVar 0) (mCons (mC (.int 99)) mNil))))) (sDrop (mApp (mVar 5) (m2 fIx (mSeq false (mCons (mVar 6) (mCons (mCallS d_law_draw (mCons (mVar 0) (mCons (m2 fAdd (mC (.int 1)) (m2 (im2 fDiv) (mVar 1) (mC (.int 2)))) mNil))) (mCons (m2 fAdd (mVar 3) (mC (.int 1))) (mCons (m2 (im2 fSub) (m2 fAdd (mVar 3) (mC (.int 1))) (m2 fMul (mC (.int 2)) (mCB (imN fInt) (mCons (m2 (im2 (bl2 gEq)) (mVar 3) (m2 (im2 fSub) (mVar 1) (mC (.int 1)))) mNil)))) mNil))))) (mVar 4)))))) (sRet (mVar 5))))
abbrev d_law_content : List D → List D → Option (Fr × List D) := fnS 3 7 m_law_content
def m_law_path : Ms := (sSeq (sPar3 4 5 6 (mSeq false mNil) (mCallS d_law_draw (mCons (mVar 0) (mCons (mC (.int 5)) mNil))) (mCallS d_law_draw (mCons (mVar 0) (mCons (mVar 1) mNil)))) (sSeq (sFor (mRng rng1 (mCons (mCallS d_law_draw (mCons (mVar 0) (mCons (m2 fAdd (mVar 2) (mC (.int 1))) mNil))) mNil)) (gmName 3) (sSeq (sAsg 7 (mIf (mB (m2 (im2 (bl2 gEq)) (mVar 5) (mC (.int 1)))) (mVar 6) (mCallS d_law_draw (mCons (mVar 0) (mCons (mVar 1) mNil))))) (sSeq (sIf (mB (m2 (im2 (bl2 gEq)) (mVar 5) (mC (.int 2)))) (sAsg 7 (mCallS d_law_draw (mCons (mVar 0) (mCons (mCB (imN fMin2) (mCons (mVar 1) (mCons (mC (.int 3)) mNil))) mNil)))) sNext) (sSeq (sAsg 6 (m2 (im2 fMod) (mCB (imN fInt) (mCons (m2 fAdd (m2 fAdd (mVar 7) (mC (.int 1))) (mCallS d_law_draw (mCons (mVar 0) (mCons (m2 (im2 fSub) (mVar 1) (mC (.int 1))) mNil)))) mNil)) (mVar 1))) (sSeq (sIf (mB (m2 (im2 (bl2 gEq)) (mVar 5) (mC (.int 2)))) (sAsg 6 (m2 (im2 fMod) (mCB (imN fInt) (mCons (m2 fAdd (m2 fAdd (mVar 7) (mC (.int 1))) (mCallS d_law_draw (mCons (mVar 0) (mCons (m2 (im2 fSub) (mCB (imN fMin2) (mCons (mVar 1) (mCons (mC (.int 3)) mNil))) (mC (.int 1))) mNil)))) mNil)) (mCB (imN fMin2) (mCons (mVar 1) (mCons (mC (.int 3)) mNil))))) sNext) (sSeq (sAsg 8 (m2 fIx (mSeq false (mCons (mC (.str (PySem.Str.ofString "move"))) (mCons (mC (.str (PySem.Str.ofString "swap"))) mNil))) (mCallS d_law_draw (mCons (mVar 0) (mCons (mC (.int 2)) mNil))))) (sDrop (mApp (mVar 4) (mSeq true (mCons (m2 fIx (mSeq false (mCons (mVar 8) (mCons (mVar 8) (mCons (mVar 8) (mCons (mC (.str (PySem.Str.ofString "swap"))) (mCons (mC (.str (PySem.Str.ofString "move"))) mNil)))))) (mVar 5)) (mCons (mVar 7) (mCons (mVar 6) mNil)))))))))))) (sRet (mVar 4))))
abbrev d_law_path : List D → List D → Option (Fr × List D) := fnS 3 9 m_law_path
def plaw_content_0 : Ms := (sPar2 4 5 (mCallS d_law_draw (mCons (mVar 0) (mCons (mC (.int 4)) mNil))) (mSeq false mNil))
def plaw_content_1_0 : Ms := (sAsg 6 (mIf (mB (mVar 2)) (m2 (im2 fSub) (mCallS d_law_draw (mCons (mVar 0) (mCons (m2 fAdd (m2 fMul (mC (.int 2)) (m2 (im2 fPow) (mC (.int 10)) (mC (.int 30)))) (mC (.int 1))) mNil))) (m2 (im2 fPow) (mC (.int 10)) (mC (.int 30)))) (mCallS d_law_draw (mCons (mVar 0) (mCons (mC (.int 99)) mNil)))))
def plaw_content_1_1 : Ms := (sDrop (mApp (mVar 5) (m2 fIx (mSeq false (mCons (mVar 6) (mCons (mCallS d_law_draw (mCons (mVar 0) (mCons (m2 fAdd (mC (.int 1)) (m2 (im2 fDiv) (mVar 1) (mC (.int 2)))) mNil))) (mCons (m2 fAdd (mVar 3) (mC (.int 1))) (mCons (m2 (im2 fSub) (m2 fAdd (mVar 3) (mC (.int 1))) (m2 fMul (mC (.int 2)) (mCB (imN fInt) (mCons (m2 (im2 (bl2 gEq)) (mVar 3) (m2 (im2 fSub) (mVar 1) (mC (.int 1)))) mNil)))) mNil))))) (mVar 4))))
def plaw_content_1_it : Mi := (mRng rng1 (mCons (mVar 1) mNil))
def plaw_content_1_b : Ms := (sSeq plaw_content_1_0 plaw_content_1_1)
def plaw_content_2 : Ms := (sRet (mVar 5))
theorem plaw_content_eq : m_law_content = (sSeq plaw_content_0 (sSeq (sFor plaw_content_1_it (gmName 3) plaw_content_1_b) plaw_content_2)) := rfl
def plaw_path_0 : Ms := (sPar3 4 5 6 (mSeq false mNil) (mCallS d_law_draw (mCons (mVar 0) (mCons (mC (.int 5)) mNil))) (mCallS d_law_draw (mCons (mVar 0) (mCons (mVar 1) mNil))))
def plaw_path_1_0 : Ms := (sAsg 7 (mIf (mB (m2 (im2 (bl2 gEq)) (mVar 5) (mC (.int 1)))) (mVar 6) (mCallS d_law_draw (mCons (mVar 0) (mCons (mVar 1) mNil)))))
def plaw_path_1_1 : Ms := (sIf (mB (m2 (im2 (bl2 gEq)) (mVar 5) (mC (.int 2)))) (sAsg 7 (mCallS d_law_draw (mCons (mVar 0) (mCons (mCB (imN fMin2) (mCons (mVar 1) (mCons (mC (.int 3)) mNil))) mNil)))) sNext)
def plaw_path_1_2 : Ms := (sAsg 6 (m2 (im2 fMod) (mCB (imN fInt) (mCons (m2 fAdd (m2 fAdd (mVar 7) (mC (.int 1))) (mCallS d_law_draw (mCons (mVar 0) (mCons (m2 (im2 fSub) (mVar 1) (mC (.int 1))) mNil)))) mNil)) (mVar 1)))
def plaw_path_1_3 : Ms := (sIf (mB (m2 (im2 (bl2 gEq)) (mVar 5) (mC (.int 2)))) (sAsg 6 (m2 (im2 fMod) (mCB (imN fInt) (mCons (m2 fAdd (m2 fAdd (mVar 7) (mC (.int 1))) (mCallS d_law_draw (mCons (mVar 0) (mCons (m2 (im2 fSub) (mCB (imN fMin2) (mCons (mVar 1) (mCons (mC (.int 3)) mNil))) (mC (.int 1))) mNil)))) mNil)) (mCB (imN fMin2) (mCons (mVar 1) (mCons (mC (.int 3)) mNil))))) sNext)
def plaw_path_1_4 : Ms := (sAsg 8 (m2 fIx (mSeq false (mCons (mC (.str (PySem.Str.ofString "move"))) (mCons (mC (.str (PySem.Str.ofString "swap"))) mNil))) (mCallS d_law_draw (mCons (mVar 0) (mCons (mC (.int 2)) mNil)))))
def plaw_path_1_5 : Ms := (sDrop (mApp (mVar 4) (mSeq true (mCons (m2 fIx (mSeq false (mCons (mVar 8) (mCons (mVar 8) (mCons (mVar 8) (mCons (mC (.str (PySem.Str.ofString "swap"))) (mCons (mC (.str (PySem.Str.ofString "move"))) mNil)))))) (mVar 5)) (mCons (mVar 7) (mCons (mVar 6) mNil))))))
def plaw_path_1_it : Mi := (mRng rng1 (mCons (mCallS d_law_draw (mCons (mVar 0) (mCons (m2 fAdd (mVar 2) (mC (.int 1))) mNil))) mNil))
def plaw_path_1_b : Ms := (sSeq plaw_path_1_0 (sSeq plaw_path_1_1 (sSeq plaw_path_1_2 (sSeq plaw_path_1_3 (sSeq plaw_path_1_4 plaw_path_1_5)))))
def plaw_path_2 : Ms := (sRet (mVar 4))
theorem plaw_path_eq : m_law_path = (sSeq plaw_path_0 (sSeq (sFor plaw_path_1_it (gmName 3) plaw_path_1_b) plaw_path_2)) := rfl
theorem b0' : (0 : Nat) < BIG := by unfold BIG; decide +kernel
theorem b1' : (1 : Nat) < BIG := by unfold BIG; decide +kernel
theorem b2' : (2 : Nat) < BIG := by unfold BIG; decide +kernel
theorem b10' : (10 : Nat) < BIG := by unfold BIG; decide +kernel
theorem b30' : (1000000000000000000000000000000 : Nat) < BIG := by unfold BIG; decide +kernel

def Num (d : D) : Prop := ∃ i, d = .int i ∧ -1000000000000000000000000000000 ≤ i ∧ i ≤ 1000000000000000000000000000000
def Wnt (d : D) : Prop := Num d ∨ d = .none
section
variable {B many way : Int} {wide : Bool} {ss fo : List D} {o3 o6 : Option OV}
abbrev CG (ss : List D) (many : Int) (wide : Bool) (o3 : Option OV) (way : Int) (fo : List D) (o6 : Option OV) : Gm := [some (.ow true ss), some (.im (.int many)), some (.im (.bool wide)), o3, some (.im (.int way)), some (.ow false fo), o6]
theorem c0 (h : Src B ss) (hB : B ≤ 10 ^ 5) : ∃ g ss', plaw_content_1_0 (CG ss many wide o3 way fo o6) = some (.nx (CG ss' many wide o3 way fo (some (.im (.int g))))) ∧ (-1000000000000000000000000000000 ≤ g ∧ g ≤ 1000000000000000000000000000000) ∧ Src (B + 1) ss' := by
  cases wide
  · obtain ⟨r, ss', e, r1, r2, r3⟩ := drawS h (by omega) (c := 99) (by omega) (by omega)
    exact ⟨r, ss', by simp [plaw_content_1_0, CG, sAsg, sIf, mIf, mB, mAnd, VL.m2, m1, im2, bl2, gEqI, mVar, mVarO, mC, hold, peek, peekO, isSc, fin, mCallS, mCons, mNil, callS, frzA, frz, frzO, frR, asgR, mCB, imN, fInt, fAdd, fSub, fMul, fPow, fDiv, fMod, ii, sNext, peekA, fIx, mSeq, LIM, e], by omega, r3⟩
  · obtain ⟨r, ss', e, r1, r2, r3⟩ := drawS h (by omega) (c := 2000000000000000000000000000001) (by omega) (by omega)
    exact ⟨r - 1000000000000000000000000000000, ss', by simp [plaw_content_1_0, CG, sAsg, sIf, mIf, mB, mAnd, VL.m2, m1, im2, bl2, gEqI, mVar, mVarO, mC, hold, peek, peekO, isSc, fin, mCallS, mCons, mNil, callS, frzA, frz, frzO, frR, asgR, mCB, imN, fInt, fAdd, fSub, fMul, fPow, fDiv, fMod, ii, sNext, peekA, fIx, mSeq, LIM, e, b10', b2', b30'], by omega, r3⟩
theorem c1 {k g : Int} (h : Src B ss) (hB : B ≤ 10 ^ 5) (m1' : 1 ≤ many) (m2' : many ≤ 60) (w1 : 0 ≤ way) (w2 : way < 4) (k1 : 0 ≤ k) (k2 : k < many) (hg : -1000000000000000000000000000000 ≤ g ∧ g ≤ 1000000000000000000000000000000) (hl : fo.length < 4000000) : ∃ d ss', plaw_content_1_1 (CG ss many wide (some (.im (.int k))) way fo (some (.im (.int g)))) = some (.nx (CG ss' many wide (some (.im (.int k))) way (fo ++ [d]) (some (.im (.int g))))) ∧ Num d ∧ Src (B + 1) ss' := by
  obtain ⟨r, ss', e, r1, r2, r3⟩ := drawS h (by omega) (c := 1 + many / 2) (by omega) (by omega)
  have hr : way = 0 ∨ way = 1 ∨ way = 2 ∨ way = 3 := by omega
  by_cases hk : k = many - 1
  · rcases hr with rfl | rfl | rfl | rfl
    · exact ⟨.int g, ss', by simp [plaw_content_1_1, CG, sAsg, sIf, mIf, mB, mAnd, VL.m2, m1, im2, bl2, gEqI, mVar, mVarO, mC, hold, peek, peekO, isSc, fin, mCallS, mCons, mNil, callS, frzA, frz, frzO, frR, asgR, mCB, imN, fInt, fAdd, fSub, fMul, fPow, fDiv, fMod, ii, sNext, peekA, fIx, mSeq, LIM, sDrop, mApp, isL, slotUp, atI, ixN, hl, e, b2', b1', hk], ⟨_, rfl, hg⟩, r3⟩
    · exact ⟨.int r, ss', by simp [plaw_content_1_1, CG, sAsg, sIf, mIf, mB, mAnd, VL.m2, m1, im2, bl2, gEqI, mVar, mVarO, mC, hold, peek, peekO, isSc, fin, mCallS, mCons, mNil, callS, frzA, frz, frzO, frR, asgR, mCB, imN, fInt, fAdd, fSub, fMul, fPow, fDiv, fMod, ii, sNext, peekA, fIx, mSeq, LIM, sDrop, mApp, isL, slotUp, atI, ixN, hl, e, b2', b1', hk], ⟨_, rfl, by omega, by omega⟩, r3⟩
    · exact ⟨.int (many - 1 + 1), ss', by simp [plaw_content_1_1, CG, sAsg, sIf, mIf, mB, mAnd, VL.m2, m1, im2, bl2, gEqI, mVar, mVarO, mC, hold, peek, peekO, isSc, fin, mCallS, mCons, mNil, callS, frzA, frz, frzO, frR, asgR, mCB, imN, fInt, fAdd, fSub, fMul, fPow, fDiv, fMod, ii, sNext, peekA, fIx, mSeq, LIM, sDrop, mApp, isL, slotUp, atI, ixN, hl, e, b2', b1', hk], ⟨_, rfl, by omega, by omega⟩, r3⟩
    · exact ⟨.int (many - 1 + 1 - 2), ss', by simp [plaw_content_1_1, CG, sAsg, sIf, mIf, mB, mAnd, VL.m2, m1, im2, bl2, gEqI, mVar, mVarO, mC, hold, peek, peekO, isSc, fin, mCallS, mCons, mNil, callS, frzA, frz, frzO, frR, asgR, mCB, imN, fInt, fAdd, fSub, fMul, fPow, fDiv, fMod, ii, sNext, peekA, fIx, mSeq, LIM, sDrop, mApp, isL, slotUp, atI, ixN, hl, e, b2', b1', hk], ⟨_, rfl, by omega, by omega⟩, r3⟩
  · rcases hr with rfl | rfl | rfl | rfl
    · exact ⟨.int g, ss', by simp [plaw_content_1_1, CG, sAsg, sIf, mIf, mB, mAnd, VL.m2, m1, im2, bl2, gEqI, mVar, mVarO, mC, hold, peek, peekO, isSc, fin, mCallS, mCons, mNil, callS, frzA, frz, frzO, frR, asgR, mCB, imN, fInt, fAdd, fSub, fMul, fPow, fDiv, fMod, ii, sNext, peekA, fIx, mSeq, LIM, sDrop, mApp, isL, slotUp, atI, ixN, hl, e, b2', b0', hk], ⟨_, rfl, hg⟩, r3⟩
    · exact ⟨.int r, ss', by simp [plaw_content_1_1, CG, sAsg, sIf, mIf, mB, mAnd, VL.m2, m1, im2, bl2, gEqI, mVar, mVarO, mC, hold, peek, peekO, isSc, fin, mCallS, mCons, mNil, callS, frzA, frz, frzO, frR, asgR, mCB, imN, fInt, fAdd, fSub, fMul, fPow, fDiv, fMod, ii, sNext, peekA, fIx, mSeq, LIM, sDrop, mApp, isL, slotUp, atI, ixN, hl, e, b2', b0', hk], ⟨_, rfl, by omega, by omega⟩, r3⟩
    · exact ⟨.int (k + 1), ss', by simp [plaw_content_1_1, CG, sAsg, sIf, mIf, mB, mAnd, VL.m2, m1, im2, bl2, gEqI, mVar, mVarO, mC, hold, peek, peekO, isSc, fin, mCallS, mCons, mNil, callS, frzA, frz, frzO, frR, asgR, mCB, imN, fInt, fAdd, fSub, fMul, fPow, fDiv, fMod, ii, sNext, peekA, fIx, mSeq, LIM, sDrop, mApp, isL, slotUp, atI, ixN, hl, e, b2', b0', hk], ⟨_, rfl, by omega, by omega⟩, r3⟩
    · exact ⟨.int (k + 1), ss', by simp [plaw_content_1_1, CG, sAsg, sIf, mIf, mB, mAnd, VL.m2, m1, im2, bl2, gEqI, mVar, mVarO, mC, hold, peek, peekO, isSc, fin, mCallS, mCons, mNil, callS, frzA, frz, frzO, frR, asgR, mCB, imN, fInt, fAdd, fSub, fMul, fPow, fDiv, fMod, ii, sNext, peekA, fIx, mSeq, LIM, sDrop, mApp, isL, slotUp, atI, ixN, hl, e, b2', b0', hk], ⟨_, rfl, by omega, by omega⟩, r3⟩
theorem content (h : Src B ss) (hB : B ≤ 90000) (m1' : 1 ≤ many) (m2' : many ≤ 60) : ∃ fo ss', d_law_content ss [.int many, .bool wide] = some (.fr fo, ss') ∧ (fo.length : Int) = many ∧ (∀ d ∈ fo, Num d) ∧ Src (B + 200) ss' := by
  obtain ⟨way, s1, e1, w1, w2, h1⟩ := drawS h (by omega) (c := 4) (by omega) (by omega)
  have q0 : plaw_content_0 [some (.ow true ss), some (.im (.int many)), some (.im (.bool wide)), none, none, none, none] = some (.nx (CG s1 many wide none way [] none)) := by
    simp [plaw_content_0, CG, sAsg, sIf, mIf, mB, mAnd, VL.m2, m1, im2, bl2, gEqI, mVar, mVarO, mC, hold, peek, peekO, isSc, fin, mCallS, mCons, mNil, callS, frzA, frz, frzO, frR, asgR, mCB, imN, fInt, fAdd, fSub, fMul, fPow, fDiv, fMod, ii, sNext, peekA, fIx, mSeq, LIM, sPar2, m2R, VL.settle, put, e1]
  have q1 : plaw_content_1_it (CG s1 many wide none way [] none) = some (rangeD 0 many.toNat, CG s1 many wide none way [] none) := by
    have a1 : (-1000000000 : Int) ≤ many := by omega
    have a2 : many ≤ 1000000000 := by omega
    simp [plaw_content_1_it, CG, sAsg, sIf, mIf, mB, mAnd, VL.m2, m1, im2, bl2, gEqI, mVar, mVarO, mC, hold, peek, peekO, isSc, fin, mCallS, mCons, mNil, callS, frzA, frz, frzO, frR, asgR, mCB, imN, fInt, fAdd, fSub, fMul, fPow, fDiv, fMod, ii, sNext, peekA, fIx, mSeq, LIM, mRng, rng1, a1, a2]
  obtain ⟨Γ', q2, ss', fo, t', o6', rfl, h5, l5, st⟩ := for_inv (mt := gmName 3) (m := plaw_content_1_b) (ds := rangeD 0 many.toNat) (i := 0) (Γ := CG s1 many wide none way [] none)
    (I := fun j Γ => ∃ ss fo t o6, Γ = CG ss many wide t way fo o6 ∧ Src (B + 1 + 2 * j) ss ∧ fo.length = j ∧ ∀ d ∈ fo, Num d)
    ⟨s1, [], none, none, rfl, h1.mono (by omega), rfl, fun _ h => nomatch h⟩
    (by
      rintro j d Γ hd _ hj ⟨ss, fo, t, o6, rfl, k3, k6, k7⟩
      rw [rangeD_len] at hj
      obtain ⟨k, rfl, k1, k2⟩ := rangeD_mem hd
      obtain ⟨g, z1, f1, f2, f3⟩ := c0 (many := many) (wide := wide) (o3 := some (.im (.int k))) (way := way) (fo := fo) (o6 := o6) k3 (by omega)
      obtain ⟨dd, z2, i1, i2, i3⟩ := c1 (many := many) (wide := wide) (way := way) (fo := fo) (k := k) (g := g) f3 (by omega) m1' m2' w1 w2 k1 (by omega) f2 (by omega)
      refine ⟨CG ss many wide (some (.im (.int k))) way fo o6, CG z2 many wide (some (.im (.int k))) way (fo ++ [dd]) (some (.im (.int g))), rfl, ?_, z2, fo ++ [dd], _, _, rfl, i3.mono (by omega), by rw [List.length_append, k6]; rfl, ma k7 (mc i2 m0)⟩
      show sSeq plaw_content_1_0 plaw_content_1_1 _ = _
      rw [seq_nx f1, i1])
  rw [rangeD_len] at l5 h5
  refine ⟨fo, ss', ?_, by omega, st, h5.mono (by omega)⟩
  show bodyS (m_law_content [some (.ow true ss), some (.im (.int many)), some (.im (.bool wide)), none, none, none, none]) = _
  rw [plaw_content_eq, seq_nx q0, seq_nx ((for_eq q1).trans q2)]
  simp [plaw_content_2, CG, sAsg, sIf, mIf, mB, mAnd, VL.m2, m1, im2, bl2, gEqI, mVar, mVarO, mC, hold, peek, peekO, isSc, fin, mCallS, mCons, mNil, callS, frzA, frz, frzO, frR, asgR, mCB, imN, fInt, fAdd, fSub, fMul, fPow, fDiv, fMod, ii, sNext, peekA, fIx, mSeq, LIM, sRet, retR, retO, bodyS, ss0]
end
abbrev PG (ss : List D) (many most : Int) (t : Option OV) (fo : List D) (way here : Int) (o7 o8 : Option OV) : Gm := [some (.ow true ss), some (.im (.int many)), some (.im (.int most)), t, some (.ow false fo), some (.im (.int way)), some (.im (.int here)), o7, o8]
def PWord (w : D) : Prop := w = .str (PySem.Str.ofString "move") ∨ w = .str (PySem.Str.ofString "swap")
def PStep (many : Int) (d : D) : Prop := ∃ w i j, d = .tuple [w, .int i, .int j] ∧ PWord w ∧ 0 ≤ i ∧ i < many ∧ 0 ≤ j ∧ j < many ∧ i ≠ j
theorem mod_ne {one r f : Int} (h0 : 0 ≤ one) (h1 : one < f) (h2 : 0 ≤ r) (h3 : r < f - 1) : (one + 1 + r) % f ≠ one := by
  by_cases h : one + 1 + r < f
  · rw [Int.emod_eq_of_lt (by omega) h]
    omega
  · have e1 : (one + 1 + r - f) % f = one + 1 + r - f := Int.emod_eq_of_lt (by omega) (by omega)
    have e2 := Int.add_mul_emod_self_left (one + 1 + r - f) f 1
    have e3 : one + 1 + r - f + f * 1 = one + 1 + r := by omega
    rw [e3, e1] at e2
    rw [e2]
    omega
section
variable {B many most way here : Int} {ss fo : List D} {t o7 o8 : Option OV}
theorem p10 (h : Src B ss) (hB : B ≤ 10 ^ 5) (hm1 : 2 ≤ many) (hm2 : many ≤ 60) (g1 : 0 ≤ here) (g2 : here < many) : ∃ one ss', plaw_path_1_0 (PG ss many most t fo way here o7 o8) = some (.nx (PG ss' many most t fo way here (some (.im (.int one))) o8)) ∧ 0 ≤ one ∧ one < many ∧ Src (B + 1) ss' := by
  by_cases hw : way = 1
  · subst hw
    exact ⟨here, ss, by simp [plaw_path_1_0, PG, sAsg, sIf, mIf, mB, m2, im2, bl2, gEqI, mVar, mVarO, mC, hold, peek, peekO, isSc, fin, mCallS, mCons, mNil, callS, frzA, frz, frR, asgR, mCB, imN, fMin2, fInt, fAdd, fSub, fMod, ii, sNext, peekA, fIx, atI, ixN, mSeq, LIM], g1, g2, h.mono (by omega)⟩
  · obtain ⟨r, ss', e, r1, r2, r3⟩ := drawS h hB (c := many) (by omega) (by omega)
    exact ⟨r, ss', by simp [plaw_path_1_0, PG, sAsg, sIf, mIf, mB, m2, im2, bl2, gEqI, mVar, mVarO, mC, hold, peek, peekO, isSc, fin, mCallS, mCons, mNil, callS, frzA, frz, frR, asgR, mCB, imN, fMin2, fInt, fAdd, fSub, fMod, ii, sNext, peekA, fIx, atI, ixN, mSeq, LIM, hw, e], r1, r2, r3⟩
theorem p11 {one : Int} (h : Src B ss) (hB : B ≤ 10 ^ 5) (hm1 : 2 ≤ many) (hm2 : many ≤ 60) (g1 : 0 ≤ one) (g2 : one < many) : ∃ two ss', plaw_path_1_1 (PG ss many most t fo way here (some (.im (.int one))) o8) = some (.nx (PG ss' many most t fo way here (some (.im (.int two))) o8)) ∧ 0 ≤ two ∧ two < many ∧ (way = 2 → two < (if 3 < many then (3 : Int) else many)) ∧ Src (B + 1) ss' := by
  by_cases hw : way = 2
  · subst hw
    generalize ef : (if 3 < many then (3 : Int) else many) = f
    have hf : 2 ≤ f ∧ f ≤ many := by rw [← ef]; split <;> omega
    obtain ⟨r, ss', e, r1, r2, r3⟩ := drawS h hB (c := f) (by omega) (by omega)
    exact ⟨r, ss', by simp [plaw_path_1_1, PG, sAsg, sIf, mIf, mB, m2, im2, bl2, gEqI, mVar, mVarO, mC, hold, peek, peekO, isSc, fin, mCallS, mCons, mNil, callS, frzA, frz, frR, asgR, mCB, imN, fMin2, fInt, fAdd, fSub, fMod, ii, sNext, peekA, fIx, atI, ixN, mSeq, LIM, ef, e], r1, by omega, fun _ => r2, r3⟩
  · exact ⟨one, ss, by simp [plaw_path_1_1, PG, sAsg, sIf, mIf, mB, m2, im2, bl2, gEqI, mVar, mVarO, mC, hold, peek, peekO, isSc, fin, mCallS, mCons, mNil, callS, frzA, frz, frR, asgR, mCB, imN, fMin2, fInt, fAdd, fSub, fMod, ii, sNext, peekA, fIx, atI, ixN, mSeq, LIM, hw], g1, g2, fun z => absurd z hw, h.mono (by omega)⟩
theorem p12 {one : Int} (h : Src B ss) (hB : B ≤ 10 ^ 5) (hm1 : 2 ≤ many) (hm2 : many ≤ 60) (g1 : 0 ≤ one) (g2 : one < many) : ∃ two ss', plaw_path_1_2 (PG ss many most t fo way here (some (.im (.int one))) o8) = some (.nx (PG ss' many most t fo way two (some (.im (.int one))) o8)) ∧ 0 ≤ two ∧ two < many ∧ one ≠ two ∧ Src (B + 1) ss' := by
  obtain ⟨r, ss', e, r1, r2, r3⟩ := drawS h hB (c := many - 1) (by omega) (by omega)
  have m3 : 0 < many := by omega
  exact ⟨(one + 1 + r) % many, ss', by simp [plaw_path_1_2, PG, sAsg, sIf, mIf, mB, m2, im2, bl2, gEqI, mVar, mVarO, mC, hold, peek, peekO, isSc, fin, mCallS, mCons, mNil, callS, frzA, frz, frR, asgR, mCB, imN, fMin2, fInt, fAdd, fSub, fMod, ii, sNext, peekA, fIx, atI, ixN, mSeq, LIM, e, m3], Int.emod_nonneg _ (by omega), Int.emod_lt_of_pos _ m3, fun z => mod_ne g1 g2 r1 r2 z.symm, r3⟩
theorem p13 {one : Int} (h : Src B ss) (hB : B ≤ 10 ^ 5) (hm1 : 2 ≤ many) (hm2 : many ≤ 60) (g1 : 0 ≤ here) (g2 : here < many) (g3 : 0 ≤ one) (g4 : way = 2 → one < (if 3 < many then (3 : Int) else many)) (g5 : one ≠ here) : ∃ two ss', plaw_path_1_3 (PG ss many most t fo way here (some (.im (.int one))) o8) = some (.nx (PG ss' many most t fo way two (some (.im (.int one))) o8)) ∧ 0 ≤ two ∧ two < many ∧ one ≠ two ∧ Src (B + 1) ss' := by
  by_cases hw : way = 2
  · subst hw
    have g4 := g4 rfl
    generalize ef : (if 3 < many then (3 : Int) else many) = f
    rw [ef] at g4
    have hf : 2 ≤ f ∧ f ≤ many := by rw [← ef]; split <;> omega
    obtain ⟨r, ss', e, r1, r2, r3⟩ := drawS h hB (c := f - 1) (by omega) (by omega)
    have m3 : 0 < f := by omega
    exact ⟨(one + 1 + r) % f, ss', by simp [plaw_path_1_3, PG, sAsg, sIf, mIf, mB, m2, im2, bl2, gEqI, mVar, mVarO, mC, hold, peek, peekO, isSc, fin, mCallS, mCons, mNil, callS, frzA, frz, frR, asgR, mCB, imN, fMin2, fInt, fAdd, fSub, fMod, ii, sNext, peekA, fIx, atI, ixN, mSeq, LIM, ef, e, m3], Int.emod_nonneg _ (by omega), Int.lt_of_lt_of_le (Int.emod_lt_of_pos _ m3) hf.2, fun z => mod_ne g3 g4 r1 r2 z.symm, r3⟩
  · exact ⟨here, ss, by simp [plaw_path_1_3, PG, sAsg, sIf, mIf, mB, m2, im2, bl2, gEqI, mVar, mVarO, mC, hold, peek, peekO, isSc, fin, mCallS, mCons, mNil, callS, frzA, frz, frR, asgR, mCB, imN, fMin2, fInt, fAdd, fSub, fMod, ii, sNext, peekA, fIx, atI, ixN, mSeq, LIM, hw], g1, g2, g5, h.mono (by omega)⟩
theorem p14 (h : Src B ss) (hB : B ≤ 10 ^ 5) : ∃ w ss', plaw_path_1_4 (PG ss many most t fo way here o7 o8) = some (.nx (PG ss' many most t fo way here o7 (some (.im w)))) ∧ PWord w ∧ Src (B + 1) ss' := by
  obtain ⟨r, ss', e, r1, r2, r3⟩ := drawS h hB (c := 2) (by omega) (by omega)
  have hr : r = 0 ∨ r = 1 := by omega
  rcases hr with rfl | rfl
  · exact ⟨_, ss', by simp [plaw_path_1_4, PG, sAsg, sIf, mIf, mB, m2, im2, bl2, gEqI, mVar, mVarO, mC, hold, peek, peekO, isSc, fin, mCallS, mCons, mNil, callS, frzA, frz, frR, asgR, mCB, imN, fMin2, fInt, fAdd, fSub, fMod, ii, sNext, peekA, fIx, atI, ixN, mSeq, LIM, e], .inl rfl, r3⟩
  · exact ⟨_, ss', by simp [plaw_path_1_4, PG, sAsg, sIf, mIf, mB, m2, im2, bl2, gEqI, mVar, mVarO, mC, hold, peek, peekO, isSc, fin, mCallS, mCons, mNil, callS, frzA, frz, frR, asgR, mCB, imN, fMin2, fInt, fAdd, fSub, fMod, ii, sNext, peekA, fIx, atI, ixN, mSeq, LIM, e], .inr rfl, r3⟩
theorem p15 {one : Int} {w : D} (hl : fo.length < 4000000) (hw : PWord w) (w0 : 0 ≤ way) (w1 : way < 5) (hm1 : 0 ≤ one) (hm2 : one < many) (g1 : 0 ≤ here) (g2 : here < many) (g3 : one ≠ here) : ∃ d, plaw_path_1_5 (PG ss many most t fo way here (some (.im (.int one))) (some (.im w))) = some (.nx (PG ss many most t (fo ++ [d]) way here (some (.im (.int one))) (some (.im w)))) ∧ PStep many d := by
  have hr : way = 0 ∨ way = 1 ∨ way = 2 ∨ way = 3 ∨ way = 4 := by omega
  rcases hr with rfl | rfl | rfl | rfl | rfl
  · exact ⟨.tuple [w, .int one, .int here], by simp [plaw_path_1_5, PG, sAsg, sIf, mIf, mB, m2, im2, bl2, gEqI, mVar, mVarO, mC, hold, peek, peekO, isSc, fin, mCallS, mCons, mNil, callS, frzA, frz, frR, asgR, mCB, imN, fMin2, fInt, fAdd, fSub, fMod, ii, sNext, peekA, fIx, atI, ixN, mSeq, LIM, sDrop, mApp, isL, slotUp, hl], w, one, here, rfl, hw, hm1, hm2, g1, g2, g3⟩
  · exact ⟨.tuple [w, .int one, .int here], by simp [plaw_path_1_5, PG, sAsg, sIf, mIf, mB, m2, im2, bl2, gEqI, mVar, mVarO, mC, hold, peek, peekO, isSc, fin, mCallS, mCons, mNil, callS, frzA, frz, frR, asgR, mCB, imN, fMin2, fInt, fAdd, fSub, fMod, ii, sNext, peekA, fIx, atI, ixN, mSeq, LIM, sDrop, mApp, isL, slotUp, hl], w, one, here, rfl, hw, hm1, hm2, g1, g2, g3⟩
  · exact ⟨.tuple [w, .int one, .int here], by simp [plaw_path_1_5, PG, sAsg, sIf, mIf, mB, m2, im2, bl2, gEqI, mVar, mVarO, mC, hold, peek, peekO, isSc, fin, mCallS, mCons, mNil, callS, frzA, frz, frR, asgR, mCB, imN, fMin2, fInt, fAdd, fSub, fMod, ii, sNext, peekA, fIx, atI, ixN, mSeq, LIM, sDrop, mApp, isL, slotUp, hl], w, one, here, rfl, hw, hm1, hm2, g1, g2, g3⟩
  · exact ⟨.tuple [.str (PySem.Str.ofString "swap"), .int one, .int here], by simp [plaw_path_1_5, PG, sAsg, sIf, mIf, mB, m2, im2, bl2, gEqI, mVar, mVarO, mC, hold, peek, peekO, isSc, fin, mCallS, mCons, mNil, callS, frzA, frz, frR, asgR, mCB, imN, fMin2, fInt, fAdd, fSub, fMod, ii, sNext, peekA, fIx, atI, ixN, mSeq, LIM, sDrop, mApp, isL, slotUp, hl], _, one, here, rfl, .inr rfl, hm1, hm2, g1, g2, g3⟩
  · exact ⟨.tuple [.str (PySem.Str.ofString "move"), .int one, .int here], by simp [plaw_path_1_5, PG, sAsg, sIf, mIf, mB, m2, im2, bl2, gEqI, mVar, mVarO, mC, hold, peek, peekO, isSc, fin, mCallS, mCons, mNil, callS, frzA, frz, frR, asgR, mCB, imN, fMin2, fInt, fAdd, fSub, fMod, ii, sNext, peekA, fIx, atI, ixN, mSeq, LIM, sDrop, mApp, isL, slotUp, hl], _, one, here, rfl, .inl rfl, hm1, hm2, g1, g2, g3⟩
theorem path (h : Src B ss) (hB : B ≤ 50000) (hm1 : 2 ≤ many) (hm2 : many ≤ 60) (n1 : 0 ≤ most) (n2 : most ≤ 200) : ∃ fo ss', d_law_path ss [.int many, .int most] = some (.fr fo, ss') ∧ (fo.length : Int) ≤ most ∧ (∀ d ∈ fo, PStep many d) ∧ Src (B + 1300) ss' := by
  obtain ⟨way, s1, e1, w1, w2, h1⟩ := drawS h (by omega) (c := 5) (by omega) (by omega)
  obtain ⟨here, s2, e2, g1, g2, h2⟩ := drawS h1 (by omega) (c := many) (by omega) (by omega)
  obtain ⟨n, s3, e3, k1, k2, h3⟩ := drawS h2 (by omega) (c := most + 1) (by omega) (by omega)
  have q0 : plaw_path_0 [some (.ow true ss), some (.im (.int many)), some (.im (.int most)), none, none, none, none, none, none] = some (.nx (PG s2 many most none [] way here none none)) := by
    simp [plaw_path_0, PG, sAsg, sIf, mIf, mB, m2, im2, bl2, gEqI, mVar, mVarO, mC, hold, peek, peekO, isSc, fin, mCallS, mCons, mNil, callS, frzA, frz, frR, asgR, mCB, imN, fMin2, fInt, fAdd, fSub, fMod, ii, sNext, peekA, fIx, atI, ixN, mSeq, LIM, sPar3, m3R, m2R, VL.settle, put, e1, e2]
  have q1 : plaw_path_1_it (PG s2 many most none [] way here none none) = some (rangeD 0 n.toNat, PG s3 many most none [] way here none none) := by
    have a1 : (-1000000000 : Int) ≤ n := by omega
    have a2 : n ≤ 1000000000 := by omega
    simp [plaw_path_1_it, PG, sAsg, sIf, mIf, mB, m2, im2, bl2, gEqI, mVar, mVarO, mC, hold, peek, peekO, isSc, fin, mCallS, mCons, mNil, callS, frzA, frz, frR, asgR, mCB, imN, fMin2, fInt, fAdd, fSub, fMod, ii, sNext, peekA, fIx, atI, ixN, mSeq, LIM, mRng, e3, rng1, a1, a2]
  obtain ⟨Γ', q2, ss', fo, here', t', a7, a8, rfl, h5, _, _, l5, st⟩ := for_inv (mt := gmName 3) (m := plaw_path_1_b) (ds := rangeD 0 n.toNat) (i := 0) (Γ := PG s3 many most none [] way here none none)
    (I := fun j Γ => ∃ ss fo here t o7 o8, Γ = PG ss many most t fo way here o7 o8 ∧ Src (B + 3 + 6 * j) ss ∧ 0 ≤ here ∧ here < many ∧ fo.length = j ∧ ∀ d ∈ fo, PStep many d)
    ⟨s3, [], here, none, none, none, rfl, h3.mono (by omega), g1, g2, rfl, fun _ h => nomatch h⟩
    (by
      rintro j d Γ _ _ hj ⟨ss, fo, here, t, o7, o8, rfl, k3, k4, k5, k6, k7⟩
      rw [rangeD_len] at hj
      obtain ⟨u1, z1, f1, f2, f3, f4⟩ := p10 (most := most) (t := some (.im d)) (fo := fo) (way := way) (o7 := o7) (o8 := o8) k3 (by omega) hm1 hm2 k4 k5
      obtain ⟨u2, z2, i1, i2, i3, i5, i4⟩ := p11 (most := most) (t := some (.im d)) (fo := fo) (way := way) (here := here) (o8 := o8) f4 (by omega) hm1 hm2 f2 f3
      obtain ⟨u3, z3, j1, j2, j3, j5, j4⟩ := p12 (most := most) (t := some (.im d)) (fo := fo) (way := way) (here := here) (o8 := o8) (one := u2) i4 (by omega) hm1 hm2 i2 i3
      obtain ⟨u4, z4, l1, l2, l3, l6, l4⟩ := p13 (most := most) (t := some (.im d)) (fo := fo) (way := way) (here := u3) (o8 := o8) (one := u2) j4 (by omega) hm1 hm2 j2 j3 i2 i5 j5
      obtain ⟨u5, z5, y1, y2, y3⟩ := p14 (many := many) (most := most) (t := some (.im d)) (fo := fo) (way := way) (here := u4) (o7 := some (.im (.int u2))) (o8 := o8) l4 (by omega)
      obtain ⟨st, x1, x2⟩ := p15 (most := most) (ss := z5) (t := some (.im d)) (fo := fo) (way := way) (here := u4) (many := many) (one := u2) (w := u5) (by omega) y2 w1 w2 i2 i3 l2 l3 l6
      refine ⟨PG ss many most (some (.im d)) fo way here o7 o8, PG z5 many most (some (.im d)) (fo ++ [st]) way u4 (some (.im (.int u2))) (some (.im u5)), rfl, ?_, z5, fo ++ [st], u4, _, _, _, rfl, y3.mono (by omega), l2, l3, by rw [List.length_append, k6]; rfl, ?_⟩
      · show sSeq plaw_path_1_0 (sSeq plaw_path_1_1 (sSeq plaw_path_1_2 (sSeq plaw_path_1_3 (sSeq plaw_path_1_4 plaw_path_1_5)))) _ = _
        rw [seq_nx f1, seq_nx i1, seq_nx j1, seq_nx l1, seq_nx y1, x1]
      · intro e he
        rcases List.mem_append.mp he with he | he
        · exact k7 e he
        · cases List.mem_singleton.mp he
          exact x2)
  rw [rangeD_len] at l5 h5
  refine ⟨fo, ss', ?_, by omega, st, h5.mono (by omega)⟩
  show bodyS (m_law_path [some (.ow true ss), some (.im (.int many)), some (.im (.int most)), none, none, none, none, none, none]) = _
  rw [plaw_path_eq, seq_nx q0, seq_nx ((for_eq q1).trans q2)]
  simp [plaw_path_2, PG, sAsg, sIf, mIf, mB, m2, im2, bl2, gEqI, mVar, mVarO, mC, hold, peek, peekO, isSc, fin, mCallS, mCons, mNil, callS, frzA, frz, frR, asgR, mCB, imN, fMin2, fInt, fAdd, fSub, fMod, ii, sNext, peekA, fIx, atI, ixN, mSeq, LIM, sRet, retR, retO, bodyS, ss0]
end
end SH

set_option Elab.async false
set_option linter.all false
set_option maxRecDepth 100000
namespace VL
open PySem PySem.Spec PyProof.Rows L2
theorem for_pre {mt : D → Gm → Option Gm} {m : Ms} {I : List D → Gm → Prop} : ∀ {ds pre : List D} {Γ : Gm}, I pre Γ → (∀ pre d Γ, d ∈ ds → I pre Γ → ∃ Γ1 Γ2, mt d Γ = some Γ1 ∧ m Γ1 = some (.nx Γ2) ∧ I (pre ++ [d]) Γ2) → ∃ Γ', forGo mt m ds Γ = some (.nx Γ') ∧ I (pre ++ ds) Γ'
  | [], pre, Γ, h, _ => ⟨Γ, rfl, by rw [List.append_nil]; exact h⟩
  | d :: ds, pre, Γ, h, s => by
    obtain ⟨Γ1, Γ2, h1, h2, h3⟩ := s pre d Γ (List.mem_cons_self ..) h
    obtain ⟨Γ', h4, h5⟩ := for_pre (ds := ds) h3 fun pre e Γ he hi => s pre e Γ (List.mem_cons_of_mem _ he) hi
    refine ⟨Γ', ?_, ?_⟩
    · show (mt d Γ).bind _ = _
      rw [h1]
      show (m Γ1).bind _ = _
      rw [h2]
      exact h4
    · rw [List.append_assoc] at h5
      exact h5
theorem at_set {xs : List D} {i : Int} (h1 : 0 ≤ i) (h2 : i < xs.length) : atI xs i = some (xs.getD i.toNat .none) ∧ ixN xs.length i = some i.toNat := by
  have hlt : i.toNat < xs.length := by omega
  have e := ixN_of h1 h2
  refine ⟨?_, e⟩
  unfold atI
  rw [e, List.getD_eq_getElem?_getD]
  show xs[i.toNat]? = _
  rw [List.getElem?_eq_getElem hlt]
  rfl
end VL
namespace SH
open PySem PySem.Spec PyProof.Rows L2 VL
def m_behind_row : Ms := (sSeq (sAsg 2 (mCB fList (mCons (mVar 0) mNil))) (sSeq (sFor (mWalk (mVar 1)) (gmTup 3 (gmCons (gmName 3) (gmCons (gmName 4) (gmCons (gmName 5) gmNil)))) (sIf (mB (m2 (im2 (bl2 gEq)) (mVar 3) (mC (.str (PySem.Str.ofString "move"))))) (sSetL (m2 fIx (mVar 2) (mVar 4)) (mVar 2) (mVar 5)) (sAsgT (gmTwo (gmSub (mVar 2) (mVar 4)) (gmSub (mVar 2) (mVar 5))) (mSeq true (mCons (m2 fIx (mVar 2) (mVar 5)) (mCons (m2 fIx (mVar 2) (mVar 4)) mNil)))))) (sRet (mVar 2))))
abbrev d_behind_row : List D → Option Fr := fnV 2 6 m_behind_row
def pbehind_row_0 : Ms := (sAsg 2 (mCB fList (mCons (mVar 0) mNil)))
def pbehind_row_1_0 : Ms := (sIf (mB (m2 (im2 (bl2 gEq)) (mVar 3) (mC (.str (PySem.Str.ofString "move"))))) (sSetL (m2 fIx (mVar 2) (mVar 4)) (mVar 2) (mVar 5)) (sAsgT (gmTwo (gmSub (mVar 2) (mVar 4)) (gmSub (mVar 2) (mVar 5))) (mSeq true (mCons (m2 fIx (mVar 2) (mVar 5)) (mCons (m2 fIx (mVar 2) (mVar 4)) mNil)))))
def pbehind_row_1_it : Mi := (mWalk (mVar 1))
def pbehind_row_1_b : Ms := pbehind_row_1_0
def pbehind_row_2 : Ms := (sRet (mVar 2))
theorem pbehind_row_eq : m_behind_row = (sSeq pbehind_row_0 (sSeq (sFor pbehind_row_1_it (gmTup 3 (gmCons (gmName 3) (gmCons (gmName 4) (gmCons (gmName 5) gmNil)))) pbehind_row_1_b) pbehind_row_2)) := rfl
/-- a step done -/
def doS (xs : List D) : D → List D
  | .tuple [w, .int i, .int j] => if PyData.eqv w (.str (PySem.Str.ofString "swap")) then (xs.set j.toNat (xs.getD i.toNat .none)).set i.toNat (xs.getD j.toNat .none) else xs.set j.toNat (xs.getD i.toNat .none)
  | _ => xs
def doR (xs path : List D) : List D := path.foldl doS xs
theorem doS_len (xs : List D) (d : D) : (doS xs d).length = xs.length := by
  unfold doS
  split
  · split
    · rw [List.length_set, List.length_set]
    · rw [List.length_set]
  · rfl
theorem doR_len : ∀ (path xs : List D), (doR xs path).length = xs.length
  | [], _ => rfl
  | d :: path, xs => by
    show (doR (doS xs d) path).length = _
    rw [doR_len path, doS_len]
theorem doR_snoc (xs path : List D) (d : D) : doR xs (path ++ [d]) = doS (doR xs path) d := by
  unfold doR
  rw [List.foldl_append]
  rfl
abbrev BG (xs path : List D) (found : List D) (o3 o4 o5 o6 o7 : Option OV) : Gm := [some (.im (.list xs)), some (.im (.list path)), some (.ow false found), o3, o4, o5, o6, o7]
theorem gEqS (a b : String) (e : Bool) (h : PyData.eqv (.str (PySem.Str.ofString a)) (.str (PySem.Str.ofString b)) = e) : gEq (.str (PySem.Str.ofString a)) (.str (PySem.Str.ofString b)) = some e := by
  have s : ∀ x : String, SeqAt.shaped (.str (PySem.Str.ofString x)) = true := fun x => by
    show (PyData.strOk _ && decide (0 ≤ 64)) = true
    rw [ok_of]
    rfl
  unfold gEq
  rw [s a, s b, h]
  rfl
theorem set_two (ys : List D) (i j : Nat) : (ys.set i (ys.getD j .none)).set j (ys.getD i .none) = (ys.set j (ys.getD i .none)).set i (ys.getD j .none) := by
  by_cases h : i = j
  · subst h
    rfl
  · exact List.set_comm _ _ h
abbrev CB (xs path : List D) (found : List D) (o3 o4 o5 : Option OV) : Gm := [some (.im (.list xs)), some (.im (.list path)), some (.ow false found), o3, o4, o5]
theorem beh {many : Int} {xs path : List D} (hs : ∀ d ∈ path, PStep many d) (hl : (xs.length : Int) = many) : d_behind_row [.list xs, .list path] = some (.fr (doR xs path)) := by
  show bodyR (m_behind_row [some (.im (.list xs)), some (.im (.list path)), none, none, none, none]) = _
  have e0 : pbehind_row_0 [some (.im (.list xs)), some (.im (.list path)), none, none, none, none] = some (.nx (CB xs path xs none none none)) := by
    simp [pbehind_row_0, CB, BG, sAsg, sIf, mIf, mB, VL.m2, m1, im2, bl2, mVar, mVarO, mC, hold, peek, peekO, isSc, fin, mCons, mNil, frzA, frz, frzO, asgR, mCB, sNext, peekA, fIx, mSeq, LIM, sSetL, intR, slotUp, fList]
  have e1 : pbehind_row_1_it (CB xs path xs none none none) = some (path, CB xs path xs none none none) := by
    simp [pbehind_row_1_it, CB, BG, sAsg, sIf, mIf, mB, VL.m2, m1, im2, bl2, mVar, mVarO, mC, hold, peek, peekO, isSc, fin, mCons, mNil, frzA, frz, frzO, asgR, mCB, sNext, peekA, fIx, mSeq, LIM, sSetL, intR, slotUp, mWalk]
  obtain ⟨Γ', e2, o3, o4, o5, rfl⟩ := for_pre (mt := gmTup 3 (gmCons (gmName 3) (gmCons (gmName 4) (gmCons (gmName 5) gmNil)))) (m := pbehind_row_1_b) (ds := path) (pre := []) (Γ := CB xs path xs none none none)
    (I := fun pre Γ => ∃ o3 o4 o5, Γ = CB xs path (doR xs pre) o3 o4 o5) ⟨_, _, _, rfl⟩ (by
      rintro pre d Γ hd ⟨o3, o4, o5, rfl⟩
      obtain ⟨w, i, j, rfl, hw, i1, i2, j1, j2, _⟩ := hs d hd
      have hlen := doR_len pre xs
      have hsn := doR_snoc xs pre (.tuple [w, .int i, .int j])
      generalize doR xs pre = ys at hlen hsn ⊢
      obtain ⟨a1, a2⟩ := at_set (xs := ys) i1 (by omega)
      obtain ⟨b1, b2⟩ := at_set (xs := ys) j1 (by omega)
      have q2 : pbehind_row_1_b (CB xs path ys (some (.im w)) (some (.im (.int i))) (some (.im (.int j)))) = some (.nx (CB xs path (doS ys (.tuple [w, .int i, .int j])) (some (.im w)) (some (.im (.int i))) (some (.im (.int j))))) := by
        rcases hw with rfl | rfl
        · have e := gEqS "move" "move" true (by decide +kernel)
          have e' : PyData.eqv (.str (PySem.Str.ofString "move")) (.str (PySem.Str.ofString "swap")) = false := by decide +kernel
          simp [pbehind_row_1_b, pbehind_row_1_0, CB, BG, sAsg, sIf, mIf, mB, VL.m2, m1, im2, bl2, mVar, mVarO, mC, hold, peek, peekO, isSc, fin, mCons, mNil, frzA, frz, frzO, asgR, mCB, sNext, peekA, fIx, mSeq, LIM, sSetL, intR, slotUp, e, doS, e', a1, b2]
        · have e := gEqS "swap" "move" false (by decide +kernel)
          have e' : PyData.eqv (.str (PySem.Str.ofString "swap")) (.str (PySem.Str.ofString "swap")) = true := by decide +kernel
          have e3 := set_two ys i.toNat j.toNat
          simp [pbehind_row_1_b, pbehind_row_1_0, CB, BG, sAsg, sIf, mIf, mB, VL.m2, m1, im2, bl2, mVar, mVarO, mC, hold, peek, peekO, isSc, fin, mCons, mNil, frzA, frz, frzO, asgR, mCB, sNext, peekA, fIx, mSeq, LIM, sSetL, intR, slotUp, e, doS, e', a1, b1, a2, b2, sAsgT, gmTwo, gmSub]
          exact e3
      refine ⟨CB xs path ys (some (.im w)) (some (.im (.int i))) (some (.im (.int j))), _, rfl, q2, some (.im w), some (.im (.int i)), some (.im (.int j)), ?_⟩
      rw [hsn])
  rw [pbehind_row_eq, seq_nx e0, seq_nx ((for_eq e1).trans e2)]
  simp [pbehind_row_2, CB, BG, sAsg, sIf, mIf, mB, VL.m2, m1, im2, bl2, mVar, mVarO, mC, hold, peek, peekO, isSc, fin, mCons, mNil, frzA, frz, frzO, asgR, mCB, sNext, peekA, fIx, mSeq, LIM, sSetL, intR, slotUp, sRet, retR, retO, bodyR]
end SH
namespace SH
open PySem PySem.Spec PyProof.Rows L2 VL
theorem getD_mem {xs : List D} {i : Int} (h1 : 0 ≤ i) (h2 : i < xs.length) : xs.getD i.toNat .none ∈ xs := by
  have hlt : i.toNat < xs.length := by omega
  rw [List.getD_eq_getElem?_getD, List.getElem?_eq_getElem hlt]
  exact List.getElem_mem hlt
theorem set_mem {xs : List D} {n : Nat} {x d : D} (h : d ∈ xs.set n x) : d ∈ xs ∨ d = x := List.mem_or_eq_of_mem_set h
theorem doS_mem {many : Int} {xs : List D} {t d : D} (ht : PStep many t) (hl : (xs.length : Int) = many) (h : d ∈ doS xs t) : d ∈ xs := by
  obtain ⟨w, i, j, rfl, hw, i1, i2, j1, j2, _⟩ := ht
  have a := getD_mem (xs := xs) i1 (by omega)
  have b := getD_mem (xs := xs) j1 (by omega)
  unfold doS at h
  dsimp only at h
  split at h
  · rcases set_mem h with h | rfl
    · rcases set_mem h with h | rfl
      · exact h
      · exact a
    · exact b
  · rcases set_mem h with h | rfl
    · exact h
    · exact a
theorem doR_mem {many : Int} {d : D} : ∀ {path xs : List D}, (∀ t ∈ path, PStep many t) → (xs.length : Int) = many → d ∈ doR xs path → d ∈ xs
  | [], _, _, _, h => h
  | t :: path, xs, hs, hl, h => doS_mem (hs t (List.mem_cons_self ..)) hl (doR_mem (path := path) (fun e he => hs e (List.mem_cons_of_mem _ he)) (by rw [doS_len]; exact hl) h)
theorem getD_map {f : D → D} {xs : List D} {i : Int} (h1 : 0 ≤ i) (h2 : i < xs.length) : (xs.map f).getD i.toNat .none = f (xs.getD i.toNat .none) := by
  have hlt : i.toNat < xs.length := by omega
  rw [List.getD_eq_getElem?_getD, List.getD_eq_getElem?_getD, List.getElem?_map, List.getElem?_eq_getElem hlt]
  rfl
theorem doS_map {many : Int} {f : D → D} {xs : List D} {t : D} (ht : PStep many t) (hl : (xs.length : Int) = many) : doS (xs.map f) t = (doS xs t).map f := by
  obtain ⟨w, i, j, rfl, hw, i1, i2, j1, j2, _⟩ := ht
  unfold doS
  dsimp only
  rw [getD_map i1 (by omega), getD_map j1 (by omega)]
  split
  · rw [List.map_set, List.map_set]
  · rw [List.map_set]
theorem doR_map {many : Int} {f : D → D} : ∀ {path xs : List D}, (∀ t ∈ path, PStep many t) → (xs.length : Int) = many → doR (xs.map f) path = (doR xs path).map f
  | [], _, _, _ => rfl
  | t :: path, xs, hs, hl => by
    show doR (doS (xs.map f) t) path = (doR (doS xs t) path).map f
    rw [doS_map (hs t (List.mem_cons_self ..)) hl]
    exact doR_map (path := path) (fun e he => hs e (List.mem_cons_of_mem _ he)) (by rw [doS_len]; exact hl)
/-- the source list of a row -/
theorem src_ex {many : Int} {path : List D} (h0 : 0 ≤ many) (hs : ∀ t ∈ path, PStep many t) : ∃ s : List Int, doR (rangeD 0 many.toNat) path = il s ∧ (s.length : Int) = many ∧ ∀ k ∈ s, 0 ≤ k ∧ k < many := by
  have hl : ((rangeD 0 many.toNat).length : Int) = many := by rw [rangeD_len]; omega
  obtain ⟨s, h1, h2⟩ := ints_ex (P := fun k => 0 ≤ k ∧ k < many) (ds := doR (rangeD 0 many.toNat) path) fun d hd => by
    obtain ⟨k, rfl, k1, k2⟩ := rangeD_mem (doR_mem hs hl hd)
    exact ⟨k, rfl, k1, by omega⟩
  refine ⟨s, h1, ?_, h2⟩
  have := congrArg List.length h1
  rw [doR_len, rangeD_len, List.length_map] at this
  omega
theorem held_map {held : List D} {many : Int} (hl : (held.length : Int) = many) : held = (rangeD 0 many.toNat).map fun d => match d with | .int k => held.getD k.toNat .none | _ => .none := by
  apply List.ext_getElem?
  intro i
  rw [List.getElem?_map]
  unfold rangeD
  rw [List.getElem?_map]
  by_cases h : i < held.length
  · rw [List.getElem?_range (by omega), List.getElem?_eq_getElem h]
    show _ = some (held.getD ((0 : Int) + (i : Int)).toNat .none)
    have : ((0 : Int) + (i : Int)).toNat = i := by omega
    rw [this, List.getD_eq_getElem?_getD, List.getElem?_eq_getElem h]
    rfl
  · rw [List.getElem?_eq_none (by omega), List.getElem?_eq_none (by rw [List.length_range]; omega)]
    rfl
theorem behind_of {many : Int} {held path : List D} {s : List Int} (h0 : 0 ≤ many) (hl : (held.length : Int) = many) (hs : ∀ t ∈ path, PStep many t) (e : doR (rangeD 0 many.toNat) path = il s) : doR held path = s.map fun k => held.getD k.toNat .none := by
  have h := held_map hl
  have hr : ((rangeD 0 many.toNat).length : Int) = many := by rw [rangeD_len]; omega
  have q := doR_map (f := fun d => match d with | .int k => held.getD k.toNat .none | _ => .none) hs hr
  rw [← h, e, List.map_map] at q
  exact q
end SH

set_option Elab.async false
set_option linter.all false
set_option maxRecDepth 100000
set_option exponentiation.threshold 4000
namespace VL
open PySem PySem.Spec PyProof.Rows L2
abbrev gt (s : List Int) (k : Int) : Int := s.getD k.toNat 0
theorem getD_memN {xs : List D} {i : Nat} (h2 : i < xs.length) : xs.getD i .none ∈ xs := by
  rw [List.getD_eq_getElem?_getD, List.getElem?_eq_getElem h2]
  exact List.getElem_mem h2
theorem len_of (s : String) : (Str.ofString s).length = s.length := by
  rw [Str.ofString_eq_toList]
  show ((s.toList.map Char.toNat).toArray).size = _
  rw [List.size_toArray, List.length_map]
  first | rfl | exact String.length_toList | simp [String.length]
theorem txB {i : Int} (h : -(10 ^ 100) < i) (h2 : i < 10 ^ 100) : Tx 150 0 (.int i) := by
  have hn : i.natAbs < 10 ^ 100 := by omega
  refine Tx.mono (n := 101) (k := 0) (Tx.int ?_ ?_) (by decide) (by decide)
  · by_cases h0 : i.natAbs = 0
    · rw [h0]; decide +kernel
    · rw [Nat.log2_lt h0]
      exact Nat.lt_trans hn (by decide +kernel)
  · rw [len_of]
    exact int_text_length_le10 (by decide) hn
theorem neS {s : Str} (h : SeqAt.shaped (.str s) = true) : gNe (.str s) (.str s) = some false := by
  have : PyData.eqv (.str s) (.str s) = true := beq_self_eq_true s
  simp [gNe, h, this]
theorem eqS {s : Str} (h : SeqAt.shaped (.str s) = true) : gEq (.str s) (.str s) = some true := by
  have : PyData.eqv (.str s) (.str s) = true := beq_self_eq_true s
  simp [gEq, lenNe, h, this]
theorem reprSame {n k : Nat} {d : D} (h : Tx n k d) (hn : n ≤ LIM) (hk : k ≤ 60) : ∃ z : Str, fRepr [d] = some (.str z) ∧ gNe (.str z) (.str z) = some false ∧ gEq (.str z) (.str z) = some true := ⟨d.shown, h.repr hn hk, neS h.shaped, eqS h.shaped⟩
abbrev ill (ls : List (List Int)) : List D := ls.map fun l => .list (il l)
theorem ill_all : ∀ ls : List (List Int), PyData.canLayAll0 (ill ls) = true ∧ PyData.depthAll (ill ls) ≤ 1 ∧ PyData.eqvAll (ill ls) (ill ls) = true
  | [] => ⟨rfl, Nat.zero_le _, rfl⟩
  | l :: ls => by
    obtain ⟨h1, h2, h3⟩ := ill_all ls
    obtain ⟨k1, k2⟩ := il_all l
    refine ⟨?_, ?_, ?_⟩
    · show (PyData.canLayAll0 (il l) && PyData.canLayAll0 (ill ls)) = true
      rw [k1, h1]
      rfl
    · show max (PyData.depthAll (il l) + 1) (PyData.depthAll (ill ls)) ≤ 1
      rw [k2]
      omega
    · show (PyData.eqvAll (il l) (il l) && PyData.eqvAll (ill ls) (ill ls)) = true
      rw [h3, eqv_il]
      simp
theorem ill_sh (ls : List (List Int)) : SeqAt.shaped (.list (ill ls)) = true := by
  obtain ⟨h1, h2, _⟩ := ill_all ls
  show (PyData.canLayAll0 (ill ls) && decide (PyData.depthAll (ill ls) + 1 ≤ 64)) = true
  rw [h1, decide_eq_true (by omega)]
  rfl
theorem ne_ill (ls : List (List Int)) : gNe (.list (ill ls)) (.list (ill ls)) = some false := by
  unfold gNe
  rw [ill_sh ls]
  show some (!PyData.eqvAll (ill ls) (ill ls)) = _
  rw [(ill_all ls).2.2]
  rfl
theorem eq_ill (ls : List (List Int)) : gEq (.list (ill ls)) (.list (ill ls)) = some true := by
  unfold gEq
  rw [ill_sh ls]
  have : lenNe (.list (ill ls)) (.list (ill ls)) = false := by
    show ((ill ls).length != (ill ls).length) = false
    simp
  rw [this]
  show some (PyData.eqvAll (ill ls) (ill ls)) = _
  rw [(ill_all ls).2.2]
end VL
namespace SH
open PySem PySem.Spec PyProof.Rows L2 VL
def m_is_list_of : Ms := (sRet (mBV (mAnd (mB (m1 (fIsi "list") (mVar 0))) (mB (mChain gLe gLe (mVar 1) (mCB (imN fLen) (mCons (mVar 0) mNil)) (mVar 2))))))
abbrev d_is_list_of : List D → Option Fr := fnV 3 3 m_is_list_of
def m_is_integer : Ms := (sRet (mBV (mAnd (mB (m1 (fIsi "int") (mVar 0))) (mB (mBV (mNot (mB (m1 (fIsi "bool") (mVar 0)))))))))
abbrev d_is_integer : List D → Option Fr := fnV 1 1 m_is_integer
def m_is_between : Ms := (sRet (mBV (mAnd (mB (mCall d_is_integer (mCons (mVar 0) mNil))) (mB (mChain gLe gLe (mVar 1) (mVar 0) (mVar 2))))))
abbrev d_is_between : List D → Option Fr := fnV 3 3 m_is_between
def m_is_held : Ms := (sRet (mCall d_is_between (mCons (mVar 0) (mCons (mC (.int (-1000000000000000000000000000000))) (mCons (mC (.int (1000000000000000000000000000000))) mNil)))))
abbrev d_is_held : List D → Option Fr := fnV 1 1 m_is_held
def m_is_wanted : Ms := (sRet (mBV (mOr (mB (m2 (im2 (bl2 gIs)) (mVar 0) (mC .none))) (mB (mCall d_is_held (mCons (mVar 0) mNil))))))
abbrev d_is_wanted : List D → Option Fr := fnV 1 1 m_is_wanted
def m_check_now : Ms := (sSeq (sIf (mNot (mB (mCall d_is_list_of (mCons (mVar 0) (mCons (mC (.int 1)) (mCons (mC (.int (60))) mNil)))))) sNever sNext) (sFor (mEnum (mCons (mVar 0) mNil)) (gmTup 2 (gmCons (gmName 1) (gmCons (gmName 2) gmNil))) (sIf (mNot (mB (mCall d_is_held (mCons (mVar 2) mNil)))) sNever sNext)))
abbrev d_check_now : List D → Option Fr := fnV 1 3 m_check_now
def m_check_wish : Ms := (sSeq (sDrop (mCall d_check_now (mCons (mVar 0) mNil))) (sSeq (sIf (mNot (mB (mCall d_is_list_of (mCons (mVar 1) (mCons (mCB (imN fLen) (mCons (mVar 0) mNil)) (mCons (mCB (imN fLen) (mCons (mVar 0) mNil)) mNil)))))) sNever sNext) (sFor (mEnum (mCons (mVar 1) mNil)) (gmTup 2 (gmCons (gmName 2) (gmCons (gmName 3) gmNil))) (sIf (mNot (mB (mCall d_is_wanted (mCons (mVar 3) mNil)))) sNever sNext))))
abbrev d_check_wish : List D → Option Fr := fnV 2 4 m_check_wish
def m_wrong_in : Ms := (sRet (mLc (mEnum (mCons (mVar 1) mNil)) (gmTup 2 (gmCons (gmName 2) (gmCons (gmName 3) gmNil))) (mAnd (mB (m2 (im2 (bl2 gIsNot)) (mVar 3) (mC .none))) (mB (m2 (im2 (bl2 gNe)) (mVar 3) (m2 fIx (mVar 0) (mVar 2))))) (mVar 2) [2, 3]))
abbrev d_wrong_in : List D → Option Fr := fnV 2 4 m_wrong_in
def m_wrong_cells : Ms := (sSeq (sDrop (mCall d_check_wish (mCons (mVar 0) (mCons (mVar 1) mNil)))) (sRet (mCall d_wrong_in (mCons (mVar 0) (mCons (mVar 1) mNil)))))
abbrev d_wrong_cells : List D → Option Fr := fnV 2 2 m_wrong_cells
def m_is_done : Ms := (sRet (m2 (im2 (bl2 gEq)) (mCB (imN fLen) (mCons (mCall d_wrong_cells (mCons (mVar 0) (mCons (mVar 1) mNil))) mNil)) (mC (.int 0))))
abbrev d_is_done : List D → Option Fr := fnV 2 2 m_is_done
def pis_list_of_0 : Ms := (sRet (mBV (mAnd (mB (m1 (fIsi "list") (mVar 0))) (mB (mChain gLe gLe (mVar 1) (mCB (imN fLen) (mCons (mVar 0) mNil)) (mVar 2))))))
theorem pis_list_of_eq : m_is_list_of = pis_list_of_0 := rfl
def pis_integer_0 : Ms := (sRet (mBV (mAnd (mB (m1 (fIsi "int") (mVar 0))) (mB (mBV (mNot (mB (m1 (fIsi "bool") (mVar 0)))))))))
theorem pis_integer_eq : m_is_integer = pis_integer_0 := rfl
def pis_between_0 : Ms := (sRet (mBV (mAnd (mB (mCall d_is_integer (mCons (mVar 0) mNil))) (mB (mChain gLe gLe (mVar 1) (mVar 0) (mVar 2))))))
theorem pis_between_eq : m_is_between = pis_between_0 := rfl
def pis_held_0 : Ms := (sRet (mCall d_is_between (mCons (mVar 0) (mCons (mC (.int (-1000000000000000000000000000000))) (mCons (mC (.int 1000000000000000000000000000000)) mNil)))))
theorem pis_held_eq : m_is_held = pis_held_0 := rfl
def pis_wanted_0 : Ms := (sRet (mBV (mOr (mB (m2 (im2 (bl2 gIs)) (mVar 0) (mC .none))) (mB (mCall d_is_held (mCons (mVar 0) mNil))))))
theorem pis_wanted_eq : m_is_wanted = pis_wanted_0 := rfl
def pcheck_now_0 : Ms := (sIf (mNot (mB (mCall d_is_list_of (mCons (mVar 0) (mCons (mC (.int 1)) (mCons (mC (.int 60)) mNil)))))) sNever sNext)
def pcheck_now_1_0 : Ms := (sIf (mNot (mB (mCall d_is_held (mCons (mVar 2) mNil)))) sNever sNext)
def pcheck_now_1_it : Mi := (mEnum (mCons (mVar 0) mNil))
def pcheck_now_1_b : Ms := pcheck_now_1_0
theorem pcheck_now_eq : m_check_now = (sSeq pcheck_now_0 (sFor pcheck_now_1_it (gmTup 2 (gmCons (gmName 1) (gmCons (gmName 2) gmNil))) pcheck_now_1_b)) := rfl
def pcheck_wish_0 : Ms := (sDrop (mCall d_check_now (mCons (mVar 0) mNil)))
def pcheck_wish_1 : Ms := (sIf (mNot (mB (mCall d_is_list_of (mCons (mVar 1) (mCons (mCB (imN fLen) (mCons (mVar 0) mNil)) (mCons (mCB (imN fLen) (mCons (mVar 0) mNil)) mNil)))))) sNever sNext)
def pcheck_wish_2_0 : Ms := (sIf (mNot (mB (mCall d_is_wanted (mCons (mVar 3) mNil)))) sNever sNext)
def pcheck_wish_2_it : Mi := (mEnum (mCons (mVar 1) mNil))
def pcheck_wish_2_b : Ms := pcheck_wish_2_0
theorem pcheck_wish_eq : m_check_wish = (sSeq pcheck_wish_0 (sSeq pcheck_wish_1 (sFor pcheck_wish_2_it (gmTup 2 (gmCons (gmName 2) (gmCons (gmName 3) gmNil))) pcheck_wish_2_b))) := rfl
def pwrong_in_0 : Ms := (sRet (mLc (mEnum (mCons (mVar 1) mNil)) (gmTup 2 (gmCons (gmName 2) (gmCons (gmName 3) gmNil))) (mAnd (mB (m2 (im2 (bl2 gIsNot)) (mVar 3) (mC .none))) (mB (m2 (im2 (bl2 gNe)) (mVar 3) (m2 fIx (mVar 0) (mVar 2))))) (mVar 2) [2, 3]))
theorem pwrong_in_eq : m_wrong_in = pwrong_in_0 := rfl
def pwrong_cells_0 : Ms := (sDrop (mCall d_check_wish (mCons (mVar 0) (mCons (mVar 1) mNil))))
def pwrong_cells_1 : Ms := (sRet (mCall d_wrong_in (mCons (mVar 0) (mCons (mVar 1) mNil))))
theorem pwrong_cells_eq : m_wrong_cells = (sSeq pwrong_cells_0 pwrong_cells_1) := rfl
def pis_done_0 : Ms := (sRet (m2 (im2 (bl2 gEq)) (mCB (imN fLen) (mCons (mCall d_wrong_cells (mCons (mVar 0) (mCons (mVar 1) mNil))) mNil)) (mC (.int 0))))
theorem pis_done_eq : m_is_done = pis_done_0 := rfl
end SH
namespace SH.Q
open PySem PySem.Spec PyProof.Rows L2 VL SH
theorem kt1 : kitB "NoneType" "int" = some false := by decide +kernel
theorem kt3 : kitB "int" "int" = some true := by decide +kernel
theorem kb3 : kitB "int" "bool" = some false := by decide +kernel
theorem kl5 : kitB "list" "list" = some true := by decide +kernel
structure Ok (h : List Int) (gl : List D) : Prop where
  l1 : 1 ≤ h.length
  l2 : h.length ≤ 60
  hh : ∀ i ∈ h, -1000000000000000000000000000000 ≤ i ∧ i ≤ 1000000000000000000000000000000
  lg : gl.length = h.length
  gw : ∀ d ∈ gl, Wnt d
theorem integer (i : Int) : d_is_integer [.int i] = some (.im (.bool true)) := by
  show bodyR (m_is_integer [some (.im (.int i))]) = _
  simp [m_is_integer, sAsg, sIf, mIf, mB, mBV, mAnd, mOr, mNot, VL.m2, m1, im2, bl2, gEqI, gNeI, mVar, mVarO, mC, hold, peek, peekO, isSc, fin, mCallS, mCall, mCons, mNil, callS, frzA, frz, frzO, frR, asgR, mCB, imN, fInt, fAdd, fSub, fMod, fLen, ii, sNext, peekA, fIx, mSeq, LIM, sDrop, sRet, retR, retO, bodyR, mChain, gLe, gInt, fIsi, tyN, kt3, kb3]
theorem between (i a b : Int) : d_is_between [.int i, .int a, .int b] = some (.im (.bool (decide (a ≤ i) && decide (i ≤ b)))) := by
  have e := integer i
  show bodyR (m_is_between [some (.im (.int i)), some (.im (.int a)), some (.im (.int b))]) = _
  by_cases h : a ≤ i <;> simp [m_is_between, sAsg, sIf, mIf, mB, mBV, mAnd, mOr, mNot, VL.m2, m1, im2, bl2, gEqI, gNeI, mVar, mVarO, mC, hold, peek, peekO, isSc, fin, mCallS, mCall, mCons, mNil, callS, frzA, frz, frzO, frR, asgR, mCB, imN, fInt, fAdd, fSub, fMod, fLen, ii, sNext, peekA, fIx, mSeq, LIM, sDrop, sRet, retR, retO, bodyR, mChain, gLe, gInt, e, h]
theorem held1 {i : Int} (h : -1000000000000000000000000000000 ≤ i ∧ i ≤ 1000000000000000000000000000000) : d_is_held [.int i] = some (.im (.bool true)) := by
  have e := between i (-1000000000000000000000000000000) 1000000000000000000000000000000
  show bodyR (m_is_held [some (.im (.int i))]) = _
  simp [m_is_held, sAsg, sIf, mIf, mB, mBV, mAnd, mOr, mNot, VL.m2, m1, im2, bl2, gEqI, gNeI, mVar, mVarO, mC, hold, peek, peekO, isSc, fin, mCallS, mCall, mCons, mNil, callS, frzA, frz, frzO, frR, asgR, mCB, imN, fInt, fAdd, fSub, fMod, fLen, ii, sNext, peekA, fIx, mSeq, LIM, sDrop, sRet, retR, retO, bodyR, mChain, gLe, gInt, e, h]
theorem wanted1 {d : D} (h : Wnt d) : d_is_wanted [d] = some (.im (.bool true)) := by
  rcases h with ⟨i, rfl, h1, h2⟩ | rfl
  · have e := held1 ⟨h1, h2⟩
    show bodyR (m_is_wanted [some (.im (.int i))]) = _
    simp [m_is_wanted, sAsg, sIf, mIf, mB, mBV, mAnd, mOr, mNot, VL.m2, m1, im2, bl2, gEqI, gNeI, mVar, mVarO, mC, hold, peek, peekO, isSc, fin, mCallS, mCall, mCons, mNil, callS, frzA, frz, frzO, frR, asgR, mCB, imN, fInt, fAdd, fSub, fMod, fLen, ii, sNext, peekA, fIx, mSeq, LIM, sDrop, sRet, retR, retO, bodyR, mChain, gLe, gInt, e, gIs, isNoneD]
  · show bodyR (m_is_wanted [some (.im .none)]) = _
    simp [m_is_wanted, sAsg, sIf, mIf, mB, mBV, mAnd, mOr, mNot, VL.m2, m1, im2, bl2, gEqI, gNeI, mVar, mVarO, mC, hold, peek, peekO, isSc, fin, mCallS, mCall, mCons, mNil, callS, frzA, frz, frzO, frR, asgR, mCB, imN, fInt, fAdd, fSub, fMod, fLen, ii, sNext, peekA, fIx, mSeq, LIM, sDrop, sRet, retR, retO, bodyR, mChain, gLe, gInt, gIs, isNoneD]
theorem list_of (ds : List D) (a b : Int) : d_is_list_of [.list ds, .int a, .int b] = some (.im (.bool (decide (a ≤ (ds.length : Int)) && decide ((ds.length : Int) ≤ b)))) := by
  show bodyR (m_is_list_of [some (.im (.list ds)), some (.im (.int a)), some (.im (.int b))]) = _
  by_cases h : a ≤ (ds.length : Int) <;> simp [m_is_list_of, sAsg, sIf, mIf, mB, mBV, mAnd, mOr, mNot, VL.m2, m1, im2, bl2, gEqI, gNeI, mVar, mVarO, mC, hold, peek, peekO, isSc, fin, mCallS, mCall, mCons, mNil, callS, frzA, frz, frzO, frR, asgR, mCB, imN, fInt, fAdd, fSub, fMod, fLen, ii, sNext, peekA, fIx, mSeq, LIM, sDrop, sRet, retR, retO, bodyR, mChain, gLe, gInt, fIsi, tyN, kl5, h]
variable {h : List Int} {gl : List D}
theorem check_now (o : Ok h gl) : d_check_now [.list (il h)] = some (.im .none) := by
  have e := list_of (il h) 1 60
  have l1 := o.l1
  have l2 := o.l2
  have z1 : (1 : Int) ≤ ((il h).length : Int) := by rw [il_len]; omega
  have z2 : ((il h).length : Int) ≤ 60 := by rw [il_len]; omega
  show bodyR (m_check_now [some (.im (.list (il h))), none, none]) = _
  have e0 : pcheck_now_0 [some (.im (.list (il h))), none, none] = some (.nx [some (.im (.list (il h))), none, none]) := by
    rw [decide_eq_true z1, decide_eq_true z2] at e
    simp [pcheck_now_0, sAsg, sIf, mIf, mB, mBV, mAnd, mOr, mNot, VL.m2, m1, im2, bl2, gEqI, gNeI, mVar, mVarO, mC, hold, peek, peekO, isSc, fin, mCallS, mCall, mCons, mNil, callS, frzA, frz, frzO, frR, asgR, mCB, imN, fInt, fAdd, fSub, fMod, fLen, ii, sNext, peekA, fIx, mSeq, LIM, sDrop, sRet, retR, retO, bodyR, mChain, gLe, gInt, e]
  have e1 : pcheck_now_1_it [some (.im (.list (il h))), none, none] = some (enumD (il h), [some (.im (.list (il h))), none, none]) := by
    simp [pcheck_now_1_it, mEnum, sAsg, sIf, mIf, mB, mBV, mAnd, mOr, mNot, VL.m2, m1, im2, bl2, gEqI, gNeI, mVar, mVarO, mC, hold, peek, peekO, isSc, fin, mCallS, mCall, mCons, mNil, callS, frzA, frz, frzO, frR, asgR, mCB, imN, fInt, fAdd, fSub, fMod, fLen, ii, sNext, peekA, fIx, mSeq, LIM, sDrop, sRet, retR, retO, bodyR, mChain, gLe, gInt]
  obtain ⟨Γ', e2, o1, o2, rfl⟩ := for_inv (mt := gmTup 2 (gmCons (gmName 1) (gmCons (gmName 2) gmNil))) (m := pcheck_now_1_b) (ds := enumD (il h)) (i := 0) (Γ := [some (.im (.list (il h))), none, none])
    (I := fun _ Γ => ∃ o1 o2, Γ = [some (.im (.list (il h))), o1, o2]) ⟨_, _, rfl⟩ (by
      rintro j d Γ hd _ _ ⟨o1, o2, rfl⟩
      obtain ⟨k, hk, rfl⟩ := enum_mem hd
      obtain ⟨i, hi, e9⟩ := List.mem_map.mp (getD_memN hk)
      rw [← e9]
      have q := held1 (o.hh i hi)
      exact ⟨[some (.im (.list (il h))), some (.im (.int (k : Int))), some (.im (.int i))], [some (.im (.list (il h))), some (.im (.int (k : Int))), some (.im (.int i))], rfl, by simp [pcheck_now_1_b, pcheck_now_1_0, sAsg, sIf, mIf, mB, mBV, mAnd, mOr, mNot, VL.m2, m1, im2, bl2, gEqI, gNeI, mVar, mVarO, mC, hold, peek, peekO, isSc, fin, mCallS, mCall, mCons, mNil, callS, frzA, frz, frzO, frR, asgR, mCB, imN, fInt, fAdd, fSub, fMod, fLen, ii, sNext, peekA, fIx, mSeq, LIM, sDrop, sRet, retR, retO, bodyR, mChain, gLe, gInt, q], _, _, rfl⟩)
  rw [pcheck_now_eq, seq_nx e0, (for_eq e1).trans e2]
  rfl
theorem check_wish (o : Ok h gl) : d_check_wish [.list (il h), .list gl] = some (.im .none) := by
  have e := list_of gl (h.length : Int) (h.length : Int)
  have ec := check_now o
  have z := o.lg
  have z1 : (h.length : Int) ≤ (gl.length : Int) := by omega
  have z2 : (gl.length : Int) ≤ (h.length : Int) := by omega
  rw [decide_eq_true z1, decide_eq_true z2] at e
  show bodyR (m_check_wish [some (.im (.list (il h))), some (.im (.list gl)), none, none]) = _
  have ea : pcheck_wish_0 [some (.im (.list (il h))), some (.im (.list gl)), none, none] = some (.nx [some (.im (.list (il h))), some (.im (.list gl)), none, none]) := by
    simp [pcheck_wish_0, sAsg, sIf, mIf, mB, mBV, mAnd, mOr, mNot, VL.m2, m1, im2, bl2, gEqI, gNeI, mVar, mVarO, mC, hold, peek, peekO, isSc, fin, mCallS, mCall, mCons, mNil, callS, frzA, frz, frzO, frR, asgR, mCB, imN, fInt, fAdd, fSub, fMod, fLen, ii, sNext, peekA, fIx, mSeq, LIM, sDrop, sRet, retR, retO, bodyR, mChain, gLe, gInt, ec]
  have e0 : pcheck_wish_1 [some (.im (.list (il h))), some (.im (.list gl)), none, none] = some (.nx [some (.im (.list (il h))), some (.im (.list gl)), none, none]) := by
    simp [pcheck_wish_1, sAsg, sIf, mIf, mB, mBV, mAnd, mOr, mNot, VL.m2, m1, im2, bl2, gEqI, gNeI, mVar, mVarO, mC, hold, peek, peekO, isSc, fin, mCallS, mCall, mCons, mNil, callS, frzA, frz, frzO, frR, asgR, mCB, imN, fInt, fAdd, fSub, fMod, fLen, ii, sNext, peekA, fIx, mSeq, LIM, sDrop, sRet, retR, retO, bodyR, mChain, gLe, gInt, e]
  have e1 : pcheck_wish_2_it [some (.im (.list (il h))), some (.im (.list gl)), none, none] = some (enumD gl, [some (.im (.list (il h))), some (.im (.list gl)), none, none]) := by
    simp [pcheck_wish_2_it, mEnum, sAsg, sIf, mIf, mB, mBV, mAnd, mOr, mNot, VL.m2, m1, im2, bl2, gEqI, gNeI, mVar, mVarO, mC, hold, peek, peekO, isSc, fin, mCallS, mCall, mCons, mNil, callS, frzA, frz, frzO, frR, asgR, mCB, imN, fInt, fAdd, fSub, fMod, fLen, ii, sNext, peekA, fIx, mSeq, LIM, sDrop, sRet, retR, retO, bodyR, mChain, gLe, gInt]
  obtain ⟨Γ', e2, o1, o2, rfl⟩ := for_inv (mt := gmTup 2 (gmCons (gmName 2) (gmCons (gmName 3) gmNil))) (m := pcheck_wish_2_b) (ds := enumD gl) (i := 0) (Γ := [some (.im (.list (il h))), some (.im (.list gl)), none, none])
    (I := fun _ Γ => ∃ o1 o2, Γ = [some (.im (.list (il h))), some (.im (.list gl)), o1, o2]) ⟨_, _, rfl⟩ (by
      rintro j d Γ hd _ _ ⟨o1, o2, rfl⟩
      obtain ⟨k, hk, rfl⟩ := enum_mem hd
      have q := wanted1 (o.gw _ (getD_memN hk))
      generalize gl.getD k .none = x at q
      exact ⟨[some (.im (.list (il h))), some (.im (.list gl)), some (.im (.int (k : Int))), some (.im x)], [some (.im (.list (il h))), some (.im (.list gl)), some (.im (.int (k : Int))), some (.im x)], rfl, by simp [pcheck_wish_2_b, pcheck_wish_2_0, sAsg, sIf, mIf, mB, mBV, mAnd, mOr, mNot, VL.m2, m1, im2, bl2, gEqI, gNeI, mVar, mVarO, mC, hold, peek, peekO, isSc, fin, mCallS, mCall, mCons, mNil, callS, frzA, frz, frzO, frR, asgR, mCB, imN, fInt, fAdd, fSub, fMod, fLen, ii, sNext, peekA, fIx, mSeq, LIM, sDrop, sRet, retR, retO, bodyR, mChain, gLe, gInt, q], _, _, rfl⟩)
  rw [pcheck_wish_eq, seq_nx ea, seq_nx e0, (for_eq e1).trans e2]
  rfl
def badB (h : List Int) (gl : List D) (k : Int) : Bool := match gl.getD k.toNat .none with
  | .int j => !(j == gt h k)
  | _ => false
def bad (h : List Int) (gl : List D) : List Int := (rgI h.length).filter (badB h gl)
def fBad (h : List Int) : D → Option D
  | .tuple [.int k, .int j] => if !(j == gt h k) then some (.int k) else none
  | _ => none
theorem atH {k : Int} (h1 : 0 ≤ k) (h2 : k < h.length) : atI (il h) k = some (.int (gt h k)) := atI_il h1 h2
theorem wrong_in (o : Ok h gl) : d_wrong_in [.list (il h), .list gl] = some (.fr (il (bad h gl))) := by
  have z := o.lg
  have l2 := o.l2
  have lc := lc_one (mi := mEnum (mCons (mVar 1) mNil)) (mt := gmTup 2 (gmCons (gmName 2) (gmCons (gmName 3) gmNil))) (mc := mAnd (mB (VL.m2 (im2 (bl2 gIsNot)) (mVar 3) (mC .none))) (mB (VL.m2 (im2 (bl2 gNe)) (mVar 3) (VL.m2 fIx (mVar 0) (mVar 2))))) (me := mVar 2) (vs := [2, 3])
    (Γ := [some (.im (.list (il h))), some (.im (.list gl)), none, none]) (Γ1 := [some (.im (.list (il h))), some (.im (.list gl)), none, none]) (ds := enumD gl) (fBad h)
    (by simp [mEnum, sAsg, sIf, mIf, mB, mBV, mAnd, mOr, mNot, VL.m2, m1, im2, bl2, gEqI, gNeI, mVar, mVarO, mC, hold, peek, peekO, isSc, fin, mCallS, mCall, mCons, mNil, callS, frzA, frz, frzO, frR, asgR, mCB, imN, fInt, fAdd, fSub, fMod, fLen, ii, sNext, peekA, fIx, mSeq, LIM, sDrop, sRet, retR, retO, bodyR, mChain, gLe, gInt]) (by rfl) (by rw [enum_len]; show _ ≤ 4000000; omega) (fun d hd => by
      obtain ⟨k, hk, rfl⟩ := enum_mem hd
      have a := atH (h := h) (k := (k : Int)) (by omega) (by omega)
      rcases o.gw _ (getD_memN hk) with ⟨j, e, _⟩ | e
      · rw [e]
        refine ⟨[some (.im (.list (il h))), some (.im (.list gl)), some (.im (.int (k : Int))), some (.im (.int j))], ?_, rfl⟩
        have ef : fBad h (.tuple [.int (k : Int), .int j]) = if !(j == gt h (k : Int)) then some (.int (k : Int)) else none := rfl
        rw [ef]
        generalize gt h (k : Int) = v at a ⊢
        by_cases hz : j = v <;> simp [lcTurn, gmTup, gmCons, gmNil, gmName, wipeG, sAsg, sIf, mIf, mB, mBV, mAnd, mOr, mNot, VL.m2, m1, im2, bl2, gEqI, gNeI, mVar, mVarO, mC, hold, peek, peekO, isSc, fin, mCallS, mCall, mCons, mNil, callS, frzA, frz, frzO, frR, asgR, mCB, imN, fInt, fAdd, fSub, fMod, fLen, ii, sNext, peekA, fIx, mSeq, LIM, sDrop, sRet, retR, retO, bodyR, mChain, gLe, gInt, gIsNot, isNoneD, a, hz]
      · rw [e]
        refine ⟨[some (.im (.list (il h))), some (.im (.list gl)), some (.im (.int (k : Int))), some (.im .none)], ?_, rfl⟩
        simp [lcTurn, gmTup, gmCons, gmNil, gmName, wipeG, sAsg, sIf, mIf, mB, mBV, mAnd, mOr, mNot, VL.m2, m1, im2, bl2, gEqI, gNeI, mVar, mVarO, mC, hold, peek, peekO, isSc, fin, mCallS, mCall, mCons, mNil, callS, frzA, frz, frzO, frR, asgR, mCB, imN, fInt, fAdd, fSub, fMod, fLen, ii, sNext, peekA, fIx, mSeq, LIM, sDrop, sRet, retR, retO, bodyR, mChain, gLe, gInt, gIsNot, isNoneD, fBad])
  have fm := enum_fm (p := badB h gl) (f := fBad h) (gl := gl) fun k hk => by
    have e2 : ((k : Int)).toNat = k := by omega
    unfold badB
    rw [e2]
    cases gl.getD k .none <;> rfl
  rw [fm, z] at lc
  have lc' : mLc (mEnum (mCons (mVar 1) mNil)) (gmTup 2 (gmCons (gmName 2) (gmCons (gmName 3) gmNil))) (mAnd (mB (VL.m2 (im2 (bl2 gIsNot)) (mVar 3) (mC .none))) (mB (VL.m2 (im2 (bl2 gNe)) (mVar 3) (VL.m2 fIx (mVar 0) (mVar 2))))) (mVar 2) [2, 3] [some (.im (.list (il h))), some (.im (.list gl)), none, none] = some (.fr (il (bad h gl)), [some (.im (.list (il h))), some (.im (.list gl)), none, none]) := lc
  show bodyR (m_wrong_in [some (.im (.list (il h))), some (.im (.list gl)), none, none]) = _
  rw [pwrong_in_eq]
  unfold pwrong_in_0 sRet
  rw [lc']
  rfl
theorem wrong_cells (o : Ok h gl) : d_wrong_cells [.list (il h), .list gl] = some (.fr (il (bad h gl))) := by
  have e1 := check_wish o
  have e2 := wrong_in o
  show bodyR (m_wrong_cells [some (.im (.list (il h))), some (.im (.list gl))]) = _
  simp [pwrong_cells_eq, pwrong_cells_0, pwrong_cells_1, sSeq, sAsg, sIf, mIf, mB, mBV, mAnd, mOr, mNot, VL.m2, m1, im2, bl2, gEqI, gNeI, mVar, mVarO, mC, hold, peek, peekO, isSc, fin, mCallS, mCall, mCons, mNil, callS, frzA, frz, frzO, frR, asgR, mCB, imN, fInt, fAdd, fSub, fMod, fLen, ii, sNext, peekA, fIx, mSeq, LIM, sDrop, sRet, retR, retO, bodyR, mChain, gLe, gInt, e1, e2]
theorem bad_mem {k : Int} : k ∈ bad h gl ↔ (0 ≤ k ∧ k < h.length) ∧ badB h gl k = true := by
  unfold bad
  rw [List.mem_filter, rgI_mem]
theorem bad_len (o : Ok h gl) : (bad h gl).length ≤ 60 := Nat.le_trans (filter_len _ _) o.l2
theorem shI (i : Int) : SeqAt.shaped (.int i) = true := rfl
theorem notin_il (v : Int) (l : List Int) : gNotIn (.int v) (.list (il l)) = some (!l.contains v) := by
  have e : ((il l).any fun z => PyData.eqv z (.int v)) = l.contains v := by
    induction l with
    | nil => rfl
    | cons a l ih =>
      show ((a == v) || (il l).any fun z => PyData.eqv z (.int v)) = _
      rw [ih, List.contains_cons, Bool.beq_comm]
  unfold gNotIn gIn itemsOf
  simp only [Option.bind_some, il_sh l, shI v, Bool.and_self, if_true, Option.map_some, e]
theorem fm_map (p : Int → Bool) (e : Int → Int) : ∀ l : List Int, l.filterMap (fun k => if p k then some (e k) else none) = (l.filter p).map e
  | [] => rfl
  | k :: l => by
    by_cases h : p k = true
    · rw [List.filter_cons_of_pos h, List.filterMap_cons_some (by rw [if_pos h]), fm_map p e l]
      rfl
    · rw [List.filter_cons_of_neg h, List.filterMap_cons_none (by rw [if_neg h]), fm_map p e l]
theorem is_done (o : Ok h gl) : d_is_done [.list (il h), .list gl] = some (.im (.bool (decide (bad h gl = [])))) := by
  have e1 := wrong_cells o
  show bodyR (m_is_done [some (.im (.list (il h))), some (.im (.list gl))]) = _
  rw [pis_done_eq]
  cases hb : bad h gl with
  | nil =>
    rw [hb] at e1
    simp [pis_done_0, sAsg, sIf, mIf, mB, mBV, mAnd, mOr, mNot, VL.m2, m1, im2, bl2, gEqI, gNeI, mVar, mVarO, mC, hold, peek, peekO, isSc, fin, mCallS, mCall, mCons, mNil, callS, frzA, frz, frzO, frR, asgR, mCB, imN, fInt, fAdd, fSub, fMod, fLen, ii, sNext, peekA, fIx, mSeq, LIM, sDrop, sRet, retR, retO, bodyR, mChain, gLe, gInt, e1]
  | cons k l =>
    rw [hb] at e1
    simp [pis_done_0, sAsg, sIf, mIf, mB, mBV, mAnd, mOr, mNot, VL.m2, m1, im2, bl2, gEqI, gNeI, mVar, mVarO, mC, hold, peek, peekO, isSc, fin, mCallS, mCall, mCons, mNil, callS, frzA, frz, frzO, frR, asgR, mCB, imN, fInt, fAdd, fSub, fMod, fLen, ii, sNext, peekA, fIx, mSeq, LIM, sDrop, sRet, retR, retO, bodyR, mChain, gLe, gInt, e1]
    omega
end SH.Q

set_option Elab.async false
set_option linter.all false
set_option maxRecDepth 100000
namespace SH
open PySem PySem.Spec PyProof.Rows L2 VL
def m_is_cell : Ms := (sRet (mCall d_is_between (mCons (mVar 1) (mCons (mC (.int 0)) (mCons (m2 (im2 fSub) (mVar 0) (mC (.int 1))) mNil)))))
abbrev d_is_cell : List D → Option Fr := fnV 2 2 m_is_cell
def m_is_step : Ms := (sSeq (sIf (mOr (mNot (mB (m1 (fIsi "tuple") (mVar 1)))) (mB (m2 (im2 (bl2 gNe)) (mCB (imN fLen) (mCons (mVar 1) mNil)) (mC (.int 3))))) (sRet (mC (.bool false))) sNext) (sSeq (sAsgT (gmTup 3 (gmCons (gmName 2) (gmCons (gmName 3) (gmCons (gmName 4) gmNil)))) (mVar 1)) (sRet (mBV (mAnd (mB (m2 (im2 (bl2 gIn)) (mVar 2) (mSeq true (mCons (mC (.str (PySem.Str.ofString "move"))) (mCons (mC (.str (PySem.Str.ofString "swap"))) mNil))))) (mB (mBV (mAnd (mB (mCall d_is_cell (mCons (mVar 0) (mCons (mVar 3) mNil)))) (mB (mBV (mAnd (mB (mCall d_is_cell (mCons (mVar 0) (mCons (mVar 4) mNil)))) (mB (m2 (im2 (bl2 gNe)) (mVar 3) (mVar 4))))))))))))))
abbrev d_is_step : List D → Option Fr := fnV 2 5 m_is_step
def m_check_cells : Ms := (sIf (mNot (mB (mCall d_is_between (mCons (mVar 0) (mCons (mC (.int 1)) (mCons (mC (.int (60))) mNil)))))) sNever sNext)
abbrev d_check_cells : List D → Option Fr := fnV 1 1 m_check_cells
def m_check_steps : Ms := (sFor (mEnum (mCons (mVar 1) mNil)) (gmTup 2 (gmCons (gmName 2) (gmCons (gmName 3) gmNil))) (sIf (mNot (mB (mCall d_is_step (mCons (mVar 0) (mCons (mVar 3) mNil))))) sNever sNext))
abbrev d_check_steps : List D → Option Fr := fnV 2 4 m_check_steps
def m_check_row : Ms := (sSeq (sIf (mNot (mB (mCall d_is_list_of (mCons (mVar 1) (mCons (mC (.int 0)) (mCons (mC (.int (200))) mNil)))))) sNever sNext) (sDrop (mCall d_check_steps (mCons (mVar 0) (mCons (mVar 1) mNil)))))
abbrev d_check_row : List D → Option Fr := fnV 2 2 m_check_row
def m_is_row : Ms := (sSeq (sDrop (mCall d_check_cells (mCons (mVar 0) mNil))) (sRet (mBV (mAnd (mB (mCall d_is_list_of (mCons (mVar 1) (mCons (mC (.int 0)) (mCons (mC (.int (200))) mNil))))) (mB (mCB (imN fAll) (mCons (mLc (mWalk (mVar 1)) (gmName 2) mYes (mCall d_is_step (mCons (mVar 0) (mCons (mVar 2) mNil))) [2]) mNil)))))))
abbrev d_is_row : List D → Option Fr := fnV 2 3 m_is_row
def m_sources_of : Ms := (sSeq (sDrop (mCall d_check_cells (mCons (mVar 0) mNil))) (sSeq (sDrop (mCall d_check_row (mCons (mVar 0) (mCons (mVar 1) mNil)))) (sRet (mCall d_behind_row (mCons (mLR1 (mVar 0)) (mCons (mVar 1) mNil))))))
abbrev d_sources_of : List D → Option Fr := fnV 2 2 m_sources_of
def pis_cell_0 : Ms := (sRet (mCall d_is_between (mCons (mVar 1) (mCons (mC (.int 0)) (mCons (m2 (im2 fSub) (mVar 0) (mC (.int 1))) mNil)))))
theorem pis_cell_eq : m_is_cell = pis_cell_0 := rfl
def pis_step_0 : Ms := (sIf (mOr (mNot (mB (m1 (fIsi "tuple") (mVar 1)))) (mB (m2 (im2 (bl2 gNe)) (mCB (imN fLen) (mCons (mVar 1) mNil)) (mC (.int 3))))) (sRet (mC (.bool false))) sNext)
def pis_step_1 : Ms := (sAsgT (gmTup 3 (gmCons (gmName 2) (gmCons (gmName 3) (gmCons (gmName 4) gmNil)))) (mVar 1))
def pis_step_2 : Ms := (sRet (mBV (mAnd (mB (m2 (im2 (bl2 gIn)) (mVar 2) (mSeq true (mCons (mC (.str (PySem.Str.ofString "move"))) (mCons (mC (.str (PySem.Str.ofString "swap"))) mNil))))) (mB (mBV (mAnd (mB (mCall d_is_cell (mCons (mVar 0) (mCons (mVar 3) mNil)))) (mB (mBV (mAnd (mB (mCall d_is_cell (mCons (mVar 0) (mCons (mVar 4) mNil)))) (mB (m2 (im2 (bl2 gNe)) (mVar 3) (mVar 4))))))))))))
theorem pis_step_eq : m_is_step = (sSeq pis_step_0 (sSeq pis_step_1 pis_step_2)) := rfl
def pcheck_cells_0 : Ms := (sIf (mNot (mB (mCall d_is_between (mCons (mVar 0) (mCons (mC (.int 1)) (mCons (mC (.int 60)) mNil)))))) sNever sNext)
theorem pcheck_cells_eq : m_check_cells = pcheck_cells_0 := rfl
def pcheck_steps_0_0 : Ms := (sIf (mNot (mB (mCall d_is_step (mCons (mVar 0) (mCons (mVar 3) mNil))))) sNever sNext)
def pcheck_steps_0_it : Mi := (mEnum (mCons (mVar 1) mNil))
def pcheck_steps_0_b : Ms := pcheck_steps_0_0
theorem pcheck_steps_eq : m_check_steps = (sFor pcheck_steps_0_it (gmTup 2 (gmCons (gmName 2) (gmCons (gmName 3) gmNil))) pcheck_steps_0_b) := rfl
def pcheck_row_0 : Ms := (sIf (mNot (mB (mCall d_is_list_of (mCons (mVar 1) (mCons (mC (.int 0)) (mCons (mC (.int 200)) mNil)))))) sNever sNext)
def pcheck_row_1 : Ms := (sDrop (mCall d_check_steps (mCons (mVar 0) (mCons (mVar 1) mNil))))
theorem pcheck_row_eq : m_check_row = (sSeq pcheck_row_0 pcheck_row_1) := rfl
def pis_row_0 : Ms := (sDrop (mCall d_check_cells (mCons (mVar 0) mNil)))
def pis_row_1 : Ms := (sRet (mBV (mAnd (mB (mCall d_is_list_of (mCons (mVar 1) (mCons (mC (.int 0)) (mCons (mC (.int 200)) mNil))))) (mB (mCB (imN fAll) (mCons (mLc (mWalk (mVar 1)) (gmName 2) mYes (mCall d_is_step (mCons (mVar 0) (mCons (mVar 2) mNil))) [2]) mNil))))))
theorem pis_row_eq : m_is_row = (sSeq pis_row_0 pis_row_1) := rfl
def psources_of_0 : Ms := (sDrop (mCall d_check_cells (mCons (mVar 0) mNil)))
def psources_of_1 : Ms := (sDrop (mCall d_check_row (mCons (mVar 0) (mCons (mVar 1) mNil))))
def psources_of_2 : Ms := (sRet (mCall d_behind_row (mCons (mLR1 (mVar 0)) (mCons (mVar 1) mNil))))
theorem psources_of_eq : m_sources_of = (sSeq psources_of_0 (sSeq psources_of_1 psources_of_2)) := rfl
theorem kt1 : kitB "NoneType" "int" = some false := by decide +kernel
theorem kt2 : kitB "bool" "int" = some true := by decide +kernel
theorem kt3 : kitB "int" "int" = some true := by decide +kernel
theorem kt4 : kitB "str" "int" = some false := by decide +kernel
theorem kt5 : kitB "list" "int" = some false := by decide +kernel
theorem kt6 : kitB "tuple" "int" = some false := by decide +kernel
theorem kt7 : kitB "dict" "int" = some false := by decide +kernel
theorem kb2 : kitB "bool" "bool" = some true := by decide +kernel
theorem kb3 : kitB "int" "bool" = some false := by decide +kernel
theorem ku1 : kitB "NoneType" "tuple" = some false := by decide +kernel
theorem ku2 : kitB "bool" "tuple" = some false := by decide +kernel
theorem ku3 : kitB "int" "tuple" = some false := by decide +kernel
theorem ku4 : kitB "str" "tuple" = some false := by decide +kernel
theorem ku5 : kitB "list" "tuple" = some false := by decide +kernel
theorem ku6 : kitB "tuple" "tuple" = some true := by decide +kernel
theorem ku7 : kitB "dict" "tuple" = some false := by decide +kernel
theorem kl1 : kitB "NoneType" "list" = some false := by decide +kernel
theorem kl2 : kitB "bool" "list" = some false := by decide +kernel
theorem kl3 : kitB "int" "list" = some false := by decide +kernel
theorem kl4 : kitB "str" "list" = some false := by decide +kernel
theorem kl5 : kitB "list" "list" = some true := by decide +kernel
theorem kl6 : kitB "tuple" "list" = some false := by decide +kernel
theorem kl7 : kitB "dict" "list" = some false := by decide +kernel
def cellB (many : Int) : D → Bool
  | .int i => decide (0 ≤ i) && decide (i < many)
  | _ => false
def wordB (d : D) : Bool := PyData.eqv (.str (PySem.Str.ofString "move")) d || PyData.eqv (.str (PySem.Str.ofString "swap")) d
def stepB (many : Int) : D → Bool
  | .tuple [a, b, c] => wordB a && (cellB many b && (cellB many c && !PyData.eqv b c))
  | _ => false
def rowB (many : Int) : D → Bool
  | .list ds => decide (ds.length ≤ 200) && ds.all (stepB many)
  | _ => false
def btwB (a b : Int) : D → Bool
  | .int i => decide (a ≤ i) && decide (i ≤ b)
  | _ => false
def intB : D → Bool
  | .int _ => true
  | _ => false
theorem integer (d : D) : d_is_integer [d] = some (.im (.bool (intB d))) := by
  show bodyR (m_is_integer [some (.im d)]) = _
  cases d with
  | int i => simp [m_is_integer, sRet, mBV, mAnd, mB, m1, fIsi, mVar, mVarO, tyN, peek, peekO, fin, mNot, mChain, gLe, gLt, gInt, hold, retR, bodyR, mC, mCall, mCons, mNil, frzA, frz, frR, kt3, kb3, intB]
  | bool b => simp [m_is_integer, sRet, mBV, mAnd, mB, m1, fIsi, mVar, mVarO, tyN, peek, peekO, fin, mNot, mChain, gLe, gLt, gInt, hold, retR, bodyR, mC, mCall, mCons, mNil, frzA, frz, frR, kt2, kb2, intB]
  | none => simp [m_is_integer, sRet, mBV, mAnd, mB, m1, fIsi, mVar, mVarO, tyN, peek, peekO, fin, mNot, mChain, gLe, gLt, gInt, hold, retR, bodyR, mC, mCall, mCons, mNil, frzA, frz, frR, kt1, intB]
  | str => simp [m_is_integer, sRet, mBV, mAnd, mB, m1, fIsi, mVar, mVarO, tyN, peek, peekO, fin, mNot, mChain, gLe, gLt, gInt, hold, retR, bodyR, mC, mCall, mCons, mNil, frzA, frz, frR, kt4, intB]
  | list => simp [m_is_integer, sRet, mBV, mAnd, mB, m1, fIsi, mVar, mVarO, tyN, peek, peekO, fin, mNot, mChain, gLe, gLt, gInt, hold, retR, bodyR, mC, mCall, mCons, mNil, frzA, frz, frR, kt5, intB]
  | tuple => simp [m_is_integer, sRet, mBV, mAnd, mB, m1, fIsi, mVar, mVarO, tyN, peek, peekO, fin, mNot, mChain, gLe, gLt, gInt, hold, retR, bodyR, mC, mCall, mCons, mNil, frzA, frz, frR, kt6, intB]
  | dict => simp [m_is_integer, sRet, mBV, mAnd, mB, m1, fIsi, mVar, mVarO, tyN, peek, peekO, fin, mNot, mChain, gLe, gLt, gInt, hold, retR, bodyR, mC, mCall, mCons, mNil, frzA, frz, frR, kt7, intB]
theorem between (d : D) (a b : Int) : d_is_between [d, .int a, .int b] = some (.im (.bool (btwB a b d))) := by
  have e := integer d
  show bodyR (m_is_between [some (.im d), some (.im (.int a)), some (.im (.int b))]) = _
  cases d with
  | int i =>
    by_cases h : a ≤ i <;> simp [m_is_between, sRet, mBV, mAnd, mB, m1, fIsi, mVar, mVarO, tyN, peek, peekO, fin, mNot, mChain, gLe, gLt, gInt, hold, retR, bodyR, mC, mCall, mCons, mNil, frzA, frz, frR, e, intB, btwB, h]
  | _ => simp [m_is_between, sRet, mBV, mAnd, mB, m1, fIsi, mVar, mVarO, tyN, peek, peekO, fin, mNot, mChain, gLe, gLt, gInt, hold, retR, bodyR, mC, mCall, mCons, mNil, frzA, frz, frR, e, intB, btwB]
theorem cell (many : Int) (d : D) : d_is_cell [.int many, d] = some (.im (.bool (cellB many d))) := by
  have h : d_is_cell [.int many, d] = some (.im (.bool (btwB 0 (many - 1) d))) := by
    show bodyR (m_is_cell [some (.im (.int many)), some (.im d)]) = _
    simp [m_is_cell, sRet, mCall, mCons, mNil, m2, im2, fSub, ii, isSc, mVar, mVarO, mC, peek, peekO, hold, fin, frzA, frz, frR, retR, bodyR, between]
  rw [h]
  cases d with
  | int i =>
    have : decide (i ≤ many - 1) = decide (i < many) := by
      apply decide_eq_decide.mpr
      omega
    simp [btwB, cellB, this]
  | _ => rfl
/-- what a step's first item must be: a thing that can be compared -/
def Sok (d : D) : Prop := ∀ a b c, d = .tuple [a, b, c] → SeqAt.shaped a = true
theorem shI (i : Int) : SeqAt.shaped (.int i) = true := rfl
theorem shS (x : String) : SeqAt.shaped (.str (PySem.Str.ofString x)) = true := by
  show (PyData.strOk _ && decide (0 ≤ 64)) = true
  rw [ok_of]
  rfl
theorem shWl : SeqAt.shaped (.list [.str (PySem.Str.ofString "move"), .str (PySem.Str.ofString "swap")]) = true := by decide +kernel
theorem shWt : SeqAt.shaped (.tuple [.str (PySem.Str.ofString "move"), .str (PySem.Str.ofString "swap")]) = true := by decide +kernel
theorem cellB_int {many : Int} {d : D} (h : cellB many d = true) : ∃ i, d = .int i := by
  cases d with
  | int i => exact ⟨i, rfl⟩
  | _ => cases h
theorem eqvI (i j : Int) : PyData.eqv (.int i) (.int j) = (i == j) := rfl
theorem mixed (many : Int) (b c : D) : (cellB many b && (cellB many c && !PyData.eqv b c)) = true ∨ (cellB many b && (cellB many c && !PyData.eqv b c)) = false := by
  cases (cellB many b && (cellB many c && !PyData.eqv b c)) <;> simp
theorem notin_w {a : D} (h : SeqAt.shaped a = true) : gNotIn a (.list [.str (PySem.Str.ofString "move"), .str (PySem.Str.ofString "swap")]) = some (!wordB a) := by
  simp [gNotIn, gIn, itemsOf, h, shWl, wordB]
theorem in_w {a : D} (h : SeqAt.shaped a = true) : gIn a (.tuple [.str (PySem.Str.ofString "move"), .str (PySem.Str.ofString "swap")]) = some (wordB a) := by
  simp [gIn, itemsOf, h, shWt, wordB]
theorem step (many : Int) (d : D) (hs : Sok d) : d_is_step [.int many, d] = some (.im (.bool (stepB many d))) := by
  show bodyR (m_is_step [some (.im (.int many)), some (.im d), none, none, none]) = _
  cases d with
  | tuple ds =>
    match ds, hs with
    | [], _ => simp [m_is_step, sSeq, sIf, mOr, mNot, mB, m1, fIsi, mVar, mVarO, tyN, ku6, peek, peekO, fin, m2, im2, bl2, gNe, mCB, imN, fLen, mCons, mNil, peekA, isSc, hold, mC, shI, eqvI, sRet, retR, bodyR, stepB]
    | [a], _ => simp [m_is_step, sSeq, sIf, mOr, mNot, mB, m1, fIsi, mVar, mVarO, tyN, ku6, peek, peekO, fin, m2, im2, bl2, gNe, mCB, imN, fLen, mCons, mNil, peekA, isSc, hold, mC, shI, eqvI, sRet, retR, bodyR, stepB]
    | [a, b], _ => simp [m_is_step, sSeq, sIf, mOr, mNot, mB, m1, fIsi, mVar, mVarO, tyN, ku6, peek, peekO, fin, m2, im2, bl2, gNe, mCB, imN, fLen, mCons, mNil, peekA, isSc, hold, mC, shI, eqvI, sRet, retR, bodyR, stepB]
    | a :: b :: c :: e :: r, _ =>
      have h3 : ¬ ((r.length : Int) + 1 + 1 + 1 + 1 = 3) := by omega
      simp [m_is_step, sSeq, sIf, mOr, mNot, mB, m1, fIsi, mVar, mVarO, tyN, ku6, peek, peekO, fin, m2, im2, bl2, gNe, mCB, imN, fLen, mCons, mNil, peekA, isSc, hold, mC, shI, eqvI, sRet, retR, bodyR, stepB, h3]
    | [a, b, c], hs =>
      have ha := hs a b c rfl
      by_cases hw : wordB a = true
      · by_cases hb : cellB many b = true
        · by_cases hc : cellB many c = true
          · obtain ⟨i, rfl⟩ := cellB_int hb
            obtain ⟨j, rfl⟩ := cellB_int hc
            simp [m_is_step, sSeq, sIf, mOr, mNot, mB, m1, fIsi, mVar, mVarO, tyN, ku6, peek, peekO, fin, m2, im2, bl2, gNe, mCB, imN, fLen, mCons, mNil, peekA, isSc, hold, mC, shI, eqvI, sRet, retR, bodyR, stepB, sAsgT, gmTup, gmCons, gmNil, gmName, frz, in_w ha, mSeq, frzA, LIM, hw, mBV, mAnd, mCall, cell, frR, hb, hc, sNext]
          · simp [m_is_step, sSeq, sIf, mOr, mNot, mB, m1, fIsi, mVar, mVarO, tyN, ku6, peek, peekO, fin, m2, im2, bl2, gNe, mCB, imN, fLen, mCons, mNil, peekA, isSc, hold, mC, shI, eqvI, sRet, retR, bodyR, stepB, sAsgT, gmTup, gmCons, gmNil, gmName, frz, in_w ha, mSeq, frzA, LIM, hw, mBV, mAnd, mCall, cell, frR, hb, hc, sNext]
        · simp [m_is_step, sSeq, sIf, mOr, mNot, mB, m1, fIsi, mVar, mVarO, tyN, ku6, peek, peekO, fin, m2, im2, bl2, gNe, mCB, imN, fLen, mCons, mNil, peekA, isSc, hold, mC, shI, eqvI, sRet, retR, bodyR, stepB, sAsgT, gmTup, gmCons, gmNil, gmName, frz, in_w ha, mSeq, frzA, LIM, hw, mBV, mAnd, mCall, cell, frR, hb, sNext]
      · simp [m_is_step, sSeq, sIf, mOr, mNot, mB, m1, fIsi, mVar, mVarO, tyN, ku6, peek, peekO, fin, m2, im2, bl2, gNe, mCB, imN, fLen, mCons, mNil, peekA, isSc, hold, mC, shI, eqvI, sRet, retR, bodyR, stepB, sAsgT, gmTup, gmCons, gmNil, gmName, frz, in_w ha, mSeq, frzA, LIM, hw, mBV, mAnd, sNext]
  | int i => simp [m_is_step, sSeq, sIf, mOr, mNot, mB, m1, fIsi, mVar, mVarO, tyN, ku3, peek, peekO, fin, mC, sRet, retR, bodyR, stepB]
  | bool b => simp [m_is_step, sSeq, sIf, mOr, mNot, mB, m1, fIsi, mVar, mVarO, tyN, ku2, peek, peekO, fin, mC, sRet, retR, bodyR, stepB]
  | none => simp [m_is_step, sSeq, sIf, mOr, mNot, mB, m1, fIsi, mVar, mVarO, tyN, ku1, peek, peekO, fin, mC, sRet, retR, bodyR, stepB]
  | str => simp [m_is_step, sSeq, sIf, mOr, mNot, mB, m1, fIsi, mVar, mVarO, tyN, ku4, peek, peekO, fin, mC, sRet, retR, bodyR, stepB]
  | list => simp [m_is_step, sSeq, sIf, mOr, mNot, mB, m1, fIsi, mVar, mVarO, tyN, ku5, peek, peekO, fin, mC, sRet, retR, bodyR, stepB]
  | dict => simp [m_is_step, sSeq, sIf, mOr, mNot, mB, m1, fIsi, mVar, mVarO, tyN, ku7, peek, peekO, fin, mC, sRet, retR, bodyR, stepB]
def Lok (d : D) : Prop := ∀ ds, d = .list ds → ∀ e ∈ ds, Sok e
theorem check {many : Int} (h1 : 1 ≤ many) (h2 : many ≤ 60) : d_check_cells [.int many] = some (.im .none) := by
  show bodyR (m_check_cells [some (.im (.int many))]) = _
  simp [m_check_cells, sIf, mNot, mB, mCall, mCons, mNil, mVar, mVarO, mC, hold, frzA, frz, between, btwB, frR, h1, h2, sNext, bodyR]
def lenB : D → Bool
  | .list ds => decide (ds.length ≤ 200)
  | _ => false
theorem list_of (d : D) : d_is_list_of [d, .int 0, .int 200] = some (.im (.bool (lenB d))) := by
  show bodyR (m_is_list_of [some (.im d), some (.im (.int 0)), some (.im (.int 200))]) = _
  cases d with
  | list ds =>
    have h0 : (0 : Int) ≤ ds.length := by omega
    simp [m_is_list_of, sRet, mBV, mAnd, mB, m1, fIsi, mVar, mVarO, tyN, kl5, peek, peekO, fin, mChain, gLe, gInt, hold, retR, bodyR, mC, mCB, imN, fLen, mCons, mNil, peekA, isSc, lenB, h0]
    omega
  | int i => simp [m_is_list_of, sRet, mBV, mAnd, mB, m1, fIsi, mVar, mVarO, tyN, kl3, peek, peekO, fin, retR, bodyR, lenB]
  | bool b => simp [m_is_list_of, sRet, mBV, mAnd, mB, m1, fIsi, mVar, mVarO, tyN, kl2, peek, peekO, fin, retR, bodyR, lenB]
  | none => simp [m_is_list_of, sRet, mBV, mAnd, mB, m1, fIsi, mVar, mVarO, tyN, kl1, peek, peekO, fin, retR, bodyR, lenB]
  | str => simp [m_is_list_of, sRet, mBV, mAnd, mB, m1, fIsi, mVar, mVarO, tyN, kl4, peek, peekO, fin, retR, bodyR, lenB]
  | tuple => simp [m_is_list_of, sRet, mBV, mAnd, mB, m1, fIsi, mVar, mVarO, tyN, kl6, peek, peekO, fin, retR, bodyR, lenB]
  | dict => simp [m_is_list_of, sRet, mBV, mAnd, mB, m1, fIsi, mVar, mVarO, tyN, kl7, peek, peekO, fin, retR, bodyR, lenB]
theorem row {many : Int} (h1 : 1 ≤ many) (h2 : many ≤ 60) {d : D} (hd : Lok d) : d_is_row [.int many, d] = some (.im (.bool (rowB many d))) := by
  show bodyR (m_is_row [some (.im (.int many)), some (.im d), none]) = _
  by_cases hl : lenB d = true
  · cases d with
    | list ds =>
      have hl2 : ds.length ≤ 200 := of_decide_eq_true hl
      have hl3 : ds.length ≤ LIM := by unfold LIM; omega
      have hg := lc_map (mt := gmName 2) (mc := mYes) (me := mCall d_is_step (mCons (mVar 0) (mCons (mVar 2) mNil))) (vs := [2]) (Γ := [some (.im (.int many)), some (.im (.list ds)), none]) (f := fun e => some (.bool (stepB many e))) (ds := ds) (fun e he => ⟨[some (.im (.int many)), some (.im (.list ds)), some (.im e)], by simp [lcTurn, gmName, mYes, mCall, mCons, mNil, mVar, mVarO, hold, frzA, frz, step many e (hd ds rfl e he), frR], by simp [wipeG]⟩) []
      have hm : ds.filterMap (fun e => some (PyData.bool (stepB many e))) = ds.map fun e => .bool (stepB many e) := by simp
      rw [hm] at hg
      simp [m_is_row, sSeq, sDrop, mCall, mCons, mNil, mVar, mVarO, mC, hold, frzA, frz, check h1 h2, frR, sRet, mBV, mAnd, mB, list_of, hl, mCB, imN, mLc, mWalk, hidOk, hl3, wipeG, hg, mergeG, peekA, peek, all_map, isSc, fin, retR, bodyR, rowB, hl2]
    | _ => cases hl
  · have hr : rowB many d = false := by
      cases d with
      | list ds =>
        have : decide (ds.length ≤ 200) = false := Bool.eq_false_iff.mpr hl
        show (decide (ds.length ≤ 200) && ds.all (stepB many)) = false
        rw [this]; rfl
      | _ => rfl
    simp [m_is_row, sSeq, sDrop, mCall, mCons, mNil, mVar, mVarO, mC, hold, frzA, frz, check h1 h2, frR, sRet, mBV, mAnd, mB, list_of, hl, retR, bodyR, hr]
end SH
namespace SH.K
open PySem PySem.Spec PyProof.Rows L2 VL SH
theorem kt3 : kitB "int" "int" = some true := by decide +kernel
theorem kb3 : kitB "int" "bool" = some false := by decide +kernel
theorem kl5 : kitB "list" "list" = some true := by decide +kernel
theorem ku6 : kitB "tuple" "tuple" = some true := by decide +kernel
theorem integer (i : Int) : d_is_integer [.int i] = some (.im (.bool true)) := by
  show bodyR (m_is_integer [some (.im (.int i))]) = _
  simp [m_is_integer, sAsg, sIf, mIf, mB, mBV, mAnd, mOr, mNot, VL.m2, m1, im2, bl2, gEqI, gNeI, mVar, mVarO, mC, hold, peek, peekO, isSc, fin, mCallS, mCall, mCons, mNil, callS, frzA, frz, frzO, frR, asgR, mCB, imN, fInt, fAdd, fSub, fMod, fLen, ii, sNext, peekA, fIx, mSeq, LIM, sDrop, sRet, retR, retO, bodyR, mChain, gLe, gInt, fIsi, tyN, kt3, kb3]
theorem between (i a b : Int) : d_is_between [.int i, .int a, .int b] = some (.im (.bool (decide (a ≤ i) && decide (i ≤ b)))) := by
  have e := integer i
  show bodyR (m_is_between [some (.im (.int i)), some (.im (.int a)), some (.im (.int b))]) = _
  by_cases h : a ≤ i <;> simp [m_is_between, sAsg, sIf, mIf, mB, mBV, mAnd, mOr, mNot, VL.m2, m1, im2, bl2, gEqI, gNeI, mVar, mVarO, mC, hold, peek, peekO, isSc, fin, mCallS, mCall, mCons, mNil, callS, frzA, frz, frzO, frR, asgR, mCB, imN, fInt, fAdd, fSub, fMod, fLen, ii, sNext, peekA, fIx, mSeq, LIM, sDrop, sRet, retR, retO, bodyR, mChain, gLe, gInt, e, h]
theorem list_of (ds : List D) (a b : Int) : d_is_list_of [.list ds, .int a, .int b] = some (.im (.bool (decide (a ≤ (ds.length : Int)) && decide ((ds.length : Int) ≤ b)))) := by
  show bodyR (m_is_list_of [some (.im (.list ds)), some (.im (.int a)), some (.im (.int b))]) = _
  by_cases h : a ≤ (ds.length : Int) <;> simp [m_is_list_of, sAsg, sIf, mIf, mB, mBV, mAnd, mOr, mNot, VL.m2, m1, im2, bl2, gEqI, gNeI, mVar, mVarO, mC, hold, peek, peekO, isSc, fin, mCallS, mCall, mCons, mNil, callS, frzA, frz, frzO, frR, asgR, mCB, imN, fInt, fAdd, fSub, fMod, fLen, ii, sNext, peekA, fIx, mSeq, LIM, sDrop, sRet, retR, retO, bodyR, mChain, gLe, gInt, fIsi, tyN, kl5, h]
theorem check_cells {n : Int} (h1 : 1 ≤ n) (h2 : n ≤ 60) : d_check_cells [.int n] = some (.im .none) := by
  have e := between n 1 60
  show bodyR (m_check_cells [some (.im (.int n))]) = _
  simp [m_check_cells, sAsg, sIf, mIf, mB, mBV, mAnd, mOr, mNot, VL.m2, m1, im2, bl2, gEqI, gNeI, mVar, mVarO, mC, hold, peek, peekO, isSc, fin, mCallS, mCall, mCons, mNil, callS, frzA, frz, frzO, frR, asgR, mCB, imN, fInt, fAdd, fSub, fMod, fLen, ii, sNext, peekA, fIx, mSeq, LIM, sDrop, sRet, retR, retO, bodyR, mChain, gLe, gInt, e, h1, h2]
theorem is_cell {n i : Int} (h1 : 0 ≤ i) (h2 : i < n) : d_is_cell [.int n, .int i] = some (.im (.bool true)) := by
  have e := between i 0 (n - 1)
  have h3 : i ≤ n - 1 := by omega
  show bodyR (m_is_cell [some (.im (.int n)), some (.im (.int i))]) = _
  simp [m_is_cell, sAsg, sIf, mIf, mB, mBV, mAnd, mOr, mNot, VL.m2, m1, im2, bl2, gEqI, gNeI, mVar, mVarO, mC, hold, peek, peekO, isSc, fin, mCallS, mCall, mCons, mNil, callS, frzA, frz, frzO, frR, asgR, mCB, imN, fInt, fAdd, fSub, fMod, fLen, ii, sNext, peekA, fIx, mSeq, LIM, sDrop, sRet, retR, retO, bodyR, mChain, gLe, gInt, e, h1, h3]
theorem gInW {w : D} (h : PWord w) : gIn w (.tuple [.str (PySem.Str.ofString "move"), .str (PySem.Str.ofString "swap")]) = some true := by
  rcases h with rfl | rfl <;> decide +kernel
theorem is_step {n : Int} {d : D} (h : PStep n d) : d_is_step [.int n, d] = some (.im (.bool true)) := by
  obtain ⟨w, i, j, rfl, hw, i1, i2, j1, j2, ij⟩ := h
  have e1 := is_cell i1 i2
  have e2 := is_cell j1 j2
  have e3 := gInW hw
  show bodyR (m_is_step [some (.im (.int n)), some (.im (.tuple [w, .int i, .int j])), none, none, none]) = _
  simp [m_is_step, sSeq, sAsg, sIf, mIf, mB, mBV, mAnd, mOr, mNot, VL.m2, m1, im2, bl2, gEqI, gNeI, mVar, mVarO, mC, hold, peek, peekO, isSc, fin, mCallS, mCall, mCons, mNil, callS, frzA, frz, frzO, frR, asgR, mCB, imN, fInt, fAdd, fSub, fMod, fLen, ii, sNext, peekA, fIx, mSeq, LIM, sDrop, sRet, retR, retO, bodyR, mChain, gLe, gInt, fIsi, tyN, ku6, sAsgT, gmTup, gmCons, gmNil, gmName, e1, e2, e3, ij]
theorem check_steps {n : Int} {path : List D} (hs : ∀ d ∈ path, PStep n d) : d_check_steps [.int n, .list path] = some (.im .none) := by
  show bodyR (m_check_steps [some (.im (.int n)), some (.im (.list path)), none, none]) = _
  have e1 : pcheck_steps_0_it [some (.im (.int n)), some (.im (.list path)), none, none] = some (enumD path, [some (.im (.int n)), some (.im (.list path)), none, none]) := by
    simp [pcheck_steps_0_it, mEnum, sAsg, sIf, mIf, mB, mBV, mAnd, mOr, mNot, VL.m2, m1, im2, bl2, gEqI, gNeI, mVar, mVarO, mC, hold, peek, peekO, isSc, fin, mCallS, mCall, mCons, mNil, callS, frzA, frz, frzO, frR, asgR, mCB, imN, fInt, fAdd, fSub, fMod, fLen, ii, sNext, peekA, fIx, mSeq, LIM, sDrop, sRet, retR, retO, bodyR, mChain, gLe, gInt]
  obtain ⟨Γ', e2, o1, o2, rfl⟩ := for_inv (mt := gmTup 2 (gmCons (gmName 2) (gmCons (gmName 3) gmNil))) (m := pcheck_steps_0_b) (ds := enumD path) (i := 0) (Γ := [some (.im (.int n)), some (.im (.list path)), none, none])
    (I := fun _ Γ => ∃ o1 o2, Γ = [some (.im (.int n)), some (.im (.list path)), o1, o2]) ⟨_, _, rfl⟩ (by
      rintro j d Γ hd _ _ ⟨o1, o2, rfl⟩
      obtain ⟨⟨x, k⟩, hp, rfl⟩ := List.mem_map.mp hd
      have hx : x ∈ path := by
        obtain ⟨p1, p2, p3⟩ := List.mem_zipIdx hp
        rw [p3]
        exact List.getElem_mem _
      have q := is_step (hs x hx)
      exact ⟨[some (.im (.int n)), some (.im (.list path)), some (.im (.int (k : Int))), some (.im x)], [some (.im (.int n)), some (.im (.list path)), some (.im (.int (k : Int))), some (.im x)], rfl, by simp [pcheck_steps_0_b, pcheck_steps_0_0, sAsg, sIf, mIf, mB, mBV, mAnd, mOr, mNot, VL.m2, m1, im2, bl2, gEqI, gNeI, mVar, mVarO, mC, hold, peek, peekO, isSc, fin, mCallS, mCall, mCons, mNil, callS, frzA, frz, frzO, frR, asgR, mCB, imN, fInt, fAdd, fSub, fMod, fLen, ii, sNext, peekA, fIx, mSeq, LIM, sDrop, sRet, retR, retO, bodyR, mChain, gLe, gInt, q], _, _, rfl⟩)
  rw [pcheck_steps_eq, (for_eq e1).trans e2]
  rfl
theorem check_row {n : Int} {path : List D} (hs : ∀ d ∈ path, PStep n d) (hl : path.length ≤ 200) : d_check_row [.int n, .list path] = some (.im .none) := by
  have e := list_of path 0 200
  have e2 := check_steps hs
  have z1 : (0 : Int) ≤ (path.length : Int) := by omega
  have z2 : (path.length : Int) ≤ 200 := by omega
  show bodyR (m_check_row [some (.im (.int n)), some (.im (.list path))]) = _
  simp [pcheck_row_eq, pcheck_row_0, pcheck_row_1, sSeq, sAsg, sIf, mIf, mB, mBV, mAnd, mOr, mNot, VL.m2, m1, im2, bl2, gEqI, gNeI, mVar, mVarO, mC, hold, peek, peekO, isSc, fin, mCallS, mCall, mCons, mNil, callS, frzA, frz, frzO, frR, asgR, mCB, imN, fInt, fAdd, fSub, fMod, fLen, ii, sNext, peekA, fIx, mSeq, LIM, sDrop, sRet, retR, retO, bodyR, mChain, gLe, gInt, e, e2, z1, z2]
theorem sources {n : Int} {path : List D} (h1 : 1 ≤ n) (h2 : n ≤ 60) (hs : ∀ d ∈ path, PStep n d) (hl : path.length ≤ 200) : d_sources_of [.int n, .list path] = some (.fr (doR (rangeD 0 n.toNat) path)) := by
  have e1 := check_cells h1 h2
  have e2 := check_row hs hl
  have e3 := beh (xs := rangeD 0 n.toNat) (path := path) hs (by rw [rangeD_len]; omega)
  have a1 : (-1000000 : Int) ≤ n := by omega
  have a2 : n ≤ 1000000 := by omega
  show bodyR (m_sources_of [some (.im (.int n)), some (.im (.list path))]) = _
  rw [psources_of_eq]
  simp [psources_of_0, psources_of_1, psources_of_2, sSeq, sAsg, sIf, mIf, mB, mBV, mAnd, mOr, mNot, VL.m2, m1, im2, bl2, gEqI, gNeI, mVar, mVarO, mC, hold, peek, peekO, isSc, fin, mCallS, mCall, mCons, mNil, callS, frzA, frz, frzO, frR, asgR, mCB, imN, fInt, fAdd, fSub, fMod, fLen, ii, sNext, peekA, fIx, mSeq, LIM, sDrop, sRet, retR, retO, bodyR, mChain, gLe, gInt, mLR1, intR, fRgL, a1, a2, e1, e2, e3]
end SH.K

set_option Elab.async false
set_option linter.all false
set_option maxRecDepth 100000
set_option exponentiation.threshold 4000
namespace SH
open PySem PySem.Spec PyProof.Rows L2 VL
def m_after_row : Ms := (sSeq (sDrop (mCall d_check_now (mCons (mVar 0) mNil))) (sSeq (sDrop (mCall d_check_row (mCons (mCB (imN fLen) (mCons (mVar 0) mNil)) (mCons (mVar 1) mNil)))) (sRet (mCall d_behind_row (mCons (mVar 0) (mCons (mVar 1) mNil))))))
abbrev d_after_row : List D → Option Fr := fnV 2 2 m_after_row
def m_lost : Ms := (sSeq (sAsg 2 (mCall d_after_row (mCons (mVar 0) (mCons (mVar 1) mNil)))) (sRet (mSortDiff (mVar 0) (mVar 2))))
abbrev d_lost : List D → Option Fr := fnV 2 3 m_lost
def m_does : Ms := (sSeq (sDrop (mCall d_check_wish (mCons (mVar 0) (mCons (mVar 1) mNil)))) (sRet (mBV (mAnd (mB (mCall d_is_row (mCons (mCB (imN fLen) (mCons (mVar 0) mNil)) (mCons (mVar 2) mNil)))) (mB (mCall d_is_done (mCons (mCall d_after_row (mCons (mVar 0) (mCons (mVar 2) mNil))) (mCons (mVar 1) mNil))))))))
abbrev d_does : List D → Option Fr := fnV 3 3 m_does
def pafter_row_0 : Ms := (sDrop (mCall d_check_now (mCons (mVar 0) mNil)))
def pafter_row_1 : Ms := (sDrop (mCall d_check_row (mCons (mCB (imN fLen) (mCons (mVar 0) mNil)) (mCons (mVar 1) mNil))))
def pafter_row_2 : Ms := (sRet (mCall d_behind_row (mCons (mVar 0) (mCons (mVar 1) mNil))))
theorem pafter_row_eq : m_after_row = (sSeq pafter_row_0 (sSeq pafter_row_1 pafter_row_2)) := rfl
def plost_0 : Ms := (sAsg 2 (mCall d_after_row (mCons (mVar 0) (mCons (mVar 1) mNil))))
def plost_1 : Ms := (sRet (mSortDiff (mVar 0) (mVar 2)))
theorem plost_eq : m_lost = (sSeq plost_0 plost_1) := rfl
def pdoes_0 : Ms := (sDrop (mCall d_check_wish (mCons (mVar 0) (mCons (mVar 1) mNil))))
def pdoes_1 : Ms := (sRet (mBV (mAnd (mB (mCall d_is_row (mCons (mCB (imN fLen) (mCons (mVar 0) mNil)) (mCons (mVar 2) mNil)))) (mB (mCall d_is_done (mCons (mCall d_after_row (mCons (mVar 0) (mCons (mVar 2) mNil))) (mCons (mVar 1) mNil)))))))
theorem pdoes_eq : m_does = (sSeq pdoes_0 pdoes_1) := rfl
/-- a content and a row of steps for it -/
structure Hr (h : List Int) (path : List D) : Prop where
  l1 : 1 ≤ h.length
  l2 : h.length ≤ 60
  hh : ∀ i ∈ h, -1000000000000000000000000000000 ≤ i ∧ i ≤ 1000000000000000000000000000000
  hp : ∀ d ∈ path, PStep h.length d
  hl : path.length ≤ 200
theorem wn (n : Nat) : ∀ d ∈ List.replicate n PyData.none, Wnt d := fun d hd => .inr (List.mem_replicate.mp hd).2
section
variable {h : List Int} {path : List D}
theorem now1 (o : Hr h path) : d_check_now [.list (il h)] = some (.im .none) := Q.check_now (gl := List.replicate h.length .none) ⟨o.l1, o.l2, o.hh, List.length_replicate .., wn _⟩
/-- what is held behind the row -/
theorem end_ex (o : Hr h path) : ∃ e : List Int, doR (il h) path = il e ∧ e.length = h.length ∧ ∀ i ∈ e, i ∈ h := by
  have hm : ∀ d ∈ doR (il h) path, ∃ k : Int, d = .int k ∧ k ∈ h := fun d hd => by
    have := doR_mem o.hp (by rw [il_len]) hd
    obtain ⟨k, hk, rfl⟩ := List.mem_map.mp this
    exact ⟨k, rfl, hk⟩
  obtain ⟨e, h1, h2⟩ := ints_ex hm
  refine ⟨e, h1, ?_, h2⟩
  have := doR_len path (il h)
  rw [h1, il_len, il_len] at this
  exact this
theorem after (o : Hr h path) : d_after_row [.list (il h), .list path] = some (.fr (doR (il h) path)) := by
  have e1 := now1 o
  have e2 := K.check_row (n := (h.length : Int)) o.hp o.hl
  have e3 := beh (xs := il h) o.hp (by rw [il_len])
  have el : (il h).length = h.length := il_len h
  generalize il h = H at *
  show bodyR (m_after_row [some (.im (.list H)), some (.im (.list path))]) = _
  simp [m_after_row, sSeq, sAsg, sIf, mIf, mB, mBV, mAnd, mOr, mNot, VL.m2, m1, im2, bl2, gEqI, gNeI, mVar, mVarO, mC, hold, peek, peekO, isSc, fin, mCallS, mCall, mCons, mNil, callS, frzA, frz, frzO, frR, asgR, mCB, imN, fInt, fAdd, fSub, fMul, fMod, fLen, ii, sNext, peekA, fIx, mSeq, LIM, sDrop, sRet, retR, retO, bodyR, e1, e2, e3, el]
theorem srcs (o : Hr h path) : d_sources_of [.int h.length, .list path] = some (.fr (doR (rangeD 0 h.length) path)) := by
  have := K.sources (n := (h.length : Int)) (by have := o.l1; omega) (by have := o.l2; omega) o.hp o.hl
  rw [this]
  rfl
theorem lost {e : List Int} (o : Hr h path) (he : doR (il h) path = il e) (hl : e.length = h.length) : d_lost [.list (il h), .list path] = some (.fr (il (usI (h.filter fun k => !decide (k ∈ e))))) := by
  have e1 := after o
  rw [he] at e1
  have q0 : plost_0 [some (.im (.list (il h))), some (.im (.list path)), none] = some (.nx [some (.im (.list (il h))), some (.im (.list path)), some (.ow false (il e))]) := by
    simp [plost_0, sAsg, sIf, mIf, mB, mBV, mAnd, mOr, mNot, VL.m2, m1, im2, bl2, gEqI, gNeI, mVar, mVarO, mC, hold, peek, peekO, isSc, fin, mCallS, mCall, mCons, mNil, callS, frzA, frz, frzO, frR, asgR, mCB, imN, fInt, fAdd, fSub, fMul, fMod, fLen, ii, sNext, peekA, fIx, mSeq, LIM, sDrop, sRet, retR, retO, bodyR, e1]
  have i1 : intsD (.list (il h)) = some h := intsOf_map h
  have i2 : intsD (.list (il e)) = some e := intsOf_map e
  have z : h.length ≤ 60 ∧ e.length ≤ 60 := by rw [hl]; exact ⟨o.l2, o.l2⟩
  show bodyR (m_lost [some (.im (.list (il h))), some (.im (.list path)), none]) = _
  rw [plost_eq, seq_nx q0]
  have q1 : mSortDiff (mVar 0) (mVar 2) [some (.im (.list (il h))), some (.im (.list path)), some (.ow false (il e))] = some (.fr (il (usI (h.filter fun k => !decide (k ∈ e)))), [some (.im (.list (il h))), some (.im (.list path)), some (.ow false (il e))]) := by
    unfold mSortDiff
    simp [mVar, mVarO, peek, peekO, i1, i2, z]
  unfold plost_1 sRet
  rw [q1]
  rfl
theorem txIl {l : List Int} (hl : l.length ≤ 60) (hm : ∀ k ∈ l, -1000000000000000000000000000000 ≤ k ∧ k ≤ 1000000000000000000000000000000) : Tx 10000 1 (.list (il l)) :=
  Tx.mono (Tx.list (n := 150) (k := 0) (m := 60) (fun d hd => by
    obtain ⟨k, hk, rfl⟩ := List.mem_map.mp hd
    have := hm k hk
    exact txB (by omega) (by omega)) (by rw [List.length_map]; exact hl)) (by decide) (by decide)
theorem txSt {n : Int} (hn : n ≤ 60) {d : D} (h : PStep n d) : Tx 500 1 d := by
  obtain ⟨w, i, j, rfl, hw, h1, h2, h3, h4, _⟩ := h
  have tw : Tx 150 0 w := by
    rcases hw with rfl | rfl
    · exact Tx.str (by decide +kernel) (by decide +kernel)
    · exact Tx.str (by decide +kernel) (by decide +kernel)
  exact Tx.mono (Tx.tuple (n := 150) (k := 0) (m := 3) (mc tw (mc (txB (by omega) (by omega)) (mc (txB (by omega) (by omega)) m0))) (by show 3 ≤ 3; decide)) (by decide) (by decide)
theorem txPath (o : Hr h path) : Tx 200000 2 (.list path) :=
  Tx.mono (Tx.list (n := 500) (k := 1) (m := 200) (fun d hd => txSt (by have := o.l2; omega) (o.hp d hd)) o.hl) (by decide) (by decide)
theorem neI (l : List Int) : gNe (.list (il l)) (.list (il l)) = some false := by
  rw [gNe_il, decide_eq_true rfl]
  rfl
theorem two_repr {l : List Int} (hl : l.length ≤ 60) (hm : ∀ k ∈ l, -1000000000000000000000000000000 ≤ k ∧ k ≤ 1000000000000000000000000000000) : ∃ z : Str, fRepr [.list [.list (il l), .list (il l)]] = some (.str z) ∧ gNe (.str z) (.str z) = some false := by
  obtain ⟨z, h1, h2, _⟩ := reprSame (Tx.list (n := 10000) (k := 1) (m := 2) (ds := [.list (il l), .list (il l)]) (mc (txIl hl hm) (mc (txIl hl hm) m0)) (Nat.le_refl _)) (by decide) (by decide)
  exact ⟨z, h1, h2⟩
end
section
variable {h e : List Int} {path gl : List D}
theorem st_step {n : Int} {d : D} (hs : PStep n d) : stepB n d = true := by
  obtain ⟨w, i, j, rfl, hw, h1, h2, h3, h4, h5⟩ := hs
  have ww : wordB w = true := by
    rcases hw with rfl | rfl
    · decide +kernel
    · decide +kernel
  have c : ∀ {i : Int}, 0 ≤ i → i < n → cellB n (.int i) = true := fun {i} a b => by
    show (decide (0 ≤ i) && decide (i < n)) = true
    rw [decide_eq_true a, decide_eq_true b]
    rfl
  show (wordB w && (cellB n (.int i) && (cellB n (.int j) && !PyData.eqv (.int i) (.int j)))) = true
  rw [ww, c h1 h2, c h3 h4, eqvI, beq_eq_false_iff_ne.mpr h5]
  rfl
theorem st_sok {n : Int} {d : D} (hs : PStep n d) : Sok d := by
  obtain ⟨w, i, j, rfl, hw, _⟩ := hs
  intro a b c ee
  cases ee
  rcases hw with rfl | rfl
  · exact shS "move"
  · exact shS "swap"
theorem does_path (o : Hr h path) (he : doR (il h) path = il e) (og : Q.Ok h gl) (oe : Q.Ok e gl) : d_does [.list (il h), .list gl, .list path] = some (.im (.bool (decide (Q.bad e gl = [])))) := by
  have e1 := Q.check_wish og
  have e2 := row (many := (h.length : Int)) (by have := o.l1; omega) (by have := o.l2; omega) (d := .list path) (fun ds ee d hd => by cases ee; exact st_sok (o.hp d hd))
  have rb : rowB h.length (.list path) = true := by
    show (decide (path.length ≤ 200) && path.all (stepB h.length)) = true
    rw [decide_eq_true o.hl, Bool.true_and, List.all_eq_true]
    exact fun d hd => st_step (o.hp d hd)
  rw [rb] at e2
  have e3 := after o
  rw [he] at e3
  have e4 := Q.is_done oe
  have hll : (il h).length = h.length := il_len h
  generalize il h = H at *
  generalize il e = E at *
  show bodyR (m_does [some (.im (.list H)), some (.im (.list gl)), some (.im (.list path))]) = _
  simp [m_does, sSeq, sDrop, sRet, mBV, mAnd, mB, mCall, mCons, mNil, mVar, mVarO, hold, frzA, frz, frR, mCB, imN, fLen, peekA, peek, peekO, isSc, fin, e1, e2, e3, e4, hll, retR, bodyR]
theorem does_not {v : D} (l1 : 1 ≤ h.length) (l2 : h.length ≤ 60) (og : Q.Ok h gl) (hv : Lok v) (hr : rowB h.length v = false) : d_does [.list (il h), .list gl, v] = some (.im (.bool false)) := by
  have e1 := Q.check_wish og
  have e2 := row (many := (h.length : Int)) (by omega) (by omega) hv
  rw [hr] at e2
  have hll : (il h).length = h.length := il_len h
  generalize il h = H at *
  show bodyR (m_does [some (.im (.list H)), some (.im (.list gl)), some (.im v)]) = _
  simp [m_does, sSeq, sDrop, sRet, mBV, mAnd, mB, mCall, mCons, mNil, mVar, mVarO, hold, frzA, frz, frR, mCB, imN, fLen, peekA, peek, peekO, isSc, fin, e1, e2, hll, retR, bodyR]
theorem lokN {v : D} (hv : ∀ ds, v ≠ .list ds) : Lok v := fun ds ee => (hv ds ee).elim
theorem rowN {n : Int} {v : D} (hv : ∀ ds, v ≠ .list ds) : rowB n v = false := by
  cases v with
  | list ds => exact (hv ds rfl).elim
  | _ => rfl
end
end SH

set_option Elab.async false
set_option linter.all false
set_option maxRecDepth 100000
set_option exponentiation.threshold 4000
namespace SH
open PySem PySem.Spec PyProof.Rows L2 VL
def m_turned : Ms := (sSeq (sAsg 2 (mCall d_sources_of (mCons (mVar 0) (mCons (mVar 1) mNil)))) (sSeq (sIf (mB (m2 (im2 (bl2 gNe)) (mCB fSorted (mCons (mVar 2) mNil)) (mLR1 (mVar 0)))) (sRet (mC .none)) sNext) (sRet (mLc (mRng rng1 (mCons (mVar 0) mNil)) (gmName 3) mYes (mIndex (mVar 2) (mVar 3)) [3]))))
abbrev d_turned : List D → Option Fr := fnV 2 4 m_turned
def m_is_cell_list : Ms := (sSeq (sIf (mNot (mB (m1 (fIsi "list") (mVar 1)))) (sRet (mC (.bool false))) sNext) (sSeq (sAsg 2 (mC (.int 0))) (sSeq (sFor (mWalk (mVar 1)) (gmName 3) (sSeq (sIf (mNot (mB (mCall d_is_between (mCons (mVar 3) (mCons (mVar 2) (mCons (m2 (im2 fSub) (mVar 0) (mC (.int 1))) mNil)))))) (sRet (mC (.bool false))) sNext) (sAsg 2 (m2 fAdd (mVar 3) (mC (.int 1)))))) (sRet (mC (.bool true))))))
abbrev d_is_cell_list : List D → Option Fr := fnV 2 4 m_is_cell_list
def m_check_counted : Ms := (sIf (mNot (mB (mCall d_is_cell_list (mCons (mVar 0) (mCons (mVar 1) mNil))))) sNever sNext)
abbrev d_check_counted : List D → Option Fr := fnV 2 2 m_check_counted
def m_same_rows : Ms := (sSeq (sAsg 4 (mCall d_sources_of (mCons (mVar 0) (mCons (mVar 1) mNil)))) (sSeq (sAsg 5 (mCall d_sources_of (mCons (mVar 0) (mCons (mVar 2) mNil)))) (sSeq (sDrop (mCall d_check_counted (mCons (mVar 0) (mCons (mVar 3) mNil)))) (sRet (mCB (imN fAll) (mCons (mLc (mWalk (mVar 3)) (gmName 6) mYes (m2 (im2 (bl2 gEq)) (m2 fIx (mVar 4) (mVar 6)) (m2 fIx (mVar 5) (mVar 6))) [6]) mNil))))))
abbrev d_same_rows : List D → Option Fr := fnV 4 7 m_same_rows
def pturned_0 : Ms := (sAsg 2 (mCall d_sources_of (mCons (mVar 0) (mCons (mVar 1) mNil))))
def pturned_1 : Ms := (sIf (mB (m2 (im2 (bl2 gNe)) (mCB fSorted (mCons (mVar 2) mNil)) (mLR1 (mVar 0)))) (sRet (mC .none)) sNext)
def pturned_2 : Ms := (sRet (mLc (mRng rng1 (mCons (mVar 0) mNil)) (gmName 3) mYes (mIndex (mVar 2) (mVar 3)) [3]))
theorem pturned_eq : m_turned = (sSeq pturned_0 (sSeq pturned_1 pturned_2)) := rfl
def pis_cell_list_0 : Ms := (sIf (mNot (mB (m1 (fIsi "list") (mVar 1)))) (sRet (mC (.bool false))) sNext)
def pis_cell_list_1 : Ms := (sAsg 2 (mC (.int 0)))
def pis_cell_list_2_0 : Ms := (sIf (mNot (mB (mCall d_is_between (mCons (mVar 3) (mCons (mVar 2) (mCons (m2 (im2 fSub) (mVar 0) (mC (.int 1))) mNil)))))) (sRet (mC (.bool false))) sNext)
def pis_cell_list_2_1 : Ms := (sAsg 2 (m2 fAdd (mVar 3) (mC (.int 1))))
def pis_cell_list_2_it : Mi := (mWalk (mVar 1))
def pis_cell_list_2_b : Ms := (sSeq pis_cell_list_2_0 pis_cell_list_2_1)
def pis_cell_list_3 : Ms := (sRet (mC (.bool true)))
theorem pis_cell_list_eq : m_is_cell_list = (sSeq pis_cell_list_0 (sSeq pis_cell_list_1 (sSeq (sFor pis_cell_list_2_it (gmName 3) pis_cell_list_2_b) pis_cell_list_3))) := rfl
def pcheck_counted_0 : Ms := (sIf (mNot (mB (mCall d_is_cell_list (mCons (mVar 0) (mCons (mVar 1) mNil))))) sNever sNext)
theorem pcheck_counted_eq : m_check_counted = pcheck_counted_0 := rfl
def psame_rows_0 : Ms := (sAsg 4 (mCall d_sources_of (mCons (mVar 0) (mCons (mVar 1) mNil))))
def psame_rows_1 : Ms := (sAsg 5 (mCall d_sources_of (mCons (mVar 0) (mCons (mVar 2) mNil))))
def psame_rows_2 : Ms := (sDrop (mCall d_check_counted (mCons (mVar 0) (mCons (mVar 3) mNil))))
def psame_rows_3 : Ms := (sRet (mCB (imN fAll) (mCons (mLc (mWalk (mVar 3)) (gmName 6) mYes (m2 (im2 (bl2 gEq)) (m2 fIx (mVar 4) (mVar 6)) (m2 fIx (mVar 5) (mVar 6))) [6]) mNil)))
theorem psame_rows_eq : m_same_rows = (sSeq psame_rows_0 (sSeq psame_rows_1 (sSeq psame_rows_2 psame_rows_3))) := rfl
end SH
namespace SH.K
open PySem PySem.Spec PyProof.Rows L2 VL SH
def dueT (s : List Int) (n : Nat) : D := if sortI s = rgI n then .list (il ((rgI n).map fun k => ((s.idxOf k : Nat) : Int))) else .none
theorem mem_of_sort {s : List Int} {n : Nat} (h : sortI s = rgI n) {k : Int} (hk : k ∈ rgI n) : k ∈ s := by
  rw [← h] at hk
  exact (sortI_perm s).mem_iff.mp hk
theorem idx_list (s : List Int) (n : Nat) : (il (rgI n)).map (fun d => match d with | .int k => PyData.int ((s.idxOf k : Nat) : Int) | _ => .none) = il ((rgI n).map fun k => ((s.idxOf k : Nat) : Int)) := by
  unfold il
  rw [List.map_map, List.map_map]
  rfl
theorem turned {n : Int} {path : List D} {s : List Int} (h1 : 1 ≤ n) (h2 : n ≤ 60) (hs : ∀ d ∈ path, PStep n d) (hl : path.length ≤ 200) (e : doR (rangeD 0 n.toNat) path = il s) (hlen : (s.length : Int) = n) :
    d_turned [.int n, .list path] = some (if sortI s = rgI n.toNat then .fr (il ((rgI n.toNat).map fun k => ((s.idxOf k : Nat) : Int))) else .im .none) := by
  have e1 := sources h1 h2 hs hl
  rw [e] at e1
  have a1 : (-1000000 : Int) ≤ n := by omega
  have a2 : n ≤ 1000000 := by omega
  have a3 : (-1000000000 : Int) ≤ n := by omega
  have a4 : n ≤ 1000000000 := by omega
  have e2 := gNe_il (sortI s) (rgI n.toNat)
  have e3 := fSorted_il s
  have r0 := range_il n.toNat
  show bodyR (m_turned [some (.im (.int n)), some (.im (.list path)), none, none]) = _
  rw [pturned_eq]
  have q0 : pturned_0 [some (.im (.int n)), some (.im (.list path)), none, none] = some (.nx [some (.im (.int n)), some (.im (.list path)), some (.ow false (il s)), none]) := by
    simp [pturned_0, sAsg, sIf, mIf, mB, mBV, mAnd, mOr, mNot, VL.m2, m1, im2, bl2, gEqI, gNeI, mVar, mVarO, mC, hold, peek, peekO, isSc, fin, mCallS, mCall, mCons, mNil, callS, frzA, frz, frzO, frR, asgR, mCB, imN, fInt, fAdd, fSub, fMod, fLen, ii, sNext, peekA, fIx, mSeq, LIM, sDrop, sRet, retR, retO, bodyR, mChain, gLe, gInt, e1]
  rw [seq_nx q0]
  by_cases hb : sortI s = rgI n.toNat
  · rw [decide_eq_true hb] at e2
    have q1 : pturned_1 [some (.im (.int n)), some (.im (.list path)), some (.ow false (il s)), none] = some (.nx [some (.im (.int n)), some (.im (.list path)), some (.ow false (il s)), none]) := by
      simp [pturned_1, sAsg, sIf, mIf, mB, mBV, mAnd, mOr, mNot, VL.m2, m1, im2, bl2, gEqI, gNeI, mVar, mVarO, mC, hold, peek, peekO, isSc, fin, mCallS, mCall, mCons, mNil, callS, frzA, frz, frzO, frR, asgR, mCB, imN, fInt, fAdd, fSub, fMod, fLen, ii, sNext, peekA, fIx, mSeq, LIM, sDrop, sRet, retR, retO, bodyR, mChain, gLe, gInt, mLR1, intR, fRgL, a1, a2, e3, r0, e2]
    have lc := lc_one (mi := mRng rng1 (mCons (mVar 0) mNil)) (mt := gmName 3) (mc := mYes) (me := mIndex (mVar 2) (mVar 3)) (vs := [3]) (Γ := [some (.im (.int n)), some (.im (.list path)), some (.ow false (il s)), none]) (Γ1 := [some (.im (.int n)), some (.im (.list path)), some (.ow false (il s)), none]) (ds := il (rgI n.toNat))
      (fun d => some (match d with | .int k => PyData.int ((s.idxOf k : Nat) : Int) | _ => .none))
      (by simp [mRng, rng1, sAsg, sIf, mIf, mB, mBV, mAnd, mOr, mNot, VL.m2, m1, im2, bl2, gEqI, gNeI, mVar, mVarO, mC, hold, peek, peekO, isSc, fin, mCallS, mCall, mCons, mNil, callS, frzA, frz, frzO, frR, asgR, mCB, imN, fInt, fAdd, fSub, fMod, fLen, ii, sNext, peekA, fIx, mSeq, LIM, sDrop, sRet, retR, retO, bodyR, mChain, gLe, gInt, a3, a4, r0]) (by rfl) (by rw [List.length_map, rgI_len]; show _ ≤ 4000000; omega) (fun d hd => by
        obtain ⟨k, hk, rfl⟩ := List.mem_map.mp hd
        have q := fIndex_il (mem_of_sort hb hk)
        refine ⟨[some (.im (.int n)), some (.im (.list path)), some (.ow false (il s)), some (.im (.int k))], ?_, rfl⟩
        simp [lcTurn, gmName, mYes, wipeG, mIndex, isL, sAsg, sIf, mIf, mB, mBV, mAnd, mOr, mNot, VL.m2, m1, im2, bl2, gEqI, gNeI, mVar, mVarO, mC, hold, peek, peekO, isSc, fin, mCallS, mCall, mCons, mNil, callS, frzA, frz, frzO, frR, asgR, mCB, imN, fInt, fAdd, fSub, fMod, fLen, ii, sNext, peekA, fIx, mSeq, LIM, sDrop, sRet, retR, retO, bodyR, mChain, gLe, gInt, q])
    rw [seq_nx q1, if_pos hb]
    show bodyR (sRet _ _) = _
    unfold sRet
    rw [lc, List.filterMap_eq_map', idx_list]
    rfl
  · rw [decide_eq_false hb] at e2
    have q1 : pturned_1 [some (.im (.int n)), some (.im (.list path)), some (.ow false (il s)), none] = some (.rt (.im .none) [some (.im (.int n)), some (.im (.list path)), some (.ow false (il s)), none]) := by
      simp [pturned_1, sAsg, sIf, mIf, mB, mBV, mAnd, mOr, mNot, VL.m2, m1, im2, bl2, gEqI, gNeI, mVar, mVarO, mC, hold, peek, peekO, isSc, fin, mCallS, mCall, mCons, mNil, callS, frzA, frz, frzO, frR, asgR, mCB, imN, fInt, fAdd, fSub, fMod, fLen, ii, sNext, peekA, fIx, mSeq, LIM, sDrop, sRet, retR, retO, bodyR, mChain, gLe, gInt, mLR1, intR, fRgL, a1, a2, e3, r0, e2]
    rw [if_neg hb]
    show bodyR ((pturned_1 _).bind _) = _
    rw [q1]
    rfl
abbrev CL (n : Int) (c : List Int) (lo : Option OV) (o3 : Option OV) : Gm := [some (.im (.int n)), some (.im (.list (il c))), lo, o3]
theorem cl_go {n : Int} {cc : List Int} : ∀ {c : List Int} {lo : Int} {o3 : Option OV}, Asc n lo c → ∃ lo' o3', forGo (gmName 3) pis_cell_list_2_b (il c) (CL n cc (some (.im (.int lo))) o3) = some (.nx (CL n cc lo' o3'))
  | [], lo, o3, _ => ⟨_, _, rfl⟩
  | k :: c, lo, o3, ⟨h1, h2, h3⟩ => by
    obtain ⟨lo', o3', e⟩ := cl_go (cc := cc) (o3 := some (.im (.int k))) h3
    have q := between k lo (n - 1)
    refine ⟨lo', o3', ?_⟩
    show (gmName 3 (.int k) _).bind _ = _
    have s : pis_cell_list_2_b (CL n cc (some (.im (.int lo))) (some (.im (.int k)))) = some (.nx (CL n cc (some (.im (.int (k + 1)))) (some (.im (.int k))))) := by
      simp [pis_cell_list_2_b, pis_cell_list_2_0, pis_cell_list_2_1, sSeq, CL, sAsg, sIf, mIf, mB, mBV, mAnd, mOr, mNot, VL.m2, m1, im2, bl2, gEqI, gNeI, mVar, mVarO, mC, hold, peek, peekO, isSc, fin, mCallS, mCall, mCons, mNil, callS, frzA, frz, frzO, frR, asgR, mCB, imN, fInt, fAdd, fSub, fMod, fLen, ii, sNext, peekA, fIx, mSeq, LIM, sDrop, sRet, retR, retO, bodyR, mChain, gLe, gInt, q, h1, h2]
    show (pis_cell_list_2_b (CL n cc (some (.im (.int lo))) (some (.im (.int k))))).bind _ = _
    rw [s]
    exact e
theorem cell_list {n : Int} {c : List Int} (h : Asc n 0 c) : d_is_cell_list [.int n, .list (il c)] = some (.im (.bool true)) := by
  obtain ⟨lo', o3', e⟩ := cl_go (cc := c) (o3 := none) h
  show bodyR (m_is_cell_list (CL n c none none)) = _
  have q0 : pis_cell_list_0 (CL n c none none) = some (.nx (CL n c none none)) := by
    simp [pis_cell_list_0, CL, sAsg, sIf, mIf, mB, mBV, mAnd, mOr, mNot, VL.m2, m1, im2, bl2, gEqI, gNeI, mVar, mVarO, mC, hold, peek, peekO, isSc, fin, mCallS, mCall, mCons, mNil, callS, frzA, frz, frzO, frR, asgR, mCB, imN, fInt, fAdd, fSub, fMod, fLen, ii, sNext, peekA, fIx, mSeq, LIM, sDrop, sRet, retR, retO, bodyR, mChain, gLe, gInt, fIsi, tyN, kl5]
  have q1 : pis_cell_list_1 (CL n c none none) = some (.nx (CL n c (some (.im (.int 0))) none)) := by
    simp [pis_cell_list_1, CL, sAsg, sIf, mIf, mB, mBV, mAnd, mOr, mNot, VL.m2, m1, im2, bl2, gEqI, gNeI, mVar, mVarO, mC, hold, peek, peekO, isSc, fin, mCallS, mCall, mCons, mNil, callS, frzA, frz, frzO, frR, asgR, mCB, imN, fInt, fAdd, fSub, fMod, fLen, ii, sNext, peekA, fIx, mSeq, LIM, sDrop, sRet, retR, retO, bodyR, mChain, gLe, gInt]
  have q2 : pis_cell_list_2_it (CL n c (some (.im (.int 0))) none) = some (il c, CL n c (some (.im (.int 0))) none) := by
    simp [pis_cell_list_2_it, mWalk, CL, sAsg, sIf, mIf, mB, mBV, mAnd, mOr, mNot, VL.m2, m1, im2, bl2, gEqI, gNeI, mVar, mVarO, mC, hold, peek, peekO, isSc, fin, mCallS, mCall, mCons, mNil, callS, frzA, frz, frzO, frR, asgR, mCB, imN, fInt, fAdd, fSub, fMod, fLen, ii, sNext, peekA, fIx, mSeq, LIM, sDrop, sRet, retR, retO, bodyR, mChain, gLe, gInt]
  rw [pis_cell_list_eq, seq_nx q0, seq_nx q1, seq_nx ((for_eq q2).trans e)]
  simp [pis_cell_list_3, CL, sAsg, sIf, mIf, mB, mBV, mAnd, mOr, mNot, VL.m2, m1, im2, bl2, gEqI, gNeI, mVar, mVarO, mC, hold, peek, peekO, isSc, fin, mCallS, mCall, mCons, mNil, callS, frzA, frz, frzO, frR, asgR, mCB, imN, fInt, fAdd, fSub, fMod, fLen, ii, sNext, peekA, fIx, mSeq, LIM, sDrop, sRet, retR, retO, bodyR, mChain, gLe, gInt]
theorem counted {n : Int} {c : List Int} (h : Asc n 0 c) : d_check_counted [.int n, .list (il c)] = some (.im .none) := by
  have e := cell_list h
  show bodyR (m_check_counted [some (.im (.int n)), some (.im (.list (il c)))]) = _
  simp [pcheck_counted_eq, pcheck_counted_0, sAsg, sIf, mIf, mB, mBV, mAnd, mOr, mNot, VL.m2, m1, im2, bl2, gEqI, gNeI, mVar, mVarO, mC, hold, peek, peekO, isSc, fin, mCallS, mCall, mCons, mNil, callS, frzA, frz, frzO, frR, asgR, mCB, imN, fInt, fAdd, fSub, fMod, fLen, ii, sNext, peekA, fIx, mSeq, LIM, sDrop, sRet, retR, retO, bodyR, mChain, gLe, gInt, e]
def fEqs (s1 s2 : List Int) : D → Bool
  | .int k => gt s1 k == gt s2 k
  | _ => false
abbrev eqs (s1 s2 : List Int) (k : Int) : Bool := gt s1 k == gt s2 k
theorem same_rows {n : Int} {p q : List D} {s1 s2 c : List Int} (h1 : 1 ≤ n) (h2 : n ≤ 60) (hp : ∀ d ∈ p, PStep n d) (hpl : p.length ≤ 200) (hq : ∀ d ∈ q, PStep n d) (hql : q.length ≤ 200)
    (e1 : doR (rangeD 0 n.toNat) p = il s1) (l1 : (s1.length : Int) = n) (e2 : doR (rangeD 0 n.toNat) q = il s2) (l2 : (s2.length : Int) = n) (h : Asc n 0 c) :
    d_same_rows [.int n, .list p, .list q, .list (il c)] = some (.im (.bool (c.all (eqs s1 s2)))) := by
  have f1 := sources h1 h2 hp hpl
  have f2 := sources h1 h2 hq hql
  rw [e1] at f1
  rw [e2] at f2
  have f3 := counted h
  have hcl := asc_len h (by omega)
  have lc := lc_one (mi := mWalk (mVar 3)) (mt := gmName 6) (mc := mYes) (me := VL.m2 (im2 (bl2 gEq)) (VL.m2 fIx (mVar 4) (mVar 6)) (VL.m2 fIx (mVar 5) (mVar 6))) (vs := [6])
    (Γ := [some (.im (.int n)), some (.im (.list p)), some (.im (.list q)), some (.im (.list (il c))), some (.ow false (il s1)), some (.ow false (il s2)), none]) (Γ1 := [some (.im (.int n)), some (.im (.list p)), some (.im (.list q)), some (.im (.list (il c))), some (.ow false (il s1)), some (.ow false (il s2)), none]) (ds := il c)
    (fun d => some (.bool (fEqs s1 s2 d))) (by simp [mWalk, sAsg, sIf, mIf, mB, mBV, mAnd, mOr, mNot, VL.m2, m1, im2, bl2, gEqI, gNeI, mVar, mVarO, mC, hold, peek, peekO, isSc, fin, mCallS, mCall, mCons, mNil, callS, frzA, frz, frzO, frR, asgR, mCB, imN, fInt, fAdd, fSub, fMod, fLen, ii, sNext, peekA, fIx, mSeq, LIM, sDrop, sRet, retR, retO, bodyR, mChain, gLe, gInt]) (by rfl) (by rw [List.length_map]; show _ ≤ 4000000; omega) (fun d hd => by
      obtain ⟨k, hk, rfl⟩ := List.mem_map.mp hd
      obtain ⟨k1, k2⟩ := asc_mem h k hk
      have a1 := atI_il (ns := s1) k1 (by omega)
      have a2 := atI_il (ns := s2) k1 (by omega)
      refine ⟨[some (.im (.int n)), some (.im (.list p)), some (.im (.list q)), some (.im (.list (il c))), some (.ow false (il s1)), some (.ow false (il s2)), some (.im (.int k))], ?_, rfl⟩
      simp only [List.getD_eq_getElem?_getD] at a1 a2
      simp [lcTurn, gmName, mYes, wipeG, sAsg, sIf, mIf, mB, mBV, mAnd, mOr, mNot, VL.m2, m1, im2, bl2, gEqI, gNeI, mVar, mVarO, mC, hold, peek, peekO, isSc, fin, mCallS, mCall, mCons, mNil, callS, frzA, frz, frzO, frR, asgR, mCB, imN, fInt, fAdd, fSub, fMod, fLen, ii, sNext, peekA, fIx, mSeq, LIM, sDrop, sRet, retR, retO, bodyR, mChain, gLe, gInt, a1, a2, fEqs])
  rw [List.filterMap_eq_map'] at lc
  have al := all_map (fEqs s1 s2) (il c)
  have al2 : (il c).all (fEqs s1 s2) = c.all (eqs s1 s2) := by
    unfold il
    rw [List.all_map]
    rfl
  rw [al2] at al
  have lc' : mLc (mWalk (mVar 3)) (gmName 6) mYes (VL.m2 (im2 (bl2 gEq)) (VL.m2 fIx (mVar 4) (mVar 6)) (VL.m2 fIx (mVar 5) (mVar 6))) [6] [some (.im (.int n)), some (.im (.list p)), some (.im (.list q)), some (.im (.list (il c))), some (.ow false (il s1)), some (.ow false (il s2)), none] = some (.fr ((il c).map fun d => .bool (fEqs s1 s2 d)), [some (.im (.int n)), some (.im (.list p)), some (.im (.list q)), some (.im (.list (il c))), some (.ow false (il s1)), some (.ow false (il s2)), none]) := lc
  show bodyR (m_same_rows [some (.im (.int n)), some (.im (.list p)), some (.im (.list q)), some (.im (.list (il c))), none, none, none]) = _
  rw [psame_rows_eq]
  have q0 : psame_rows_0 [some (.im (.int n)), some (.im (.list p)), some (.im (.list q)), some (.im (.list (il c))), none, none, none] = some (.nx [some (.im (.int n)), some (.im (.list p)), some (.im (.list q)), some (.im (.list (il c))), some (.ow false (il s1)), none, none]) := by
    simp [psame_rows_0, sAsg, sIf, mIf, mB, mBV, mAnd, mOr, mNot, VL.m2, m1, im2, bl2, gEqI, gNeI, mVar, mVarO, mC, hold, peek, peekO, isSc, fin, mCallS, mCall, mCons, mNil, callS, frzA, frz, frzO, frR, asgR, mCB, imN, fInt, fAdd, fSub, fMod, fLen, ii, sNext, peekA, fIx, mSeq, LIM, sDrop, sRet, retR, retO, bodyR, mChain, gLe, gInt, f1]
  have q1 : psame_rows_1 [some (.im (.int n)), some (.im (.list p)), some (.im (.list q)), some (.im (.list (il c))), some (.ow false (il s1)), none, none] = some (.nx [some (.im (.int n)), some (.im (.list p)), some (.im (.list q)), some (.im (.list (il c))), some (.ow false (il s1)), some (.ow false (il s2)), none]) := by
    simp [psame_rows_1, sAsg, sIf, mIf, mB, mBV, mAnd, mOr, mNot, VL.m2, m1, im2, bl2, gEqI, gNeI, mVar, mVarO, mC, hold, peek, peekO, isSc, fin, mCallS, mCall, mCons, mNil, callS, frzA, frz, frzO, frR, asgR, mCB, imN, fInt, fAdd, fSub, fMod, fLen, ii, sNext, peekA, fIx, mSeq, LIM, sDrop, sRet, retR, retO, bodyR, mChain, gLe, gInt, f2]
  have q2 : psame_rows_2 [some (.im (.int n)), some (.im (.list p)), some (.im (.list q)), some (.im (.list (il c))), some (.ow false (il s1)), some (.ow false (il s2)), none] = some (.nx [some (.im (.int n)), some (.im (.list p)), some (.im (.list q)), some (.im (.list (il c))), some (.ow false (il s1)), some (.ow false (il s2)), none]) := by
    simp [psame_rows_2, sAsg, sIf, mIf, mB, mBV, mAnd, mOr, mNot, VL.m2, m1, im2, bl2, gEqI, gNeI, mVar, mVarO, mC, hold, peek, peekO, isSc, fin, mCallS, mCall, mCons, mNil, callS, frzA, frz, frzO, frR, asgR, mCB, imN, fInt, fAdd, fSub, fMod, fLen, ii, sNext, peekA, fIx, mSeq, LIM, sDrop, sRet, retR, retO, bodyR, mChain, gLe, gInt, f3]
  have q3 : psame_rows_3 [some (.im (.int n)), some (.im (.list p)), some (.im (.list q)), some (.im (.list (il c))), some (.ow false (il s1)), some (.ow false (il s2)), none] = some (.rt (.im (.bool (c.all (eqs s1 s2)))) [some (.im (.int n)), some (.im (.list p)), some (.im (.list q)), some (.im (.list (il c))), some (.ow false (il s1)), some (.ow false (il s2)), none]) := by
    unfold psame_rows_3 sRet mCB mCons
    rw [lc']
    simp only [Option.bind_some, mNil, hold, peekA, peek, imN, al]
    rfl
  rw [seq_nx q0, seq_nx q1, seq_nx q2, q3]
  rfl
end SH.K

set_option Elab.async false
set_option linter.all false
namespace VL
open PySem PySem.Spec PyProof.Rows L2
@[simp] def sSeq_s1 := @VL.sSeq.eq_1
@[simp] def sAsg_s1 := @VL.sAsg.eq_1
@[simp] def sIf_s1 := @VL.sIf.eq_1
@[simp] def mIf_s1 := @VL.mIf.eq_1
@[simp] def mB_s1 := @VL.mB.eq_1
@[simp] def mBV_s1 := @VL.mBV.eq_1
@[simp] def mAnd_s1 := @VL.mAnd.eq_1
@[simp] def mOr_s1 := @VL.mOr.eq_1
@[simp] def mNot_s1 := @VL.mNot.eq_1
@[simp] def m2_s1 := @VL.m2.eq_1
@[simp] def m1_s1 := @VL.m1.eq_1
@[simp] def im2_s1 := @VL.im2.eq_1
@[simp] def bl2_s1 := @VL.bl2.eq_1
@[simp] def mVar_s1 := @VL.mVar.eq_1
@[simp] def mVarO_s1 := @VL.mVarO.eq_1
@[simp] def mVarO_s2 := @VL.mVarO.eq_2
@[simp] def mVarO_s3 := @VL.mVarO.eq_3
@[simp] def mC_s1 := @VL.mC.eq_1
@[simp] def hold_s1 := @VL.hold.eq_1
@[simp] def hold_s2 := @VL.hold.eq_2
@[simp] def peek_s1 := @VL.peek.eq_1
@[simp] def peek_s2 := @VL.peek.eq_2
@[simp] def peek_s3 := @VL.peek.eq_3
@[simp] def peekO_s1 := @VL.peekO.eq_1
@[simp] def peekO_s2 := @VL.peekO.eq_2
@[simp] def peekO_s3 := @VL.peekO.eq_3
@[simp] def isSc_s1 := @VL.isSc.eq_1
@[simp] def isSc_s2 := @VL.isSc.eq_2
@[simp] def isSc_s3 := @VL.isSc.eq_3
@[simp] def isSc_s4 := @VL.isSc.eq_4
@[simp] def isSc_s5 := @VL.isSc.eq_5
@[simp] def fin_s1 := @VL.fin.eq_1
@[simp] def fin_s2 := @VL.fin.eq_2
@[simp] def fin_s3 := @VL.fin.eq_3
@[simp] def mCallS_s1 := @VL.mCallS.eq_1
@[simp] def mCall_s1 := @VL.mCall.eq_1
@[simp] def mCons_s1 := @VL.mCons.eq_1
@[simp] def mNil_s1 := @VL.mNil.eq_1
@[simp] def callS_s1 := @VL.callS.eq_1
@[simp] def callS_s2 := @VL.callS.eq_2
@[simp] def frzA_s1 := @VL.frzA.eq_1
@[simp] def frzA_s2 := @VL.frzA.eq_2
@[simp] def frz_s1 := @VL.frz.eq_1
@[simp] def frz_s2 := @VL.frz.eq_2
@[simp] def frz_s3 := @VL.frz.eq_3
@[simp] def frzO_s1 := @VL.frzO.eq_1
@[simp] def frzO_s2 := @VL.frzO.eq_2
@[simp] def frzO_s3 := @VL.frzO.eq_3
@[simp] def frR_s1 := @VL.frR.eq_1
@[simp] def frR_s2 := @VL.frR.eq_2
@[simp] def asgR_s1 := @VL.asgR.eq_1
@[simp] def asgR_s2 := @VL.asgR.eq_2
@[simp] def asgR_s3 := @VL.asgR.eq_3
@[simp] def mCB_s1 := @VL.mCB.eq_1
@[simp] def imN_s1 := @VL.imN.eq_1
@[simp] def fInt_s1 := @VL.fInt.eq_1
@[simp] def fInt_s2 := @VL.fInt.eq_2
@[simp] def fInt_s3 := @VL.fInt.eq_3
@[simp] def fAdd_s1 := @VL.fAdd.eq_1
@[simp] def fAdd_s2 := @VL.fAdd.eq_2
@[simp] def fAdd_s3 := @VL.fAdd.eq_3
@[simp] def fAdd_s4 := @VL.fAdd.eq_4
@[simp] theorem fSub_a (d e : D) : fSub d e = ii (fun i j => some (.int (i - j))) d e := rfl
@[simp] def fMul_s1 := @VL.fMul.eq_1
@[simp] def fMul_s2 := @VL.fMul.eq_2
@[simp] def fMul_s3 := @VL.fMul.eq_3
@[simp] theorem fMod_a (d e : D) : fMod d e = ii (fun i j => if 0 < j then some (.int (i % j)) else none) d e := rfl
@[simp] theorem fDiv_a (d e : D) : fDiv d e = ii (fun i j => if 0 < j ∧ j.natAbs < BIG then some (.int (i / j)) else none) d e := rfl
@[simp] theorem fPow_a (d e : D) : fPow d e = ii (fun i j => if 0 ≤ j ∧ j ≤ 100 ∧ i.natAbs < BIG then some (.int (i ^ j.toNat)) else none) d e := rfl
@[simp] def fLen_s1 := @VL.fLen.eq_1
@[simp] def fLen_s2 := @VL.fLen.eq_2
@[simp] def fLen_s3 := @VL.fLen.eq_3
@[simp] def fLen_s4 := @VL.fLen.eq_4
@[simp] def fLen_s5 := @VL.fLen.eq_5
@[simp] def ii_s1 := @VL.ii.eq_1
@[simp] def ii_s2 := @VL.ii.eq_2
@[simp] def intR_s1 := @VL.intR.eq_1
@[simp] def intR_s2 := @VL.intR.eq_2
@[simp] def sNext_s1 := @VL.sNext.eq_1
@[simp] def peekA_s1 := @VL.peekA.eq_1
@[simp] def peekA_s2 := @VL.peekA.eq_2
@[simp] def fIx_s1 := @VL.fIx.eq_1
@[simp] def fIx_s2 := @VL.fIx.eq_2
@[simp] def fIx_s3 := @VL.fIx.eq_3
@[simp] def mSeq_s1 := @VL.mSeq.eq_1
@[simp] def LIM_s1 := @VL.LIM.eq_1
@[simp] def sDrop_s1 := @VL.sDrop.eq_1
@[simp] def sRet_s1 := @VL.sRet.eq_1
@[simp] def retR_s1 := @VL.retR.eq_1
@[simp] def retR_s2 := @VL.retR.eq_2
@[simp] def retR_s3 := @VL.retR.eq_3
@[simp] def retO_s1 := @VL.retO.eq_1
@[simp] def retO_s2 := @VL.retO.eq_2
@[simp] def retO_s3 := @VL.retO.eq_3
@[simp] def bodyR_s1 := @VL.bodyR.eq_1
@[simp] def bodyR_s2 := @VL.bodyR.eq_2
@[simp] def bodyR_s3 := @VL.bodyR.eq_3
@[simp] def bodyR_s4 := @VL.bodyR.eq_4
@[simp] def mChain_s1 := @VL.mChain.eq_1
@[simp] theorem gLe_a (d e : D) : gLe d e = gInt (fun i j => decide (i ≤ j)) d e := rfl
@[simp] theorem gLt_a (d e : D) : gLt d e = gInt (fun i j => decide (i < j)) d e := rfl
@[simp] theorem gGt_a (d e : D) : gGt d e = gInt (fun i j => decide (j < i)) d e := rfl
@[simp] def gInt_s1 := @VL.gInt.eq_1
@[simp] def gInt_s2 := @VL.gInt.eq_2
@[simp] def fIsi_s1 := @VL.fIsi.eq_1
@[simp] def tyN_s1 := @VL.tyN.eq_1
@[simp] def tyN_s2 := @VL.tyN.eq_2
@[simp] def tyN_s3 := @VL.tyN.eq_3
@[simp] def tyN_s4 := @VL.tyN.eq_4
@[simp] def tyN_s5 := @VL.tyN.eq_5
@[simp] def tyN_s6 := @VL.tyN.eq_6
@[simp] def tyN_s7 := @VL.tyN.eq_7
@[simp] def lcTurn_s1 := @VL.lcTurn.eq_1
@[simp] def gmName_s1 := @VL.gmName.eq_1
@[simp] def gmTup_s1 := @VL.gmTup.eq_1
@[simp] def gmTup_s2 := @VL.gmTup.eq_2
@[simp] def gmCons_s1 := @VL.gmCons.eq_1
@[simp] def gmCons_s2 := @VL.gmCons.eq_2
@[simp] def gmNil_s1 := @VL.gmNil.eq_1
@[simp] def gmNil_s2 := @VL.gmNil.eq_2
@[simp] def wipeG_s1 := @VL.wipeG.eq_1
@[simp] def wipeG_s2 := @VL.wipeG.eq_2
@[simp] def mergeG_s1 := @VL.mergeG.eq_1
@[simp] def mergeG_s2 := @VL.mergeG.eq_2
@[simp] def mYes_s1 := @VL.mYes.eq_1
@[simp] def sSetL_s1 := @VL.sSetL.eq_1
@[simp] def slotUp_s1 := @VL.slotUp.eq_1
@[simp] def slotUp_s2 := @VL.slotUp.eq_2
@[simp] def sPar2_s1 := @VL.sPar2.eq_1
@[simp] def sPar3_s1 := @VL.sPar3.eq_1
@[simp] def m2R_s1 := @VL.m2R.eq_1
@[simp] def m3R_s1 := @VL.m3R.eq_1
@[simp] def settle_s1 := @VL.settle.eq_1
@[simp] def settle_s2 := @VL.settle.eq_2
@[simp] def settle_s3 := @VL.settle.eq_3
@[simp] def put_s1 := @VL.put.eq_1
@[simp] def put_s2 := @VL.put.eq_2
@[simp] def put_s3 := @VL.put.eq_3
@[simp] def mRng_s1 := @VL.mRng.eq_1
@[simp] def rng1_s1 := @VL.rng1.eq_1
@[simp] def rng1_s2 := @VL.rng1.eq_2
@[simp] def mEnum_s1 := @VL.mEnum.eq_1
@[simp] def mWalk_s1 := @VL.mWalk.eq_1
@[simp] def mWalkT_s1 := @VL.mWalkT.eq_1
@[simp] def mSl_s1 := @VL.mSl.eq_1
@[simp] def mPart_s1 := @VL.mPart.eq_1
@[simp] def mNoPart_s1 := @VL.mNoPart.eq_1
@[simp] def mLR1_s1 := @VL.mLR1.eq_1
@[simp] def fRgL_s1 := @VL.fRgL.eq_1
@[simp] def mApp_s1 := @VL.mApp.eq_1
@[simp] def isL_s1 := @VL.isL.eq_1
@[simp] def isL_s2 := @VL.isL.eq_2
@[simp] def mPopAt_s1 := @VL.mPopAt.eq_1
@[simp] def mIndex_s1 := @VL.mIndex.eq_1
@[simp] def mCallK_s1 := @VL.mCallK.eq_1
@[simp] def mArgsK_s1 := @VL.mArgsK.eq_1
@[simp] def permD_s1 := @VL.permD.eq_1
@[simp] def fMin2_s1 := @VL.fMin2.eq_1
@[simp] def fMin2_s2 := @VL.fMin2.eq_2
@[simp] def fMax2_s1 := @VL.fMax2.eq_1
@[simp] def fMax2_s2 := @VL.fMax2.eq_2
@[simp] def fAbs_s1 := @VL.fAbs.eq_1
@[simp] def fAbs_s2 := @VL.fAbs.eq_2
@[simp] def gIsNot_s1 := @VL.gIsNot.eq_1
@[simp] def isNoneD_s1 := @VL.isNoneD.eq_1
@[simp] def isNoneD_s2 := @VL.isNoneD.eq_2
@[simp] def gIs_s1 := @VL.gIs.eq_1
@[simp] def ss0_s1 := @VL.ss0.eq_1
@[simp] def ss0_s2 := @VL.ss0.eq_2
@[simp] def bodyS_s1 := @VL.bodyS.eq_1
@[simp] def bodyS_s2 := @VL.bodyS.eq_2
@[simp] def bodyS_s3 := @VL.bodyS.eq_3
@[simp] def bodyS_s4 := @VL.bodyS.eq_4
@[simp] def mDNew_s1 := @VL.mDNew.eq_1
@[simp] def fTuple_s1 := @VL.fTuple.eq_1
@[simp] def fTuple_s2 := @VL.fTuple.eq_2
@[simp] def fList_s1 := @VL.fList.eq_1
@[simp] def fList_s2 := @VL.fList.eq_2
@[simp] def fList_s3 := @VL.fList.eq_3
@[simp] def fNeg_s1 := @VL.fNeg.eq_1
@[simp] def fNeg_s2 := @VL.fNeg.eq_2
@[simp] def hidOk_s1 := @VL.hidOk.eq_1
@[simp] def sAsgT_s1 := @VL.sAsgT.eq_1
end VL

set_option Elab.async false
set_option linter.all false
set_option maxRecDepth 100000
set_option exponentiation.threshold 4000
namespace SH
open PySem PySem.Spec PyProof.Rows L2 VL
theorem cut_take {xs : List D} {c : Int} (h0 : 0 ≤ c) : cutD xs none (some c) = xs.take c.toNat := by
  obtain ⟨k, rfl⟩ : ∃ k : Nat, c = k := ⟨c.toNat, by omega⟩
  unfold VL.cutD
  rw [HT.sIx_none, HT.sIx_nat, List.drop_zero, Nat.sub_zero, Int.toNat_natCast]
  by_cases h : k ≤ xs.length
  · rw [Nat.min_eq_left h]
  · rw [Nat.min_eq_right (by omega), List.take_of_length_le (Nat.le_refl _), List.take_of_length_le (by omega)]
theorem cut_drop {xs : List D} {c : Int} (h0 : 0 ≤ c) : cutD xs (some c) none = xs.drop c.toNat := by
  obtain ⟨k, rfl⟩ : ∃ k : Nat, c = k := ⟨c.toNat, by omega⟩
  unfold VL.cutD
  rw [HT.sIx_none, HT.sIx_nat, Int.toNat_natCast]
  by_cases h : k ≤ xs.length
  · rw [Nat.min_eq_left h, List.take_of_length_le (by rw [List.length_drop]; omega)]
  · rw [Nat.min_eq_right (by omega), List.drop_of_length_le (Nat.le_refl _), List.drop_of_length_le (by omega), List.take_nil]
theorem cut_mid {xs : List D} {a b : Int} (h0 : 0 ≤ a) (h1 : 0 ≤ b) : cutD xs (some a) (some b) = (xs.take b.toNat).drop a.toNat := by
  obtain ⟨k, rfl⟩ : ∃ k : Nat, a = k := ⟨a.toNat, by omega⟩
  obtain ⟨j, rfl⟩ : ∃ k : Nat, b = k := ⟨b.toNat, by omega⟩
  unfold VL.cutD
  rw [HT.sIx_nat, HT.sIx_nat, Int.toNat_natCast, Int.toNat_natCast, List.drop_take]
  apply List.ext_getElem?
  intro t
  rw [List.getElem?_take, List.getElem?_take, List.getElem?_drop, List.getElem?_drop]
  by_cases h : k ≤ xs.length
  · rw [Nat.min_eq_left h]
    by_cases h' : t < j - k
    · rw [if_pos h']
      by_cases h2 : t < min j xs.length - k
      · rw [if_pos h2]
      · rw [if_neg h2, List.getElem?_eq_none (by omega)]
    · rw [if_neg h', if_neg (by omega)]
  · rw [if_neg (by omega), List.getElem?_eq_none (l := xs) (i := k + t) (by omega)]
    split <;> rfl
theorem doR_app (xs a b : List D) : doR xs (a ++ b) = doR (doR xs a) b := List.foldl_append ..
/-- a slot that holds a list, as data or as its own -/
def LstAt (Γ : Gm) (i : Nat) (xs : List D) : Prop := Γ[i]? = some (some (.im (.list xs))) ∨ ∃ b, Γ[i]? = some (some (.ow b xs))
theorem ix_at {Γ : Gm} {i v : Nat} {xs : List D} {k : Int} (hi : LstAt Γ i xs) (hv : Γ[v]? = some (some (.im (.int k)))) (h0 : 0 ≤ k) (h1 : k < xs.length) : VL.m2 fIx (mVar i) (mVar v) Γ = some (.im (xs.getD k.toNat .none), Γ) := by
  have e := (at_set (xs := xs) h0 h1).1
  rcases hi with hi | ⟨b, hi⟩
  · simp [hi, hv, e]
  · simp [hi, hv, e]
theorem lc_pick {mi : Mi} {i v : Nat} {Γ Γ1 : Gm} {xs : List D} {s : List Int} (h1 : mi Γ = some (il s, Γ1)) (hi : LstAt Γ1 i xs) (hv : Γ1[v]? = some none) (hiv : i ≠ v) (hs : ∀ k ∈ s, 0 ≤ k ∧ k < xs.length) (hl : s.length ≤ LIM) :
    mLc mi (gmName v) mYes (VL.m2 fIx (mVar i) (mVar v)) [v] Γ = some (.fr (s.map fun k => xs.getD k.toNat .none), Γ1) := by
  have hvl : v < Γ1.length := lt_of_get hv
  have hw : Γ1.set v none = Γ1 := by
    apply List.ext_getElem?
    intro j
    by_cases hj : v = j
    · subst hj
      rw [List.getElem?_set_self hvl, hv]
    · rw [List.getElem?_set_ne hj]
  have hh := lc_mapD (mt := gmName v) (mc := mYes) (me := VL.m2 fIx (mVar i) (mVar v)) (vs := [v]) (Γ := Γ1) (g := PyData.int) (f := fun k => xs.getD k.toNat .none) (ds := s) (fun k hk => ⟨Γ1.set v (some (.im (.int k))), by
      have hk2 := hs k hk
      have hi' : LstAt (Γ1.set v (some (.im (.int k)))) i xs := by
        unfold LstAt
        rw [List.getElem?_set_ne (Ne.symm hiv)]
        exact hi
      have e := ix_at (v := v) (k := k) hi' (by rw [List.getElem?_set_self hvl]) hk2.1 hk2.2
      unfold lcTurn
      have e0 : gmName v (.int k) Γ1 = some (Γ1.set v (some (.im (.int k)))) := rfl
      rw [e0]
      simp only [Option.bind_some, mYes, if_true, e, frz], by
      show (Γ1.set v (some (.im (.int k)))).set v none = Γ1
      rw [List.set_set, hw]⟩) []
  have hm : mergeG Γ1 Γ1 [v] = Γ1 := by
    show Γ1.set v (Γ1[v]?.getD none) = Γ1
    rw [hv]
    exact hw
  have := lc_eq (mi := mi) (Γ := Γ) (Γ1 := Γ1) (Γ2 := Γ1) (vs := [v]) h1 (by simp [hidOk, hv]) (by rw [il_len]; exact hl) (by
    show lcGo _ _ _ [v] (il s) (Γ1.set v none) [] = _
    rw [hw]
    exact hh)
  rw [this, hm, List.nil_append]
theorem getD_il (h : List Int) {k : Int} (h0 : 0 ≤ k) (h1 : k < h.length) : (il h).getD k.toNat PyData.none = .int (gt h k) := by
  have hk : k.toNat < h.length := by omega
  simp [il, gt, List.getD_eq_getElem?_getD, hk]
theorem pick_il {h s : List Int} (hs : ∀ k ∈ s, 0 ≤ k ∧ k < h.length) : (s.map fun k => (il h).getD k.toNat PyData.none) = il (s.map (gt h)) := by
  show _ = (s.map (gt h)).map PyData.int
  rw [List.map_map]
  exact List.map_congr_left fun k hk => getD_il h (hs k hk).1 (hs k hk).2
theorem il_inj {a b : List Int} (h : il a = il b) : a = b := by
  have := List.map_inj_right (f := PyData.int) (fun x y e => by cases e; rfl) |>.mp h
  exact this
section
variable {h : List Int} {p : List D}
theorem Hr.sub (o : Hr h p) {q : List D} (hq : ∀ d ∈ q, d ∈ p) (hl : q.length ≤ p.length) : Hr h q := ⟨o.l1, o.l2, o.hh, fun d hd => o.hp d (hq d hd), Nat.le_trans hl o.hl⟩
theorem after_il {e : List Int} (o : Hr h p) (he : doR (il h) p = il e) : d_after_row [.list (il h), .list p] = some (.fr (il e)) := by
  rw [← he]
  exact after o
theorem srcs_il {s : List Int} (o : Hr h p) (hs : doR (rangeD 0 h.length) p = il s) : d_sources_of [.int h.length, .list p] = some (.fr (il s)) := by
  rw [← hs]
  exact srcs o
theorem behind_il {s e : List Int} {p : List D} (hp : ∀ d ∈ p, PStep h.length d) (hs : doR (rangeD 0 h.length) p = il s) (hr : ∀ k ∈ s, 0 ≤ k ∧ k < h.length) (he : doR (il h) p = il e) : e = s.map (gt h) := by
  have := behind_of (held := il h) (s := s) (many := (h.length : Int)) (by omega) (by rw [il_len]) hp hs
  rw [he, pick_il hr] at this
  exact il_inj this
end
end SH

set_option Elab.async false
set_option linter.all false
set_option maxRecDepth 100000
set_option exponentiation.threshold 4000
namespace SH
open PySem PySem.Spec PyProof.Rows L2 VL
/-! ### for k, cell in enumerate((script + [0])[:max(1, min(len(script), N))]) -/
def itO (N : Int) : Mi := (mEnum (mCons (mSl (VL.m2 fAdd (mVar 0) (mSeq false (mCons (mC (.int 0)) mNil))) mNoPart (mPart (mCB (imN fMax2) (mCons (mC (.int 1)) (mCons (mCB (imN fMin2) (mCons (mCB (imN fLen) (mCons (mVar 0) mNil)) (mCons (mC (.int N)) mNil))) mNil))))) mNil))
theorem cut_le (xs : List D) (a b : Option Int) : (VL.cutD xs a b).length ≤ xs.length := by
  unfold VL.cutD
  rw [List.length_take, List.length_drop]
  omega
theorem itO_eq {ns : List Int} (hl : ns.length ≤ 63) (N : Int) (rest : Gm) : ∃ ds, itO N (some (.im (.list (il ns))) :: rest) = some (enumD ds, some (.im (.list (il ns))) :: rest) ∧ ds.length ≤ 64 ∧ ∀ d ∈ ds, ∃ c : Int, d = .int c := by
  generalize eq6 : (if N < ns.length then N else ns.length) = q
  generalize eqm : (if q > 1 then q else (1 : Int)) = m
  have c1 : ns.length + 1 ≤ 4000000 := by omega
  have c2 : ns.length ≤ 3999999 := by omega
  refine ⟨VL.cutD (il ns ++ [.int 0]) none (some m), ?_, ?_, ?_⟩
  · simp only [gt_iff_lt] at eqm
    simp [itO, c1, c2, eq6, eqm]
  · have := cut_le (il ns ++ [.int 0]) none (some m)
    rw [List.length_append, il_len] at this
    have : ([PyData.int 0] : List D).length = 1 := rfl
    omega
  · intro d hd
    have := List.mem_of_mem_drop (List.mem_of_mem_take hd)
    rcases List.mem_append.mp this with h | h
    · obtain ⟨i, _, rfl⟩ := List.mem_map.mp h
      exact ⟨i, rfl⟩
    · exact ⟨0, List.mem_singleton.mp h⟩
theorem outer {ns : List Int} (hl : ns.length ≤ 63) {N : Int} {i j : Nat} {b : Ms} {rest : Gm} {I : Gm → Prop} (hI : I (some (.im (.list (il ns))) :: rest))
    (hb : ∀ (k c : Int) (Γ : Gm), 0 ≤ k → k ≤ 100 → I Γ → ∃ Γ2, b ((Γ.set i (some (.im (.int k)))).set j (some (.im (.int c)))) = some (.nx Γ2) ∧ I Γ2) :
    ∃ Γ', sFor (itO N) (gmTup 2 (gmCons (gmName i) (gmCons (gmName j) gmNil))) b (some (.im (.list (il ns))) :: rest) = some (.nx Γ') ∧ I Γ' := by
  obtain ⟨ds, e0, l0, h0⟩ := itO_eq hl N rest
  obtain ⟨Γ', e4, h4⟩ := for_inv (mt := gmTup 2 (gmCons (gmName i) (gmCons (gmName j) gmNil))) (m := b) (ds := enumD ds) (i := 0) (Γ := some (.im (.list (il ns))) :: rest) (I := fun _ Γ => I Γ) hI (by
    intro n d Γ hd _ _ hΓ
    obtain ⟨⟨x, k⟩, hp, rfl⟩ := List.mem_map.mp hd
    obtain ⟨p1, p2, p3⟩ := List.mem_zipIdx hp
    obtain ⟨c, rfl⟩ := h0 x (by rw [p3]; exact List.getElem_mem _)
    obtain ⟨Γ2, e, h⟩ := hb (k : Int) c Γ (by omega) (by omega) hΓ
    exact ⟨_, Γ2, rfl, e, h⟩)
  exact ⟨Γ', (for_eq e0).trans e4, h4⟩
/-- for turn in range(n), n written -/
theorem turns {n : Nat} (hn : n ≤ 1000) {i : Nat} {b : Ms} {Γ0 : Gm} {I : Nat → Gm → Prop} (hI : I 0 Γ0)
    (hb : ∀ (t : Nat) (Γ : Gm), t < n → I t Γ → ∃ Γ2, b (Γ.set i (some (.im (.int (t : Int))))) = some (.nx Γ2) ∧ I (t + 1) Γ2) :
    ∃ Γ', sFor (mRng rng1 (mCons (mC (.int (n : Int))) mNil)) (gmName i) b Γ0 = some (.nx Γ') ∧ I n Γ' := by
  have a1 : (-1000000000 : Int) ≤ n := by omega
  have a2 : (n : Int) ≤ 1000000000 := by omega
  have e0 : (mRng rng1 (mCons (mC (.int (n : Int))) mNil)) Γ0 = some (rangeD 0 n, Γ0) := by simp [a1, a2]
  rw [rangeD_r] at e0
  have key : ∀ (m t : Nat) (Γ : Gm), t + m = n → I t Γ → ∃ Γ', forGo (gmName i) b ((List.range' t m).map fun (j : Nat) => PyData.int (j : Int)) Γ = some (.nx Γ') ∧ I n Γ' := by
    intro m
    induction m with
    | zero =>
      intro t Γ ht hΓ
      exact ⟨Γ, rfl, by rw [← ht]; exact hΓ⟩
    | succ m ih =>
      intro t Γ ht hΓ
      obtain ⟨Γ2, e, h⟩ := hb t Γ (by omega) hΓ
      obtain ⟨Γ', e', h'⟩ := ih (t + 1) Γ2 (by omega) h
      refine ⟨Γ', ?_, h'⟩
      show (gmName i (.int (t : Int)) Γ).bind _ = _
      show (b (Γ.set i (some (.im (.int (t : Int)))))).bind _ = _
      rw [e]
      exact e'
  obtain ⟨Γ', e', h'⟩ := key n 0 Γ0 (by omega) hI
  exact ⟨Γ', (for_eq e0).trans e', h'⟩
theorem rng_of {me : Me} {Γ Γ' : Gm} {m : Int} (e : me Γ = some (.im (.int m), Γ')) (h1 : -1000000000 ≤ m) (h2 : m ≤ 1000000000) : mRng rng1 (mCons me mNil) Γ = some (rangeD 0 m.toNat, Γ') := by
  simp [e, h1, h2]
theorem rng_il {me : Me} {Γ Γ' : Gm} {m : Int} (e : me Γ = some (.im (.int m), Γ')) (h1 : -1000000000 ≤ m) (h2 : m ≤ 1000000000) : mRng rng1 (mCons me mNil) Γ = some (il (rgI m.toNat), Γ') := by
  rw [rng_of e h1 h2, range_il]
theorem il_mem {a : List Int} {k : Int} : PyData.int k ∈ il a ↔ k ∈ a := by
  constructor
  · intro h
    obtain ⟨j, hj, e⟩ := List.mem_map.mp h
    cases e
    exact hj
  · exact fun h => List.mem_map.mpr ⟨k, h, rfl⟩
theorem perm_ex {s : List Int} : ∀ {l : List Int}, l.Nodup → (∀ k ∈ l, k ∈ s) → ∃ r, s.Perm (l ++ r)
  | [], _, _ => ⟨s, List.Perm.refl _⟩
  | a :: l, nd, h => by
    obtain ⟨r, hr⟩ := perm_ex (s := s) (l := l) (List.nodup_cons.mp nd).2 fun k hk => h k (List.mem_cons_of_mem _ hk)
    have ha : a ∈ l ++ r := hr.mem_iff.mp (h a (List.mem_cons_self ..))
    have hr2 : a ∈ r := (List.mem_append.mp ha).resolve_left (List.nodup_cons.mp nd).1
    refine ⟨r.erase a, hr.trans ?_⟩
    have p1 : (l ++ r).Perm (l ++ a :: r.erase a) := List.Perm.append_left l (List.perm_cons_erase hr2)
    exact p1.trans List.perm_middle
theorem sorted_all {n : Nat} {s : List Int} (hl : s.length = n) (h : ∀ k ∈ rgI n, k ∈ s) : sortI s = rgI n := by
  have nd : (rgI n).Nodup := (rgI_pair n).imp (fun h => by omega)
  obtain ⟨r, hr⟩ := perm_ex nd h
  have hz : r = [] := by
    have := hr.length_eq
    rw [List.length_append, rgI_len, hl] at this
    exact List.length_eq_zero_iff.mp (by omega)
  rw [hz, List.append_nil] at hr
  have p : (rgI n).Perm s := hr.symm
  exact (sortI_eq p ((rgI_pair n).imp (fun h => by omega))).symm
end SH

set_option Elab.async false
set_option linter.all false
set_option maxRecDepth 100000
set_option maxHeartbeats 4000000
namespace Gk06
open PySem PySem.Spec PyProof.Rows L2 VL
/-! ### the text -/
def topS (i : Nat) : Stmt := PySem.Challenge.pw_valuesmoved_k06_rows_alike_and_turned.main.body.getD i (.Pass ⟨0, 0, 0, 0⟩)
theorem bb_abs : bootBuiltins "abs" = some (.builtin "abs") := by decide +kernel
theorem bb_all : bootBuiltins "all" = some (.builtin "all") := by decide +kernel
theorem bb_bool : bootBuiltins "bool" = some (.type "bool") := by decide +kernel
theorem bb_enumerate : bootBuiltins "enumerate" = some (.type "enumerate") := by decide +kernel
theorem bb_int : bootBuiltins "int" = some (.type "int") := by decide +kernel
theorem bb_isinstance : bootBuiltins "isinstance" = some (.builtin "isinstance") := by decide +kernel
theorem bb_len : bootBuiltins "len" = some (.builtin "len") := by decide +kernel
theorem bb_list : bootBuiltins "list" = some (.type "list") := by decide +kernel
theorem bb_max : bootBuiltins "max" = some (.builtin "max") := by decide +kernel
theorem bb_min : bootBuiltins "min" = some (.builtin "min") := by decide +kernel
theorem bb_range : bootBuiltins "range" = some (.type "range") := by decide +kernel
theorem bb_repr : bootBuiltins "repr" = some (.builtin "repr") := by decide +kernel
theorem bb_sorted : bootBuiltins "sorted" = some (.builtin "sorted") := by decide +kernel
theorem bb_tuple : bootBuiltins "tuple" = some (.type "tuple") := by decide +kernel
abbrev s_law_source : Stmt := topS 25
abbrev N_law_source : List Str := ["cell", "k", "great"]
theorem sc_law_source : FnScope N_law_source ["cell", "k"] (defScope s_law_source) := ⟨rfl, rfl, rfl, by decide +kernel, rfl, by decide +kernel, by decide +kernel⟩
abbrev s_law_draw : Stmt := topS 26
abbrev N_law_draw : List Str := ["source", "count", "mixed", "digit"]
theorem sc_law_draw : FnScope N_law_draw ["source", "count"] (defScope s_law_draw) := ⟨rfl, rfl, rfl, by decide +kernel, rfl, by decide +kernel, by decide +kernel⟩
abbrev s_law_path : Stmt := topS 28
abbrev N_law_path : List Str := ["source", "many", "most", "turn", "found", "way", "here", "one", "word"]
theorem sc_law_path : FnScope N_law_path ["source", "many", "most"] (defScope s_law_path) := ⟨rfl, rfl, rfl, by decide +kernel, rfl, by decide +kernel, by decide +kernel⟩
abbrev s_law_mate : Stmt := topS 30
abbrev N_law_mate : List Str := ["source", "many", "path", "mate", "way", "one"]
theorem sc_law_mate : FnScope N_law_mate ["source", "many", "path"] (defScope s_law_mate) := ⟨rfl, rfl, rfl, by decide +kernel, rfl, by decide +kernel, by decide +kernel⟩
abbrev s_law_behind : Stmt := topS 29
abbrev N_law_behind : List Str := ["held", "path", "found", "word", "one", "other", "here", "there"]
theorem sc_law_behind : FnScope N_law_behind ["held", "path"] (defScope s_law_behind) := ⟨rfl, rfl, rfl, by decide +kernel, rfl, by decide +kernel, by decide +kernel⟩
abbrev s_is_integer : Stmt := topS 10
abbrev N_is_integer : List Str := ["value"]
theorem sc_is_integer : FnScope N_is_integer ["value"] (defScope s_is_integer) := ⟨rfl, rfl, rfl, by decide +kernel, rfl, by decide +kernel, by decide +kernel⟩
abbrev s_is_between : Stmt := topS 11
abbrev N_is_between : List Str := ["value", "least", "greatest"]
theorem sc_is_between : FnScope N_is_between ["value", "least", "greatest"] (defScope s_is_between) := ⟨rfl, rfl, rfl, by decide +kernel, rfl, by decide +kernel, by decide +kernel⟩
abbrev s_check_cells : Stmt := topS 18
abbrev N_check_cells : List Str := ["cells"]
theorem sc_check_cells : FnScope N_check_cells ["cells"] (defScope s_check_cells) := ⟨rfl, rfl, rfl, by decide +kernel, rfl, by decide +kernel, by decide +kernel⟩
abbrev s_is_list_of : Stmt := topS 14
abbrev N_is_list_of : List Str := ["value", "fewest", "most"]
theorem sc_is_list_of : FnScope N_is_list_of ["value", "fewest", "most"] (defScope s_is_list_of) := ⟨rfl, rfl, rfl, by decide +kernel, rfl, by decide +kernel, by decide +kernel⟩
abbrev s_is_cell : Stmt := topS 12
abbrev N_is_cell : List Str := ["cells", "item"]
theorem sc_is_cell : FnScope N_is_cell ["cells", "item"] (defScope s_is_cell) := ⟨rfl, rfl, rfl, by decide +kernel, rfl, by decide +kernel, by decide +kernel⟩
abbrev s_is_step : Stmt := topS 13
abbrev N_is_step : List Str := ["cells", "item", "word", "source", "target"]
theorem sc_is_step : FnScope N_is_step ["cells", "item"] (defScope s_is_step) := ⟨rfl, rfl, rfl, by decide +kernel, rfl, by decide +kernel, by decide +kernel⟩
abbrev s_check_steps : Stmt := topS 17
abbrev N_check_steps : List Str := ["cells", "steps", "index", "item"]
theorem sc_check_steps : FnScope N_check_steps ["cells", "steps"] (defScope s_check_steps) := ⟨rfl, rfl, rfl, by decide +kernel, rfl, by decide +kernel, by decide +kernel⟩
abbrev s_check_row : Stmt := topS 16
abbrev N_check_row : List Str := ["cells", "row"]
theorem sc_check_row : FnScope N_check_row ["cells", "row"] (defScope s_check_row) := ⟨rfl, rfl, rfl, by decide +kernel, rfl, by decide +kernel, by decide +kernel⟩
abbrev s_behind_row : Stmt := topS 6
abbrev N_behind_row : List Str := ["held", "row", "left", "word", "source", "target"]
theorem sc_behind_row : FnScope N_behind_row ["held", "row"] (defScope s_behind_row) := ⟨rfl, rfl, rfl, by decide +kernel, rfl, by decide +kernel, by decide +kernel⟩
abbrev s_sources_of : Stmt := topS 21
abbrev N_sources_of : List Str := ["cells", "row"]
theorem sc_sources_of : FnScope N_sources_of ["cells", "row"] (defScope s_sources_of) := ⟨rfl, rfl, rfl, by decide +kernel, rfl, by decide +kernel, by decide +kernel⟩
abbrev s_turned : Stmt := topS 23
abbrev N_turned : List Str := ["cells", "row", "sources", "cell"]
theorem sc_turned : FnScope N_turned ["cells", "row"] (defScope s_turned) := ⟨rfl, rfl, rfl, by decide +kernel, rfl, by decide +kernel, by decide +kernel⟩
abbrev s_law_turned_right : Stmt := topS 32
abbrev N_law_turned_right : List Str := ["many", "path", "after", "due", "told", "k"]
theorem sc_law_turned_right : FnScope N_law_turned_right ["many", "path"] (defScope s_law_turned_right) := ⟨rfl, rfl, rfl, by decide +kernel, rfl, by decide +kernel, by decide +kernel⟩
abbrev s_law_content : Stmt := topS 27
abbrev N_law_content : List Str := ["source", "many", "wide", "k", "way", "found", "great"]
theorem sc_law_content : FnScope N_law_content ["source", "many", "wide"] (defScope s_law_content) := ⟨rfl, rfl, rfl, by decide +kernel, rfl, by decide +kernel, by decide +kernel⟩
abbrev s_is_cell_list : Stmt := topS 15
abbrev N_is_cell_list : List Str := ["cells", "value", "least", "cell"]
theorem sc_is_cell_list : FnScope N_is_cell_list ["cells", "value"] (defScope s_is_cell_list) := ⟨rfl, rfl, rfl, by decide +kernel, rfl, by decide +kernel, by decide +kernel⟩
abbrev s_check_counted : Stmt := topS 19
abbrev N_check_counted : List Str := ["cells", "counted"]
theorem sc_check_counted : FnScope N_check_counted ["cells", "counted"] (defScope s_check_counted) := ⟨rfl, rfl, rfl, by decide +kernel, rfl, by decide +kernel, by decide +kernel⟩
abbrev s_same_rows : Stmt := topS 22
abbrev N_same_rows : List Str := ["cells", "row", "second", "counted", "ours", "theirs", "cell"]
theorem sc_same_rows : FnScope N_same_rows ["cells", "row", "second", "counted"] (defScope s_same_rows) := ⟨rfl, rfl, rfl, by decide +kernel, rfl, by decide +kernel, by decide +kernel⟩
abbrev s_law_same_right : Stmt := topS 31
abbrev N_law_same_right : List Str := ["source", "many", "path", "other_path", "spots", "held", "some", "first", "last", "due", "told", "one", "k", "two"]
theorem sc_law_same_right : FnScope N_law_same_right ["source", "many", "path", "other_path"] (defScope s_law_same_right) := ⟨rfl, rfl, rfl, by decide +kernel, rfl, by decide +kernel, by decide +kernel⟩
abbrev s_law : Stmt := topS 33
abbrev N_law : List Str := ["script", "told", "k", "cell", "source", "turn", "many", "path", "other_path", "kept_here"]
theorem sc_law : FnScope N_law ["script"] (defScope s_law) := ⟨rfl, rfl, rfl, by decide +kernel, rfl, by decide +kernel, by decide +kernel⟩
/-! ### what each def tells of data -/
abbrev m_law_source : Ms := SH.m_law_source
abbrev d_law_source : List D → Option Fr := SH.d_law_source
abbrev m_law_draw : Ms := SH.m_law_draw
abbrev d_law_draw : List D → List D → Option (Fr × List D) := SH.d_law_draw
abbrev m_law_path : Ms := SH.m_law_path
abbrev d_law_path : List D → List D → Option (Fr × List D) := SH.d_law_path
def m_law_mate : Ms := (sSeq (sPar2 4 5 (mCallS SH.d_law_draw (mCons (mVar 0) (mCons (mC (.int 5)) mNil))) (mCallS SH.d_law_draw (mCons (mVar 0) (mCons (mVar 1) mNil)))) (sSeq (sAsg 3 (m2 (im2 fMod) (mCB (imN fInt) (mCons (m2 fAdd (m2 fAdd (mVar 5) (mC (.int 1))) (mCallS SH.d_law_draw (mCons (mVar 0) (mCons (m2 (im2 fSub) (mVar 1) (mC (.int 1))) mNil)))) mNil)) (mVar 1))) (sSeq (sIf (mB (m2 (im2 (bl2 gEq)) (mVar 4) (mC (.int 0)))) (sRet (mCallS SH.d_law_path (mCons (mVar 0) (mCons (mVar 1) (mCons (mC (.int 8)) mNil))))) sNext) (sSeq (sIf (mB (m2 (im2 (bl2 gEq)) (mVar 4) (mC (.int 1)))) (sRet (m2 fAdd (mVar 2) (mSeq false (mCons (mSeq true (mCons (mC (.str (PySem.Str.ofString "swap"))) (mCons (mVar 5) (mCons (mVar 3) mNil)))) (mCons (mSeq true (mCons (mC (.str (PySem.Str.ofString "swap"))) (mCons (mVar 3) (mCons (mVar 5) mNil)))) mNil))))) sNext) (sSeq (sIf (mB (m2 (im2 (bl2 gEq)) (mVar 4) (mC (.int 2)))) (sRet (mRev (mVar 2))) sNext) (sRet (mIf (mB (m2 (im2 (bl2 gEq)) (mVar 4) (mC (.int 3)))) (mSl (mVar 2) mNoPart (mPart (mCallS SH.d_law_draw (mCons (mVar 0) (mCons (m2 fAdd (mCB (imN fLen) (mCons (mVar 2) mNil)) (mC (.int 1))) mNil))))) (m2 fAdd (mVar 2) (mSeq false (mCons (mSeq true (mCons (mC (.str (PySem.Str.ofString "move"))) (mCons (mVar 5) (mCons (mVar 3) mNil)))) mNil))))))))))
abbrev d_law_mate : List D → List D → Option (Fr × List D) := fnS 3 6 m_law_mate
def m_law_behind : Ms := (sSeq (sAsg 2 (mCB fList (mCons (mVar 0) mNil))) (sSeq (sFor (mWalk (mVar 1)) (gmTup 3 (gmCons (gmName 3) (gmCons (gmName 4) (gmCons (gmName 5) gmNil)))) (sSeq (sPar2 6 7 (m2 fIx (mVar 2) (mVar 4)) (m2 fIx (mVar 2) (mVar 5))) (sSeq (sSetL (mVar 6) (mVar 2) (mVar 5)) (sIf (mB (m2 (im2 (bl2 gEq)) (mVar 3) (mC (.str (PySem.Str.ofString "swap"))))) (sSetL (mVar 7) (mVar 2) (mVar 4)) sNext)))) (sRet (mVar 2))))
abbrev d_law_behind : List D → Option Fr := fnV 2 8 m_law_behind
abbrev m_is_integer : Ms := SH.m_is_integer
abbrev d_is_integer : List D → Option Fr := SH.d_is_integer
abbrev m_is_between : Ms := SH.m_is_between
abbrev d_is_between : List D → Option Fr := SH.d_is_between
abbrev m_check_cells : Ms := SH.m_check_cells
abbrev d_check_cells : List D → Option Fr := SH.d_check_cells
abbrev m_is_list_of : Ms := SH.m_is_list_of
abbrev d_is_list_of : List D → Option Fr := SH.d_is_list_of
abbrev m_is_cell : Ms := SH.m_is_cell
abbrev d_is_cell : List D → Option Fr := SH.d_is_cell
abbrev m_is_step : Ms := SH.m_is_step
abbrev d_is_step : List D → Option Fr := SH.d_is_step
abbrev m_check_steps : Ms := SH.m_check_steps
abbrev d_check_steps : List D → Option Fr := SH.d_check_steps
abbrev m_check_row : Ms := SH.m_check_row
abbrev d_check_row : List D → Option Fr := SH.d_check_row
abbrev m_behind_row : Ms := SH.m_behind_row
abbrev d_behind_row : List D → Option Fr := SH.d_behind_row
abbrev m_sources_of : Ms := SH.m_sources_of
abbrev d_sources_of : List D → Option Fr := SH.d_sources_of
abbrev m_turned : Ms := SH.m_turned
abbrev d_turned : List D → Option Fr := SH.d_turned
def m_law_turned_right : Ms := (sSeq (sAsg 2 (mCall d_law_behind (mCons (mLR1 (mVar 0)) (mCons (mVar 1) mNil)))) (sSeq (sAsg 3 (mIf (mB (m2 (im2 (bl2 gEq)) (mCB fSorted (mCons (mVar 2) mNil)) (mLR1 (mVar 0)))) (mLc (mRng rng1 (mCons (mVar 0) mNil)) (gmName 5) mYes (mIndex (mVar 2) (mVar 5)) [5]) (mC .none))) (hsNew 4 (rCons (mCall SH.d_turned (mCons (mVar 0) (mCons (mVar 1) mNil))) (rCons (mCallK SH.d_turned [1, 0] 0 2 mNil (mCons (mVar 1) (mCons (mVar 0) mNil))) rNil)) (hsIf (hTst (hS2 (bl2 gNe) (hSN fRepr (hVar 4)) (hCold (mCB (imN fRepr) (mCons (mSeq false (mCons (mVar 3) (mCons (mVar 3) mNil))) mNil))))) (sRet (mC (.bool false))) (hsIfIn (hCt (mB (m2 (im2 (bl2 gIsNot)) (mVar 3) (mC .none)))) (hsWeak (wsMut 4 0 (wsLeave (sIf (mOr (mB (m2 (im2 (bl2 gNe)) (mLc (mWalk (mVar 3)) (gmName 5) mYes (m2 fIx (mVar 2) (mVar 5)) [5]) (mLR1 (mVar 0)))) (mB (m2 (im2 (bl2 gNe)) (mCall SH.d_turned (mCons (mVar 0) (mCons (mVar 1) mNil))) (mVar 3)))) (sRet (mC (.bool false))) sNext)))) (sRet (mC (.bool true))))) [])))
abbrev d_law_turned_right : List D → Option Fr := fnV 2 6 m_law_turned_right
abbrev m_law_content : Ms := SH.m_law_content
abbrev d_law_content : List D → List D → Option (Fr × List D) := SH.d_law_content
abbrev m_is_cell_list : Ms := SH.m_is_cell_list
abbrev d_is_cell_list : List D → Option Fr := SH.d_is_cell_list
abbrev m_check_counted : Ms := SH.m_check_counted
abbrev d_check_counted : List D → Option Fr := SH.d_check_counted
abbrev m_same_rows : Ms := SH.m_same_rows
abbrev d_same_rows : List D → Option Fr := SH.d_same_rows
def m_law_same_right : Ms := (sSeq (sAsgT (gmLst 2 (gmCons (gmName 7) (gmCons (gmName 8) gmNil))) (mLc (mWalkT (mSeq true (mCons (mVar 2) (mCons (mVar 3) mNil)))) (gmName 11) mYes (mCall d_law_behind (mCons (mLR1 (mVar 1)) (mCons (mVar 11) mNil))) [11])) (sSeq (sAsg 4 (mLc (mRng rng1 (mCons (mVar 1) mNil)) (gmName 12) (mB (m2 (im2 (bl2 gGt)) (mCallS SH.d_law_draw (mCons (mVar 0) (mCons (mC (.int 3)) mNil))) (mC (.int 0)))) (mVar 12) [12])) (sSeq (sAsg 5 (mCallS SH.d_law_content (mCons (mVar 0) (mCons (mVar 1) (mCons (mC (.bool false)) mNil))))) (sSeq (sFor (mWalkT (mSeq true (mCons (mVar 4) (mCons (mLR1 (mVar 1)) (mCons (mSeq false mNil) (mCons (mLc (mRng rng1 (mCons (mVar 1) mNil)) (gmName 12) (mB (m2 (im2 (bl2 gEq)) (m2 fIx (mVar 7) (mVar 12)) (m2 fIx (mVar 8) (mVar 12)))) (mVar 12) [12]) mNil)))))) (gmName 6) (sSeq (sAsg 9 (m2 (im2 (bl2 gEq)) (mLc (mWalk (mVar 6)) (gmName 12) (mB (m2 (im2 (bl2 gNe)) (m2 fIx (mVar 7) (mVar 12)) (m2 fIx (mVar 8) (mVar 12)))) (mVar 12) [12]) (mSeq false mNil))) (sSeq (sAsg 10 (mSeq false (mCons (mCall SH.d_same_rows (mCons (mVar 1) (mCons (mVar 2) (mCons (mVar 3) (mCons (mVar 6) mNil))))) mNil))) (sSeq (sDrop (mApp (mVar 10) (mCallK SH.d_same_rows [3, 2, 1, 0] 0 4 mNil (mCons (mVar 6) (mCons (mVar 3) (mCons (mVar 2) (mCons (mVar 1) mNil))))))) (sSeq (sIf (mB (m2 (im2 (bl2 gNe)) (mCB (imN fRepr) (mCons (m2 fAdd (mVar 10) (mSeq false (mCons (mCall SH.d_same_rows (mCons (mVar 1) (mCons (mVar 3) (mCons (mVar 2) (mCons (mVar 6) mNil))))) mNil))) mNil)) (mCB (imN fRepr) (mCons (m2 fMul (mSeq false (mCons (mVar 9) mNil)) (mC (.int 3))) mNil)))) (sRet (mC (.bool false))) sNext) (sSeq (sPar2 11 13 (mCall d_law_behind (mCons (mVar 5) (mCons (mVar 2) mNil))) (mCall d_law_behind (mCons (mVar 5) (mCons (mVar 3) mNil)))) (sIf (mAnd (mB (mVar 9)) (mB (m2 (im2 (bl2 gNe)) (mLc (mWalk (mVar 6)) (gmName 12) mYes (m2 fIx (mVar 11) (mVar 12)) [12]) (mLc (mWalk (mVar 6)) (gmName 12) mYes (m2 fIx (mVar 13) (mVar 12)) [12])))) (sRet (mC (.bool false))) sNext))))))) (sRet (mC (.bool true)))))))
abbrev d_law_same_right : List D → List D → Option (Fr × List D) := fnS 4 14 m_law_same_right
def m_law : Ms := (sSeq (sFor (mEnum (mCons (mSl (m2 fAdd (mVar 0) (mSeq false (mCons (mC (.int 0)) mNil))) mNoPart (mPart (mCB (imN fMax2) (mCons (mC (.int 1)) (mCons (mCB (imN fMin2) (mCons (mCB (imN fLen) (mCons (mVar 0) mNil)) (mCons (mC (.int 8)) mNil))) mNil))))) mNil)) (gmTup 2 (gmCons (gmName 2) (gmCons (gmName 3) gmNil))) (sSeq (sAsg 4 (mCall SH.d_law_source (mCons (mVar 3) (mCons (mVar 2) mNil)))) (sFor (mRng rng1 (mCons (mC (.int 3)) mNil)) (gmName 5) (sSeq (sAsg 6 (m2 fAdd (mC (.int 2)) (mCallS SH.d_law_draw (mCons (mVar 4) (mCons (mC (.int 6)) mNil))))) (sSeq (sAsg 7 (mCallS SH.d_law_path (mCons (mVar 4) (mCons (mVar 6) (mCons (mC (.int 8)) mNil))))) (sSeq (sAsg 8 (mCallS d_law_mate (mCons (mVar 4) (mCons (mVar 6) (mCons (mVar 7) mNil))))) (sSeq (sAsg 9 (mCB (imN fRepr) (mCons (mSeq false (mCons (mVar 7) (mCons (mVar 8) mNil))) mNil))) (sSeq (sIf (mOr (mNot (mB (mCallS d_law_same_right (mCons (mVar 4) (mCons (mVar 6) (mCons (mVar 7) (mCons (mVar 8) mNil))))))) (mNot (mB (mCall d_law_turned_right (mCons (mVar 6) (mCons (mVar 7) mNil)))))) (sRet (mC (.bool false))) sNext) (sIf (mOr (mNot (mB (mCall d_law_turned_right (mCons (mVar 6) (mCons (mVar 8) mNil))))) (mB (m2 (im2 (bl2 gNe)) (mCB (imN fRepr) (mCons (mSeq false (mCons (mVar 7) (mCons (mVar 8) mNil))) mNil)) (mVar 9)))) (sRet (mC (.bool false))) sNext))))))))) (sSeq (sAsg 1 (mSeq false (mCons (mCall SH.d_turned (mCons (mC (.int 3)) (mCons (mSeq false (mCons (mSeq true (mCons (mC (.str (PySem.Str.ofString "swap"))) (mCons (mC (.int 0)) (mCons (mC (.int 1)) mNil)))) (mCons (mSeq true (mCons (mC (.str (PySem.Str.ofString "swap"))) (mCons (mC (.int 1)) (mCons (mC (.int 2)) mNil)))) mNil))) mNil))) (mCons (mCall SH.d_turned (mCons (mC (.int 2)) (mCons (mSeq false (mCons (mSeq true (mCons (mC (.str (PySem.Str.ofString "move"))) (mCons (mC (.int 0)) (mCons (mC (.int 1)) mNil)))) mNil)) mNil))) (mCons (mCall SH.d_turned (mCons (mC (.int 1)) (mCons (mSeq false mNil) mNil))) mNil))))) (sRet (mBV (mAnd (mB (m2 (im2 (bl2 gEq)) (mVar 1) (mSeq false (mCons (mSeq false (mCons (mC (.int 2)) (mCons (mC (.int 0)) (mCons (mC (.int 1)) mNil)))) (mCons (mC .none) (mCons (mSeq false (mCons (mC (.int 0)) mNil)) mNil)))))) (mB (mCall SH.d_same_rows (mCons (mC (.int 2)) (mCons (mSeq false (mCons (mSeq true (mCons (mC (.str (PySem.Str.ofString "move"))) (mCons (mC (.int 0)) (mCons (mC (.int 1)) mNil)))) mNil)) (mCons (mSeq false mNil) (mCons (mSeq false (mCons (mC (.int 0)) mNil)) mNil)))))))))))
abbrev d_law : List D → Option Fr := fnV 1 10 m_law
/-! ### the top -/
structure Tops (K : PySem.W.Frag) (mg : Str → Option Value) where
  a_law_source : Addr
  f_law_source : FuncData
  F_law_source : Fun K "_law_source" "_law_source" s_law_source a_law_source f_law_source
  g_law_source : mg "_law_source" = some (.ref a_law_source)
  a_law_draw : Addr
  f_law_draw : FuncData
  F_law_draw : Fun K "_law_draw" "_law_draw" s_law_draw a_law_draw f_law_draw
  g_law_draw : mg "_law_draw" = some (.ref a_law_draw)
  a_law_path : Addr
  f_law_path : FuncData
  F_law_path : Fun K "_law_path" "_law_path" s_law_path a_law_path f_law_path
  g_law_path : mg "_law_path" = some (.ref a_law_path)
  a_law_mate : Addr
  f_law_mate : FuncData
  F_law_mate : Fun K "_law_mate" "_law_mate" s_law_mate a_law_mate f_law_mate
  g_law_mate : mg "_law_mate" = some (.ref a_law_mate)
  a_law_behind : Addr
  f_law_behind : FuncData
  F_law_behind : Fun K "_law_behind" "_law_behind" s_law_behind a_law_behind f_law_behind
  g_law_behind : mg "_law_behind" = some (.ref a_law_behind)
  a_is_integer : Addr
  f_is_integer : FuncData
  F_is_integer : Fun K "is_integer" "is_integer" s_is_integer a_is_integer f_is_integer
  g_is_integer : mg "is_integer" = some (.ref a_is_integer)
  a_is_between : Addr
  f_is_between : FuncData
  F_is_between : Fun K "is_between" "is_between" s_is_between a_is_between f_is_between
  g_is_between : mg "is_between" = some (.ref a_is_between)
  a_check_cells : Addr
  f_check_cells : FuncData
  F_check_cells : Fun K "check_cells" "check_cells" s_check_cells a_check_cells f_check_cells
  g_check_cells : mg "check_cells" = some (.ref a_check_cells)
  a_is_list_of : Addr
  f_is_list_of : FuncData
  F_is_list_of : Fun K "is_list_of" "is_list_of" s_is_list_of a_is_list_of f_is_list_of
  g_is_list_of : mg "is_list_of" = some (.ref a_is_list_of)
  a_is_cell : Addr
  f_is_cell : FuncData
  F_is_cell : Fun K "is_cell" "is_cell" s_is_cell a_is_cell f_is_cell
  g_is_cell : mg "is_cell" = some (.ref a_is_cell)
  a_is_step : Addr
  f_is_step : FuncData
  F_is_step : Fun K "is_step" "is_step" s_is_step a_is_step f_is_step
  g_is_step : mg "is_step" = some (.ref a_is_step)
  a_check_steps : Addr
  f_check_steps : FuncData
  F_check_steps : Fun K "check_steps" "check_steps" s_check_steps a_check_steps f_check_steps
  g_check_steps : mg "check_steps" = some (.ref a_check_steps)
  a_check_row : Addr
  f_check_row : FuncData
  F_check_row : Fun K "check_row" "check_row" s_check_row a_check_row f_check_row
  g_check_row : mg "check_row" = some (.ref a_check_row)
  a_behind_row : Addr
  f_behind_row : FuncData
  F_behind_row : Fun K "behind_row" "behind_row" s_behind_row a_behind_row f_behind_row
  g_behind_row : mg "behind_row" = some (.ref a_behind_row)
  a_sources_of : Addr
  f_sources_of : FuncData
  F_sources_of : Fun K "sources_of" "sources_of" s_sources_of a_sources_of f_sources_of
  g_sources_of : mg "sources_of" = some (.ref a_sources_of)
  a_turned : Addr
  f_turned : FuncData
  F_turned : Fun K "turned" "turned" s_turned a_turned f_turned
  g_turned : mg "turned" = some (.ref a_turned)
  a_law_turned_right : Addr
  f_law_turned_right : FuncData
  F_law_turned_right : Fun K "_law_turned_right" "_law_turned_right" s_law_turned_right a_law_turned_right f_law_turned_right
  g_law_turned_right : mg "_law_turned_right" = some (.ref a_law_turned_right)
  a_law_content : Addr
  f_law_content : FuncData
  F_law_content : Fun K "_law_content" "_law_content" s_law_content a_law_content f_law_content
  g_law_content : mg "_law_content" = some (.ref a_law_content)
  a_is_cell_list : Addr
  f_is_cell_list : FuncData
  F_is_cell_list : Fun K "is_cell_list" "is_cell_list" s_is_cell_list a_is_cell_list f_is_cell_list
  g_is_cell_list : mg "is_cell_list" = some (.ref a_is_cell_list)
  a_check_counted : Addr
  f_check_counted : FuncData
  F_check_counted : Fun K "check_counted" "check_counted" s_check_counted a_check_counted f_check_counted
  g_check_counted : mg "check_counted" = some (.ref a_check_counted)
  a_same_rows : Addr
  f_same_rows : FuncData
  F_same_rows : Fun K "same_rows" "same_rows" s_same_rows a_same_rows f_same_rows
  g_same_rows : mg "same_rows" = some (.ref a_same_rows)
  a_law_same_right : Addr
  f_law_same_right : FuncData
  F_law_same_right : Fun K "_law_same_right" "_law_same_right" s_law_same_right a_law_same_right f_law_same_right
  g_law_same_right : mg "_law_same_right" = some (.ref a_law_same_right)
  n_abs : mg "abs" = none
  n_all : mg "all" = none
  n_bool : mg "bool" = none
  n_enumerate : mg "enumerate" = none
  n_int : mg "int" = none
  n_isinstance : mg "isinstance" = none
  n_len : mg "len" = none
  n_list : mg "list" = none
  n_max : mg "max" = none
  n_min : mg "min" = none
  n_range : mg "range" = none
  n_repr : mg "repr" = none
  n_sorted : mg "sorted" = none
  n_tuple : mg "tuple" = none
  t_MOST_CELLS : Tok
  c_MOST_CELLS : mg "MOST_CELLS" = some (.int (60) t_MOST_CELLS)
  t_MOST_STEPS : Tok
  c_MOST_STEPS : mg "MOST_STEPS" = some (.int (200) t_MOST_STEPS)
section
variable {P : Program} {w : World} {K : PySem.W.Frag} {mg : Str → Option Value} {base : Heap}
theorem b_law_source (T : Tops K mg) : Binds K T.f_law_source ["cell", "k"] [] := T.F_law_source.binds fun _ _ _ _ _ _ us hl => match us, hl with | [_, _], _ => rfl
theorem ok_law_source (T : Tops K mg) : FnG P w K mg base CX0 1 T.a_law_source T.f_law_source ["cell", "k"] (spV K 2 d_law_source) :=
  fun_gV (m := m_law_source) (N := N_law_source) (ps := ["cell", "k"]) T.F_law_source sc_law_source (by decide) fun cdv A up s H E hG hr => ⟨_, (pss_cons (ps_set (i := 2) sc_law_source.nd rfl (Or.inl rfl) (pe_callB c_abs (by rfl) T.n_abs bb_abs (pa_cons (pv 0) pa_nil)))
  (pss_one (ps_ret (pe_lst (pa_cons (pe_callB (c_max2 rfl) (by rfl) T.n_max bb_max (pa_cons pe_int (pa_cons (pe_op d_sub (pv 2) (pe_op d_pow pe_int pe_int)) pa_nil))) (pa_cons (pe_op d_add (pe_op d_add (pe_op d_mul (pe_op d_mod (pe_callTy c_int (by rfl) T.n_int bb_int (pa_cons (pv 2) pa_nil)) (pe_op d_add (pe_op d_pow pe_int pe_int) pe_int)) pe_int) (pe_op d_mul pe_int (pv 1))) (pe_callTy c_int (by rfl) T.n_int bb_int (pa_cons (pe_cmpR d_lt (pv 0) pe_int (nomark _)) pa_nil))) (pa_cons pe_int pa_nil))))))),
  (ts_seq (ts_asg 2 (te_cb oN (ta_cons (te_var 0) ta_nil)))
  (ts_ret (te_lst (ta_cons (te_cb oN (ta_cons (te_int 0) (ta_cons (te_op o2 (te_var 2) (te_op o2 (te_int 10) (te_int 18))) ta_nil))) (ta_cons (te_op m_add (te_op m_add (te_op m_mul (te_op o2 (te_cb oN (ta_cons (te_var 2) ta_nil)) (te_op m_add (te_op o2 (te_int 10) (te_int 44)) (te_int 31))) (te_int 97)) (te_op m_mul (te_int 2) (te_var 1))) (te_cb oN (ta_cons (te_op o2 (te_var 0) (te_int 0)) ta_nil))) (ta_cons (te_int 0) ta_nil))))))⟩
theorem b_law_draw (T : Tops K mg) : Binds K T.f_law_draw ["source", "count"] [] := T.F_law_draw.binds fun _ _ _ _ _ _ us hl => match us, hl with | [_, _], _ => rfl
theorem ok_law_draw (T : Tops K mg) : FnG P w K mg base CX0 1 T.a_law_draw T.f_law_draw ["source", "count"] (spS K 2 d_law_draw) :=
  fun_gS (m := m_law_draw) (N := N_law_draw) (ps := ["source", "count"]) T.F_law_draw sc_law_draw (by decide) fun cdv A up s H E hG hr => ⟨_, (pss_cons (ps_if (pt_cmpR d_gt (pe_ix ix_seq (pv 0) pe_int (fun _ _ => rfl)) pe_int (nomark _)) (pss_cons (ps_set (i := 3) sc_law_draw.nd rfl (Or.inl rfl) (pe_op d_mod (pe_callTy c_int (by rfl) T.n_int bb_int (pa_cons (pe_ix ix_seq (pv 0) pe_int (fun _ _ => rfl)) pa_nil)) (pv 1)))
  (pss_cons (ps_asg (pe_op d_div (pe_ix ix_seq (pv 0) pe_int (fun _ _ => rfl)) (pv 1)) (pg_sub (pv 0) pe_int set_list))
  (pss_one (ps_ret (pv 3))))) pss_nil)
  (pss_cons (ps_asg (pe_op d_add (pe_ix ix_seq (pv 0) pe_int (fun _ _ => rfl)) pe_int) (pg_sub (pv 0) pe_int set_list))
  (pss_cons (ps_set (i := 2) sc_law_draw.nd rfl (Or.inl rfl) (pe_op d_mod (pe_callTy c_int (by rfl) T.n_int bb_int (pa_cons (pe_op d_pow (pe_op d_add (pe_ix ix_seq (pv 0) pe_int (fun _ _ => rfl)) (pe_op d_mul pe_int (pe_ix ix_seq (pv 0) pe_int (fun _ _ => rfl)))) pe_int) pa_nil)) (pe_op d_add (pe_op d_pow pe_int pe_int) pe_int)))
  (pss_cons (ps_set (i := 2) sc_law_draw.nd rfl (Or.inl rfl) (pe_op d_mod (pe_callTy c_int (by rfl) T.n_int bb_int (pa_cons (pe_op d_pow (pe_op d_add (pe_op d_mul (pv 2) (pe_ix ix_seq (pv 0) pe_int (fun _ _ => rfl))) pe_int) pe_int) pa_nil)) (pe_op d_add (pe_op d_pow pe_int pe_int) pe_int)))
  (pss_one (ps_ret (pe_op d_mod (pe_callTy c_int (by rfl) T.n_int bb_int (pa_cons (pe_op d_div (pv 2) pe_int) pa_nil)) (pv 1)))))))),
  (ts_seq (ts_if (tt_test (te_op o2 (te_op m_ix (te_var 0) (te_int 0)) (te_int 0))) (ts_seq (ts_asg 3 (te_op o2 (te_cb oN (ta_cons (te_op m_ix (te_var 0) (te_int 0)) ta_nil)) (te_var 1)))
  (ts_seq (ts_setL (te_op o2 (te_op m_ix (te_var 0) (te_int 0)) (te_var 1)) (te_var 0) (te_int 0))
  (ts_ret (te_var 3)))) ts_next)
  (ts_seq (ts_setL (te_op m_add (te_op m_ix (te_var 0) (te_int 2)) (te_int 1)) (te_var 0) (te_int 2))
  (ts_seq (ts_asg 2 (te_op o2 (te_cb oN (ta_cons (te_op o2 (te_op m_add (te_op m_ix (te_var 0) (te_int 1)) (te_op m_mul (te_int 900007) (te_op m_ix (te_var 0) (te_int 2)))) (te_int 3)) ta_nil)) (te_op m_add (te_op o2 (te_int 10) (te_int 39)) (te_int 3))))
  (ts_seq (ts_asg 2 (te_op o2 (te_cb oN (ta_cons (te_op o2 (te_op m_add (te_op m_mul (te_var 2) (te_op m_ix (te_var 0) (te_int 2))) (te_int 60013)) (te_int 3)) ta_nil)) (te_op m_add (te_op o2 (te_int 10) (te_int 40)) (te_int 121))))
  (ts_ret (te_op o2 (te_cb oN (ta_cons (te_op o2 (te_var 2) (te_int 104729)) ta_nil)) (te_var 1)))))))⟩
theorem b_law_path (T : Tops K mg) : Binds K T.f_law_path ["source", "many", "most"] [] := T.F_law_path.binds fun _ _ _ _ _ _ us hl => match us, hl with | [_, _, _], _ => rfl
theorem ok_law_path (T : Tops K mg) : FnG P w K mg base CX0 2 T.a_law_path T.f_law_path ["source", "many", "most"] (spS K 3 d_law_path) :=
  fun_gS (m := m_law_path) (N := N_law_path) (ps := ["source", "many", "most"]) T.F_law_path sc_law_path (by decide) fun cdv A up s H E hG hr => ⟨_, (pss_cons (ps_par3 (i := 4) (j := 5) (l := 6) rfl sc_law_path.nd rfl rfl rfl (by decide) (by decide) (by decide) rfl rfl rfl (pa_cons (pe_lst pa_nil) (pa_cons (pe_callG (ok_law_draw T) hG (hr.mono (by decide)) (by rfl) T.g_law_draw T.F_law_draw.kp (b_law_draw T) .nil pass0 (pa_cons (pv 0) (pa_cons pe_int pa_nil))) (pa_cons (pe_callG (ok_law_draw T) hG (hr.mono (by decide)) (by rfl) T.g_law_draw T.F_law_draw.kp (b_law_draw T) .nil pass0 (pa_cons (pv 0) (pa_cons (pv 1) pa_nil))) pa_nil))) (by rfl))
  (pss_cons (ps_for PassesOwn.never rfl (pi_range1 (by rfl) T.n_range (pa_cons (pe_callG (ok_law_draw T) hG (hr.mono (by decide)) (by rfl) T.g_law_draw T.F_law_draw.kp (b_law_draw T) .nil pass0 (pa_cons (pv 0) (pa_cons (pe_op d_add (pv 2) pe_int) pa_nil))) pa_nil)) (pg_name (i := 3) sc_law_path.nd rfl (Or.inl rfl)) (pss_cons (ps_set (i := 7) sc_law_path.nd rfl (Or.inl rfl) (pe_ifExp (pt_cmpR (d_eq hr.units) (pv 5) pe_int (nomark _)) (pv 6) (pe_callG (ok_law_draw T) hG (hr.mono (by decide)) (by rfl) T.g_law_draw T.F_law_draw.kp (b_law_draw T) .nil pass0 (pa_cons (pv 0) (pa_cons (pv 1) pa_nil)))))
  (pss_cons (ps_if (pt_cmpR (d_eq hr.units) (pv 5) pe_int (nomark _)) (pss_one (ps_set (i := 7) sc_law_path.nd rfl (Or.inl rfl) (pe_callG (ok_law_draw T) hG (hr.mono (by decide)) (by rfl) T.g_law_draw T.F_law_draw.kp (b_law_draw T) .nil pass0 (pa_cons (pv 0) (pa_cons (pe_callB (c_min2 rfl) (by rfl) T.n_min bb_min (pa_cons (pv 1) (pa_cons pe_int pa_nil))) pa_nil))))) pss_nil)
  (pss_cons (ps_set (i := 6) sc_law_path.nd rfl (Or.inl rfl) (pe_op d_mod (pe_callTy c_int (by rfl) T.n_int bb_int (pa_cons (pe_op d_add (pe_op d_add (pv 7) pe_int) (pe_callG (ok_law_draw T) hG (hr.mono (by decide)) (by rfl) T.g_law_draw T.F_law_draw.kp (b_law_draw T) .nil pass0 (pa_cons (pv 0) (pa_cons (pe_op d_sub (pv 1) pe_int) pa_nil)))) pa_nil)) (pv 1)))
  (pss_cons (ps_if (pt_cmpR (d_eq hr.units) (pv 5) pe_int (nomark _)) (pss_one (ps_set (i := 6) sc_law_path.nd rfl (Or.inl rfl) (pe_op d_mod (pe_callTy c_int (by rfl) T.n_int bb_int (pa_cons (pe_op d_add (pe_op d_add (pv 7) pe_int) (pe_callG (ok_law_draw T) hG (hr.mono (by decide)) (by rfl) T.g_law_draw T.F_law_draw.kp (b_law_draw T) .nil pass0 (pa_cons (pv 0) (pa_cons (pe_op d_sub (pe_callB (c_min2 rfl) (by rfl) T.n_min bb_min (pa_cons (pv 1) (pa_cons pe_int pa_nil))) pe_int) pa_nil)))) pa_nil)) (pe_callB (c_min2 rfl) (by rfl) T.n_min bb_min (pa_cons (pv 1) (pa_cons pe_int pa_nil)))))) pss_nil)
  (pss_cons (ps_set (i := 8) sc_law_path.nd rfl (Or.inl rfl) (pe_ix ix_seq (pe_lst (pa_cons pe_str (pa_cons pe_str pa_nil))) (pe_callG (ok_law_draw T) hG (hr.mono (by decide)) (by rfl) T.g_law_draw T.F_law_draw.kp (b_law_draw T) .nil pass0 (pa_cons (pv 0) (pa_cons pe_int pa_nil))) (fun _ _ => rfl)))
  (pss_one (ps_expr (pe_bm PySem.F.plainAttrs_list PySem.F.slot_list_append PySem.F.type_list_append mt_append (pv 4) (pa_cons (pe_tup (pa_cons (pe_ix ix_seq (pe_lst (pa_cons (pv 8) (pa_cons (pv 8) (pa_cons (pv 8) (pa_cons pe_str (pa_cons pe_str pa_nil)))))) (pv 5) (fun _ _ => rfl)) (pa_cons (pv 7) (pa_cons (pv 6) pa_nil)))) pa_nil))))))))))
  (pss_one (ps_ret (pv 4))))),
  (ts_seq (ts_par3 (te_lst ta_nil) (te_callS fnS_len (ta_cons (te_var 0) (ta_cons (te_int 5) ta_nil))) (te_callS fnS_len (ta_cons (te_var 0) (ta_cons (te_var 1) ta_nil))))
  (ts_seq (ts_for (it_rng1 (ta_cons (te_callS fnS_len (ta_cons (te_var 0) (ta_cons (te_op m_add (te_var 2) (te_int 1)) ta_nil))) ta_nil)) (tg_name 3) (ts_seq (ts_asg 7 (te_if (tt_test (te_op o2 (te_var 5) (te_int 1))) (te_var 6) (te_callS fnS_len (ta_cons (te_var 0) (ta_cons (te_var 1) ta_nil)))))
  (ts_seq (ts_if (tt_test (te_op o2 (te_var 5) (te_int 2))) (ts_asg 7 (te_callS fnS_len (ta_cons (te_var 0) (ta_cons (te_cb oN (ta_cons (te_var 1) (ta_cons (te_int 3) ta_nil))) ta_nil)))) ts_next)
  (ts_seq (ts_asg 6 (te_op o2 (te_cb oN (ta_cons (te_op m_add (te_op m_add (te_var 7) (te_int 1)) (te_callS fnS_len (ta_cons (te_var 0) (ta_cons (te_op o2 (te_var 1) (te_int 1)) ta_nil)))) ta_nil)) (te_var 1)))
  (ts_seq (ts_if (tt_test (te_op o2 (te_var 5) (te_int 2))) (ts_asg 6 (te_op o2 (te_cb oN (ta_cons (te_op m_add (te_op m_add (te_var 7) (te_int 1)) (te_callS fnS_len (ta_cons (te_var 0) (ta_cons (te_op o2 (te_cb oN (ta_cons (te_var 1) (ta_cons (te_int 3) ta_nil))) (te_int 1)) ta_nil)))) ta_nil)) (te_cb oN (ta_cons (te_var 1) (ta_cons (te_int 3) ta_nil))))) ts_next)
  (ts_seq (ts_asg 8 (te_op m_ix (te_lst (ta_cons (te_str (PySem.Str.ofString "move")) (ta_cons (te_str (PySem.Str.ofString "swap")) ta_nil))) (te_callS fnS_len (ta_cons (te_var 0) (ta_cons (te_int 2) ta_nil)))))
  (ts_drop (te_app (te_var 4) (te_tup (ta_cons (te_op m_ix (te_lst (ta_cons (te_var 8) (ta_cons (te_var 8) (ta_cons (te_var 8) (ta_cons (te_str (PySem.Str.ofString "swap")) (ta_cons (te_str (PySem.Str.ofString "move")) ta_nil)))))) (te_var 5)) (ta_cons (te_var 7) (ta_cons (te_var 6) ta_nil))))))))))))
  (ts_ret (te_var 4))))⟩
theorem b_law_mate (T : Tops K mg) : Binds K T.f_law_mate ["source", "many", "path"] [] := T.F_law_mate.binds fun _ _ _ _ _ _ us hl => match us, hl with | [_, _, _], _ => rfl
theorem ok_law_mate (T : Tops K mg) : FnG P w K mg base CX0 3 T.a_law_mate T.f_law_mate ["source", "many", "path"] (spS K 3 d_law_mate) :=
  fun_gS (m := m_law_mate) (N := N_law_mate) (ps := ["source", "many", "path"]) T.F_law_mate sc_law_mate (by decide) fun cdv A up s H E hG hr => ⟨_, (pss_cons (ps_par (i := 4) (j := 5) rfl sc_law_mate.nd rfl rfl (by decide) rfl rfl (pa_cons (pe_callG (ok_law_draw T) hG (hr.mono (by decide)) (by rfl) T.g_law_draw T.F_law_draw.kp (b_law_draw T) .nil pass0 (pa_cons (pv 0) (pa_cons pe_int pa_nil))) (pa_cons (pe_callG (ok_law_draw T) hG (hr.mono (by decide)) (by rfl) T.g_law_draw T.F_law_draw.kp (b_law_draw T) .nil pass0 (pa_cons (pv 0) (pa_cons (pv 1) pa_nil))) pa_nil)) (by rfl))
  (pss_cons (ps_set (i := 3) sc_law_mate.nd rfl (Or.inl rfl) (pe_op d_mod (pe_callTy c_int (by rfl) T.n_int bb_int (pa_cons (pe_op d_add (pe_op d_add (pv 5) pe_int) (pe_callG (ok_law_draw T) hG (hr.mono (by decide)) (by rfl) T.g_law_draw T.F_law_draw.kp (b_law_draw T) .nil pass0 (pa_cons (pv 0) (pa_cons (pe_op d_sub (pv 1) pe_int) pa_nil)))) pa_nil)) (pv 1)))
  (pss_cons (ps_if (pt_cmpR (d_eq hr.units) (pv 4) pe_int (nomark _)) (pss_one (ps_ret (pe_callG (ok_law_path T) hG (hr.mono (by decide)) (by rfl) T.g_law_path T.F_law_path.kp (b_law_path T) .nil pass0 (pa_cons (pv 0) (pa_cons (pv 1) (pa_cons pe_int pa_nil)))))) pss_nil)
  (pss_cons (ps_if (pt_cmpR (d_eq hr.units) (pv 4) pe_int (nomark _)) (pss_one (ps_ret (pe_op d_add (pv 2) (pe_lst (pa_cons (pe_tup (pa_cons pe_str (pa_cons (pv 5) (pa_cons (pv 3) pa_nil)))) (pa_cons (pe_tup (pa_cons pe_str (pa_cons (pv 3) (pa_cons (pv 5) pa_nil)))) pa_nil)))))) pss_nil)
  (pss_cons (ps_if (pt_cmpR (d_eq hr.units) (pv 4) pe_int (nomark _)) (pss_one (ps_ret (pe_revL (pv 2)))) pss_nil)
  (pss_one (ps_ret (pe_ifExp (pt_cmpR (d_eq hr.units) (pv 4) pe_int (nomark _)) (pe_slice sl_list (pv 2) po_none (po_some (pe_callG (ok_law_draw T) hG (hr.mono (by decide)) (by rfl) T.g_law_draw T.F_law_draw.kp (b_law_draw T) .nil pass0 (pa_cons (pv 0) (pa_cons (pe_op d_add (pe_callB c_len (by rfl) T.n_len bb_len (pa_cons (pv 2) pa_nil)) pe_int) pa_nil))))) (pe_op d_add (pv 2) (pe_lst (pa_cons (pe_tup (pa_cons pe_str (pa_cons (pv 5) (pa_cons (pv 3) pa_nil)))) pa_nil))))))))))),
  (ts_seq (ts_par2 (te_callS fnS_len (ta_cons (te_var 0) (ta_cons (te_int 5) ta_nil))) (te_callS fnS_len (ta_cons (te_var 0) (ta_cons (te_var 1) ta_nil))))
  (ts_seq (ts_asg 3 (te_op o2 (te_cb oN (ta_cons (te_op m_add (te_op m_add (te_var 5) (te_int 1)) (te_callS fnS_len (ta_cons (te_var 0) (ta_cons (te_op o2 (te_var 1) (te_int 1)) ta_nil)))) ta_nil)) (te_var 1)))
  (ts_seq (ts_if (tt_test (te_op o2 (te_var 4) (te_int 0))) (ts_ret (te_callS fnS_len (ta_cons (te_var 0) (ta_cons (te_var 1) (ta_cons (te_int 8) ta_nil))))) ts_next)
  (ts_seq (ts_if (tt_test (te_op o2 (te_var 4) (te_int 1))) (ts_ret (te_op m_add (te_var 2) (te_lst (ta_cons (te_tup (ta_cons (te_str (PySem.Str.ofString "swap")) (ta_cons (te_var 5) (ta_cons (te_var 3) ta_nil)))) (ta_cons (te_tup (ta_cons (te_str (PySem.Str.ofString "swap")) (ta_cons (te_var 3) (ta_cons (te_var 5) ta_nil)))) ta_nil))))) ts_next)
  (ts_seq (ts_if (tt_test (te_op o2 (te_var 4) (te_int 2))) (ts_ret (te_rev (te_var 2))) ts_next)
  (ts_ret (te_if (tt_test (te_op o2 (te_var 4) (te_int 3))) (te_sl (te_var 2) to_none (to_some (te_callS fnS_len (ta_cons (te_var 0) (ta_cons (te_op m_add (te_cb oN (ta_cons (te_var 2) ta_nil)) (te_int 1)) ta_nil))))) (te_op m_add (te_var 2) (te_lst (ta_cons (te_tup (ta_cons (te_str (PySem.Str.ofString "move")) (ta_cons (te_var 5) (ta_cons (te_var 3) ta_nil)))) ta_nil))))))))))⟩
theorem b_law_behind (T : Tops K mg) : Binds K T.f_law_behind ["held", "path"] [] := T.F_law_behind.binds fun _ _ _ _ _ _ us hl => match us, hl with | [_, _], _ => rfl
theorem ok_law_behind (T : Tops K mg) : FnG P w K mg base CX0 1 T.a_law_behind T.f_law_behind ["held", "path"] (spV K 2 d_law_behind) :=
  fun_gV (m := m_law_behind) (N := N_law_behind) (ps := ["held", "path"]) T.F_law_behind sc_law_behind (by decide) fun cdv A up s H E hG hr => ⟨_, (pss_cons (ps_set (i := 2) sc_law_behind.nd rfl (Or.inl rfl) (pe_callTy c_list (by rfl) T.n_list bb_list (pa_cons (pv 0) pa_nil)))
  (pss_cons (ps_for PassesOwn.never rfl (pi_list (pv 1)) (pg_tup rfl (pgs_cons (pg_name (i := 3) sc_law_behind.nd rfl (Or.inl rfl)) (pgs_cons (pg_name (i := 4) sc_law_behind.nd rfl (Or.inl rfl)) (pgs_cons (pg_name (i := 5) sc_law_behind.nd rfl (Or.inl rfl)) pgs_nil)))) (pss_cons (ps_par (i := 6) (j := 7) rfl sc_law_behind.nd rfl rfl (by decide) rfl rfl (pa_cons (pe_ix ix_seq (pv 2) (pv 4) (fun _ _ => rfl)) (pa_cons (pe_ix ix_seq (pv 2) (pv 5) (fun _ _ => rfl)) pa_nil)) (by rfl))
  (pss_cons (ps_asg (pv 6) (pg_sub (pv 2) (pv 5) set_list))
  (pss_one (ps_if (pt_cmpR (d_eq hr.units) (pv 3) pe_str (nomark _)) (pss_one (ps_asg (pv 7) (pg_sub (pv 2) (pv 4) set_list))) pss_nil)))))
  (pss_one (ps_ret (pv 2))))),
  (ts_seq (ts_asg 2 (te_cb m_list (ta_cons (te_var 0) ta_nil)))
  (ts_seq (ts_for (it_list (te_var 1)) (tg_tup (tgs_cons (tg_name 3) (tgs_cons (tg_name 4) (tgs_cons (tg_name 5) tgs_nil)))) (ts_seq (ts_par2 (te_op m_ix (te_var 2) (te_var 4)) (te_op m_ix (te_var 2) (te_var 5)))
  (ts_seq (ts_setL (te_var 6) (te_var 2) (te_var 5))
  (ts_if (tt_test (te_op o2 (te_var 3) (te_str (PySem.Str.ofString "swap")))) (ts_setL (te_var 7) (te_var 2) (te_var 4)) ts_next))))
  (ts_ret (te_var 2))))⟩
theorem b_is_integer (T : Tops K mg) : Binds K T.f_is_integer ["value"] [] := T.F_is_integer.binds fun _ _ _ _ _ _ us hl => match us, hl with | [_], _ => rfl
theorem ok_is_integer (T : Tops K mg) : FnG P w K mg base CX0 1 T.a_is_integer T.f_is_integer ["value"] (spV K 1 d_is_integer) :=
  fun_gV (m := m_is_integer) (N := N_is_integer) (ps := ["value"]) T.F_is_integer sc_is_integer (by decide) fun cdv A up s H E hG hr => ⟨_, (pss_one (ps_ret (pe_and (pe_callB call_isi (by rfl) T.n_isinstance bb_isinstance (pa_cons (pv 0) (pa_cons (pe_bltn (v := .ty "int") (by rfl) T.n_int bb_int rfl) pa_nil))) (pe_one (pe_not (pe_callB call_isi (by rfl) T.n_isinstance bb_isinstance (pa_cons (pv 0) (pa_cons (pe_bltn (v := .ty "bool") (by rfl) T.n_bool bb_bool rfl) pa_nil)))))))),
  (ts_ret (te_andV (te_isi "int" (te_var 0)) (te_notV (te_isi "bool" (te_var 0)))))⟩
theorem b_is_between (T : Tops K mg) : Binds K T.f_is_between ["value", "least", "greatest"] [] := T.F_is_between.binds fun _ _ _ _ _ _ us hl => match us, hl with | [_, _, _], _ => rfl
theorem ok_is_between (T : Tops K mg) : FnG P w K mg base CX0 2 T.a_is_between T.f_is_between ["value", "least", "greatest"] (spV K 3 d_is_between) :=
  fun_gV (m := m_is_between) (N := N_is_between) (ps := ["value", "least", "greatest"]) T.F_is_between sc_is_between (by decide) fun cdv A up s H E hG hr => ⟨_, (pss_one (ps_ret (pe_and (pe_callG (ok_is_integer T) hG (hr.mono (by decide)) (by rfl) T.g_is_integer T.F_is_integer.kp (b_is_integer T) .nil pass0 (pa_cons (pv 0) pa_nil)) (pe_one (pe_chain d_le d_le (pv 1) (pv 0) (pv 2)))))),
  (ts_ret (te_andV (te_call fnV_len (ta_cons (te_var 0) ta_nil)) (te_chain oB oB (te_var 1) (te_var 0) (te_var 2))))⟩
theorem b_check_cells (T : Tops K mg) : Binds K T.f_check_cells ["cells"] [] := T.F_check_cells.binds fun _ _ _ _ _ _ us hl => match us, hl with | [_], _ => rfl
theorem ok_check_cells (T : Tops K mg) : FnG P w K mg base CX0 3 T.a_check_cells T.f_check_cells ["cells"] (spV K 1 d_check_cells) :=
  fun_gV (m := m_check_cells) (N := N_check_cells) (ps := ["cells"]) T.F_check_cells sc_check_cells (by decide) fun cdv A up s H E hG hr => ⟨_, (pss_one (ps_if (pt_not (pt_val (pe_callG (ok_is_between T) hG (hr.mono (by decide)) (by rfl) T.g_is_between T.F_is_between.kp (b_is_between T) .nil pass0 (pa_cons (pv 0) (pa_cons pe_int (pa_cons (pe_glob (v := .int (60)) rfl T.c_MOST_CELLS ⟨_, rfl⟩) pa_nil)))))) (pss_one ps_never) pss_nil)),
  (ts_if (tt_not (tt_b (te_call fnV_len (ta_cons (te_var 0) (ta_cons (te_int 1) (ta_cons (te_int (60)) ta_nil)))))) ts_never ts_next)⟩
theorem b_is_list_of (T : Tops K mg) : Binds K T.f_is_list_of ["value", "fewest", "most"] [] := T.F_is_list_of.binds fun _ _ _ _ _ _ us hl => match us, hl with | [_, _, _], _ => rfl
theorem ok_is_list_of (T : Tops K mg) : FnG P w K mg base CX0 1 T.a_is_list_of T.f_is_list_of ["value", "fewest", "most"] (spV K 3 d_is_list_of) :=
  fun_gV (m := m_is_list_of) (N := N_is_list_of) (ps := ["value", "fewest", "most"]) T.F_is_list_of sc_is_list_of (by decide) fun cdv A up s H E hG hr => ⟨_, (pss_one (ps_ret (pe_and (pe_callB call_isi (by rfl) T.n_isinstance bb_isinstance (pa_cons (pv 0) (pa_cons (pe_bltn (v := .ty "list") (by rfl) T.n_list bb_list rfl) pa_nil))) (pe_one (pe_chain d_le d_le (pv 1) (pe_callB c_len (by rfl) T.n_len bb_len (pa_cons (pv 0) pa_nil)) (pv 2)))))),
  (ts_ret (te_andV (te_isi "list" (te_var 0)) (te_chain oB oB (te_var 1) (te_cb oN (ta_cons (te_var 0) ta_nil)) (te_var 2))))⟩
theorem b_is_cell (T : Tops K mg) : Binds K T.f_is_cell ["cells", "item"] [] := T.F_is_cell.binds fun _ _ _ _ _ _ us hl => match us, hl with | [_, _], _ => rfl
theorem ok_is_cell (T : Tops K mg) : FnG P w K mg base CX0 3 T.a_is_cell T.f_is_cell ["cells", "item"] (spV K 2 d_is_cell) :=
  fun_gV (m := m_is_cell) (N := N_is_cell) (ps := ["cells", "item"]) T.F_is_cell sc_is_cell (by decide) fun cdv A up s H E hG hr => ⟨_, (pss_one (ps_ret (pe_callG (ok_is_between T) hG (hr.mono (by decide)) (by rfl) T.g_is_between T.F_is_between.kp (b_is_between T) .nil pass0 (pa_cons (pv 1) (pa_cons pe_int (pa_cons (pe_op d_sub (pv 0) pe_int) pa_nil)))))),
  (ts_ret (te_call fnV_len (ta_cons (te_var 1) (ta_cons (te_int 0) (ta_cons (te_op o2 (te_var 0) (te_int 1)) ta_nil)))))⟩
theorem b_is_step (T : Tops K mg) : Binds K T.f_is_step ["cells", "item"] [] := T.F_is_step.binds fun _ _ _ _ _ _ us hl => match us, hl with | [_, _], _ => rfl
theorem ok_is_step (T : Tops K mg) : FnG P w K mg base CX0 4 T.a_is_step T.f_is_step ["cells", "item"] (spV K 2 d_is_step) :=
  fun_gV (m := m_is_step) (N := N_is_step) (ps := ["cells", "item"]) T.F_is_step sc_is_step (by decide) fun cdv A up s H E hG hr => ⟨_, (pss_cons (ps_if (PW.pt (pw_or (pt_not (pt_val (pe_callB call_isi (by rfl) T.n_isinstance bb_isinstance (pa_cons (pv 1) (pa_cons (pe_bltn (v := .ty "tuple") (by rfl) T.n_tuple bb_tuple rfl) pa_nil))))) (pw_or1 (pt_cmpR (d_ne hr.units) (pe_callB c_len (by rfl) T.n_len bb_len (pa_cons (pv 1) pa_nil)) pe_int (nomark _))))) (pss_one (ps_ret pe_bl)) pss_nil)
  (pss_cons (ps_asg (pv 1) (pg_tup rfl (pgs_cons (pg_name (i := 2) sc_is_step.nd rfl (Or.inl rfl)) (pgs_cons (pg_name (i := 3) sc_is_step.nd rfl (Or.inl rfl)) (pgs_cons (pg_name (i := 4) sc_is_step.nd rfl (Or.inl rfl)) pgs_nil)))))
  (pss_one (ps_ret (pe_and (pe_cmpR (d_in (room65 hr)) (pv 2) (pe_tup (pa_cons pe_str (pa_cons pe_str pa_nil))) rfl) (pe_and (pe_callG (ok_is_cell T) hG (hr.mono (by decide)) (by rfl) T.g_is_cell T.F_is_cell.kp (b_is_cell T) .nil pass0 (pa_cons (pv 0) (pa_cons (pv 3) pa_nil))) (pe_and (pe_callG (ok_is_cell T) hG (hr.mono (by decide)) (by rfl) T.g_is_cell T.F_is_cell.kp (b_is_cell T) .nil pass0 (pa_cons (pv 0) (pa_cons (pv 4) pa_nil))) (pe_one (pe_cmpR (d_ne hr.units) (pv 3) (pv 4) (nomark _)))))))))),
  (ts_seq (ts_if (tt_or (tt_not (tt_b (te_isi "tuple" (te_var 1)))) (tt_test (te_op o2 (te_cb oN (ta_cons (te_var 1) ta_nil)) (te_int 3)))) (ts_ret (te_bl false)) ts_next)
  (ts_seq (ts_asgT (te_var 1) (tg_tup (tgs_cons (tg_name 2) (tgs_cons (tg_name 3) (tgs_cons (tg_name 4) tgs_nil)))))
  (ts_ret (te_andV (te_op o2 (te_var 2) (te_tup (ta_cons (te_str (PySem.Str.ofString "move")) (ta_cons (te_str (PySem.Str.ofString "swap")) ta_nil)))) (te_andV (te_call fnV_len (ta_cons (te_var 0) (ta_cons (te_var 3) ta_nil))) (te_andV (te_call fnV_len (ta_cons (te_var 0) (ta_cons (te_var 4) ta_nil))) (te_op o2 (te_var 3) (te_var 4))))))))⟩
theorem b_check_steps (T : Tops K mg) : Binds K T.f_check_steps ["cells", "steps"] [] := T.F_check_steps.binds fun _ _ _ _ _ _ us hl => match us, hl with | [_, _], _ => rfl
theorem ok_check_steps (T : Tops K mg) : FnG P w K mg base CX0 5 T.a_check_steps T.f_check_steps ["cells", "steps"] (spV K 2 d_check_steps) :=
  fun_gV (m := m_check_steps) (N := N_check_steps) (ps := ["cells", "steps"]) T.F_check_steps sc_check_steps (by decide) fun cdv A up s H E hG hr => ⟨_, (pss_one (ps_for PassesOwn.never rfl (pi_enum (by rfl) T.n_enumerate (pa_cons (pv 1) pa_nil)) (pg_tup rfl (pgs_cons (pg_name (i := 2) sc_check_steps.nd rfl (Or.inl rfl)) (pgs_cons (pg_name (i := 3) sc_check_steps.nd rfl (Or.inl rfl)) pgs_nil))) (pss_one (ps_if (pt_not (pt_val (pe_callG (ok_is_step T) hG (hr.mono (by decide)) (by rfl) T.g_is_step T.F_is_step.kp (b_is_step T) .nil pass0 (pa_cons (pv 0) (pa_cons (pv 3) pa_nil))))) (pss_one ps_never) pss_nil)))),
  (ts_for (it_enum (ta_cons (te_var 1) ta_nil)) (tg_tup (tgs_cons (tg_name 2) (tgs_cons (tg_name 3) tgs_nil))) (ts_if (tt_not (tt_b (te_call fnV_len (ta_cons (te_var 0) (ta_cons (te_var 3) ta_nil))))) ts_never ts_next))⟩
theorem b_check_row (T : Tops K mg) : Binds K T.f_check_row ["cells", "row"] [] := T.F_check_row.binds fun _ _ _ _ _ _ us hl => match us, hl with | [_, _], _ => rfl
theorem ok_check_row (T : Tops K mg) : FnG P w K mg base CX0 6 T.a_check_row T.f_check_row ["cells", "row"] (spV K 2 d_check_row) :=
  fun_gV (m := m_check_row) (N := N_check_row) (ps := ["cells", "row"]) T.F_check_row sc_check_row (by decide) fun cdv A up s H E hG hr => ⟨_, (pss_cons (ps_if (pt_not (pt_val (pe_callG (ok_is_list_of T) hG (hr.mono (by decide)) (by rfl) T.g_is_list_of T.F_is_list_of.kp (b_is_list_of T) .nil pass0 (pa_cons (pv 1) (pa_cons pe_int (pa_cons (pe_glob (v := .int (200)) rfl T.c_MOST_STEPS ⟨_, rfl⟩) pa_nil)))))) (pss_one ps_never) pss_nil)
  (pss_one (ps_expr (pe_callG (ok_check_steps T) hG (hr.mono (by decide)) (by rfl) T.g_check_steps T.F_check_steps.kp (b_check_steps T) .nil pass0 (pa_cons (pv 0) (pa_cons (pv 1) pa_nil)))))),
  (ts_seq (ts_if (tt_not (tt_b (te_call fnV_len (ta_cons (te_var 1) (ta_cons (te_int 0) (ta_cons (te_int (200)) ta_nil)))))) ts_never ts_next)
  (ts_drop (te_call fnV_len (ta_cons (te_var 0) (ta_cons (te_var 1) ta_nil)))))⟩
theorem b_behind_row (T : Tops K mg) : Binds K T.f_behind_row ["held", "row"] [] := T.F_behind_row.binds fun _ _ _ _ _ _ us hl => match us, hl with | [_, _], _ => rfl
theorem ok_behind_row (T : Tops K mg) : FnG P w K mg base CX0 1 T.a_behind_row T.f_behind_row ["held", "row"] (spV K 2 d_behind_row) :=
  fun_gV (m := m_behind_row) (N := N_behind_row) (ps := ["held", "row"]) T.F_behind_row sc_behind_row (by decide) fun cdv A up s H E hG hr => ⟨_, (pss_cons (ps_set (i := 2) sc_behind_row.nd rfl (Or.inl rfl) (pe_callTy c_list (by rfl) T.n_list bb_list (pa_cons (pv 0) pa_nil)))
  (pss_cons (ps_for PassesOwn.never rfl (pi_list (pv 1)) (pg_tup rfl (pgs_cons (pg_name (i := 3) sc_behind_row.nd rfl (Or.inl rfl)) (pgs_cons (pg_name (i := 4) sc_behind_row.nd rfl (Or.inl rfl)) (pgs_cons (pg_name (i := 5) sc_behind_row.nd rfl (Or.inl rfl)) pgs_nil)))) (pss_one (ps_if (pt_cmpR (d_eq hr.units) (pv 3) pe_str (nomark _)) (pss_one (ps_asg (pe_ix ix_seq (pv 2) (pv 4) (fun _ _ => rfl)) (pg_sub (pv 2) (pv 5) set_list))) (pss_one (ps_asg (pe_tup (pa_cons (pe_ix ix_seq (pv 2) (pv 5) (fun _ _ => rfl)) (pa_cons (pe_ix ix_seq (pv 2) (pv 4) (fun _ _ => rfl)) pa_nil))) (pg_tup rfl (pgs_cons (pg_sub (pv 2) (pv 4) set_list) (pgs_cons (pg_sub (pv 2) (pv 5) set_list) pgs_nil))))))))
  (pss_one (ps_ret (pv 2))))),
  (ts_seq (ts_asg 2 (te_cb m_list (ta_cons (te_var 0) ta_nil)))
  (ts_seq (ts_for (it_list (te_var 1)) (tg_tup (tgs_cons (tg_name 3) (tgs_cons (tg_name 4) (tgs_cons (tg_name 5) tgs_nil)))) (ts_if (tt_test (te_op o2 (te_var 3) (te_str (PySem.Str.ofString "move")))) (ts_setL (te_op m_ix (te_var 2) (te_var 4)) (te_var 2) (te_var 5)) (ts_asgTwo (te_tup (ta_cons (te_op m_ix (te_var 2) (te_var 5)) (ta_cons (te_op m_ix (te_var 2) (te_var 4)) ta_nil))) (th_sub (te_var 2) (te_var 4)) (th_sub (te_var 2) (te_var 5)))))
  (ts_ret (te_var 2))))⟩
theorem b_sources_of (T : Tops K mg) : Binds K T.f_sources_of ["cells", "row"] [] := T.F_sources_of.binds fun _ _ _ _ _ _ us hl => match us, hl with | [_, _], _ => rfl
theorem ok_sources_of (T : Tops K mg) : FnG P w K mg base CX0 7 T.a_sources_of T.f_sources_of ["cells", "row"] (spV K 2 d_sources_of) :=
  fun_gV (m := m_sources_of) (N := N_sources_of) (ps := ["cells", "row"]) T.F_sources_of sc_sources_of (by decide) fun cdv A up s H E hG hr => ⟨_, (pss_cons (ps_expr (pe_callG (ok_check_cells T) hG (hr.mono (by decide)) (by rfl) T.g_check_cells T.F_check_cells.kp (b_check_cells T) .nil pass0 (pa_cons (pv 0) pa_nil)))
  (pss_cons (ps_expr (pe_callG (ok_check_row T) hG (hr.mono (by decide)) (by rfl) T.g_check_row T.F_check_row.kp (b_check_row T) .nil pass0 (pa_cons (pv 0) (pa_cons (pv 1) pa_nil))))
  (pss_one (ps_ret (pe_callG (ok_behind_row T) hG (hr.mono (by decide)) (by rfl) T.g_behind_row T.F_behind_row.kp (b_behind_row T) .nil pass0 (pa_cons (pe_listRg rfl (by rfl) T.n_list (prg_1 (by rfl) T.n_range (pv 0))) (pa_cons (pv 1) pa_nil))))))),
  (ts_seq (ts_drop (te_call fnV_len (ta_cons (te_var 0) ta_nil)))
  (ts_seq (ts_drop (te_call fnV_len (ta_cons (te_var 0) (ta_cons (te_var 1) ta_nil))))
  (ts_ret (te_call fnV_len (ta_cons (te_lr1 (te_var 0)) (ta_cons (te_var 1) ta_nil))))))⟩
theorem b_turned (T : Tops K mg) : Binds K T.f_turned ["cells", "row"] [] := T.F_turned.binds fun _ _ _ _ _ _ us hl => match us, hl with | [_, _], _ => rfl
theorem kb_turned_0_row_cells (T : Tops K mg) : KBinds K T.f_turned ["cells", "row"] ["row", "cells"] (permU [1, 0] 0 2) (permV [1, 0] 0 2) := fun_kb (ks := ["row", "cells"]) (π := [1, 0]) (n := 0) T.F_turned (by decide) fun _ _ _ _ _ _ us ws h1 h2 => match us, ws, h1, h2 with | [], [_, _], _, _ => rfl
theorem ok_turned (T : Tops K mg) : FnG P w K mg base CX0 8 T.a_turned T.f_turned ["cells", "row"] (spV K 2 d_turned) :=
  fun_gV (m := m_turned) (N := N_turned) (ps := ["cells", "row"]) T.F_turned sc_turned (by decide) fun cdv A up s H E hG hr => ⟨_, (pss_cons (ps_set (i := 2) sc_turned.nd rfl (Or.inr rfl) (pe_callG (ok_sources_of T) hG (hr.mono (by decide)) (by rfl) T.g_sources_of T.F_sources_of.kp (b_sources_of T) .nil pass0 (pa_cons (pv 0) (pa_cons (pv 1) pa_nil))))
  (pss_cons (ps_if (pt_cmpR (d_ne hr.units) (pe_callB cr_sortedI (by rfl) T.n_sorted bb_sorted (pa_cons (pv 2) pa_nil)) (pe_listRg rfl (by rfl) T.n_list (prg_1 (by rfl) T.n_range (pv 0))) (nomark _)) (pss_one (ps_ret pe_non)) pss_nil)
  (pss_one (ps_ret (pe_lc (own := [("cell", 3)]) rfl sc_turned.nd (pi_range1 (by rfl) T.n_range (pa_cons (pv 0) pa_nil)) (blkOk_by (own := [("cell", 3)]) (N := N_turned) (sc := defScope s_turned) (by decide +kernel)) (fun _ _ _ _ _ => (pg_name (i := 3) sc_turned.nd rfl (Or.inl rfl))) (fun _ _ _ _ _ => pts_nil) (fun _ _ _ _ _ => (pe_bm PySem.F.plainAttrs_list PySem.F.slot_list_index PySem.F.type_list_index (mt_indexD (room65 hr)) (pv 2) (pa_cons (pv 3) pa_nil)))))))),
  (ts_seq (ts_asg 2 (te_call fnV_len (ta_cons (te_var 0) (ta_cons (te_var 1) ta_nil))))
  (ts_seq (ts_if (tt_test (te_op o2 (te_cb m_sorted (ta_cons (te_var 2) ta_nil)) (te_lr1 (te_var 0)))) (ts_ret te_non) ts_next)
  (ts_ret (te_lc (it_rng1 (ta_cons (te_var 0) ta_nil)) (tg_name 3) tt_yes (te_index (te_var 2) (te_var 3)) (by decide)))))⟩
theorem b_law_turned_right (T : Tops K mg) : Binds K T.f_law_turned_right ["many", "path"] [] := T.F_law_turned_right.binds fun _ _ _ _ _ _ us hl => match us, hl with | [_, _], _ => rfl
theorem ok_law_turned_right (T : Tops K mg) : FnG P w K mg base CX0 9 T.a_law_turned_right T.f_law_turned_right ["many", "path"] (spV K 2 d_law_turned_right) :=
  fun_gV (m := m_law_turned_right) (N := N_law_turned_right) (ps := ["many", "path"]) T.F_law_turned_right sc_law_turned_right (by decide) fun cdv A up s H E hG hr => ⟨_, (pss_cons (ps_set (i := 2) sc_law_turned_right.nd rfl (Or.inr rfl) (pe_callG (ok_law_behind T) hG (hr.mono (by decide)) (by rfl) T.g_law_behind T.F_law_behind.kp (b_law_behind T) .nil pass0 (pa_cons (pe_listRg rfl (by rfl) T.n_list (prg_1 (by rfl) T.n_range (pv 0))) (pa_cons (pv 1) pa_nil))))
  (pss_cons (ps_set (i := 3) sc_law_turned_right.nd rfl (Or.inl rfl) (pe_ifExp (pt_cmpR (d_eq hr.units) (pe_callB cr_sortedI (by rfl) T.n_sorted bb_sorted (pa_cons (pv 2) pa_nil)) (pe_listRg rfl (by rfl) T.n_list (prg_1 (by rfl) T.n_range (pv 0))) (nomark _)) (pe_lc (own := [("k", 5)]) rfl sc_law_turned_right.nd (pi_range1 (by rfl) T.n_range (pa_cons (pv 0) pa_nil)) (blkOk_by (own := [("k", 5)]) (N := N_law_turned_right) (sc := defScope s_law_turned_right) (by decide +kernel)) (fun _ _ _ _ _ => (pg_name (i := 5) sc_law_turned_right.nd rfl (Or.inl rfl))) (fun _ _ _ _ _ => pts_nil) (fun _ _ _ _ _ => (pe_bm PySem.F.plainAttrs_list PySem.F.slot_list_index PySem.F.type_list_index (mt_indexD (room65 hr)) (pv 2) (pa_cons (pv 5) pa_nil)))) pe_non))
  (pss_cons (ps_set (i := 4) sc_law_turned_right.nd rfl (Or.inl rfl) (pe_lst (pa_cons (pe_callG (ok_turned T) hG (hr.mono (by decide)) (by rfl) T.g_turned T.F_turned.kp (b_turned T) .nil pass0 (pa_cons (pv 0) (pa_cons (pv 1) pa_nil))) (pa_cons (pe_callGK0 (ok_turned T) hG (hr.mono (by decide)) (by rfl) T.g_turned T.F_turned.kp (kb_turned_0_row_cells T) pass0 (pk_cons (pv 1) (pk_cons (pv 0) pk_nil))) pa_nil))))
  (pss_cons (ps_if (pt_cmpR (d_ne hr.units) (pe_callB (c_repr hG hr.units) (by rfl) T.n_repr bb_repr (pa_cons (pv 4) pa_nil)) (pe_callB (c_repr hG hr.units) (by rfl) T.n_repr bb_repr (pa_cons (pe_lst (pa_cons (pv 3) (pa_cons (pv 3) pa_nil))) pa_nil)) (nomark _)) (pss_one (ps_ret pe_bl)) pss_nil)
  (pss_cons (ps_if (pt_cmpR d_isnot (pv 3) pe_non (nomark _)) (pss_cons (ps_expr (pe_bm PySem.F.plainAttrs_list PySem.F.slot_list_append PySem.F.type_list_append mt_append (pe_ix ix_seq (pv 4) pe_int (fun _ _ => rfl)) (pa_cons pe_int pa_nil)))
  (pss_one (ps_if (PW.pt (pw_or (pt_cmpR (d_ne hr.units) (pe_lc (own := [("k", 5)]) rfl sc_law_turned_right.nd (pi_list (pv 3)) (blkOk_by (own := [("k", 5)]) (N := N_law_turned_right) (sc := defScope s_law_turned_right) (by decide +kernel)) (fun _ _ _ _ _ => (pg_name (i := 5) sc_law_turned_right.nd rfl (Or.inl rfl))) (fun _ _ _ _ _ => pts_nil) (fun _ _ _ _ _ => (pe_ix ix_seq (pv 2) (pv 5) (fun _ _ => rfl)))) (pe_listRg rfl (by rfl) T.n_list (prg_1 (by rfl) T.n_range (pv 0))) (nomark _)) (pw_or1 (pt_cmpR (d_ne hr.units) (pe_callG (ok_turned T) hG (hr.mono (by decide)) (by rfl) T.g_turned T.F_turned.kp (b_turned T) .nil pass0 (pa_cons (pv 0) (pa_cons (pv 1) pa_nil))) (pv 3) (nomark _))))) (pss_one (ps_ret pe_bl)) pss_nil))) pss_nil)
  (pss_one (ps_ret pe_bl))))))),
  (ts_seq (ts_asg 2 (te_call fnV_len (ta_cons (te_lr1 (te_var 0)) (ta_cons (te_var 1) ta_nil))))
  (ts_seq (ts_asg 3 (te_if (tt_test (te_op o2 (te_cb m_sorted (ta_cons (te_var 2) ta_nil)) (te_lr1 (te_var 0)))) (te_lc (it_rng1 (ta_cons (te_var 0) ta_nil)) (tg_name 5) tt_yes (te_index (te_var 2) (te_var 5)) (by decide)) te_non))
  (ts_hot (tsh_new 4 (tar_cons (te_call fnV_len (ta_cons (te_var 0) (ta_cons (te_var 1) ta_nil))) (tar_cons (te_callK (π := [1, 0]) fnV_len ta_nil (ta_cons (te_var 1) (ta_cons (te_var 0) ta_nil))) tar_nil))
  (tsh_if (tth_test (th_s2H (th_snH (th_varH 4)) (th_coldH (te_cb oN (ta_cons (te_lst (ta_cons (te_var 3) (ta_cons (te_var 3) ta_nil))) ta_nil))))) (ts_ret (te_bl false))
  (tsh_ifIn (tth_cold (tt_test (te_op o2 (te_var 3) te_non))) (tsh_weak (tsw_mut (j := 4) (k := 0)
  (tsw_leave (ts_if (tt_or (tt_test (te_op o2 (te_lc (it_list (te_var 3)) (tg_name 5) tt_yes (te_op m_ix (te_var 2) (te_var 5)) (by decide)) (te_lr1 (te_var 0)))) (tt_test (te_op o2 (te_call fnV_len (ta_cons (te_var 0) (ta_cons (te_var 1) ta_nil))) (te_var 3)))) (ts_ret (te_bl false)) ts_next))))
  (ts_ret (te_bl true))))))))⟩
theorem b_law_content (T : Tops K mg) : Binds K T.f_law_content ["source", "many", "wide"] [] := T.F_law_content.binds fun _ _ _ _ _ _ us hl => match us, hl with | [_, _, _], _ => rfl
theorem ok_law_content (T : Tops K mg) : FnG P w K mg base CX0 2 T.a_law_content T.f_law_content ["source", "many", "wide"] (spS K 3 d_law_content) :=
  fun_gS (m := m_law_content) (N := N_law_content) (ps := ["source", "many", "wide"]) T.F_law_content sc_law_content (by decide) fun cdv A up s H E hG hr => ⟨_, (pss_cons (ps_par (i := 4) (j := 5) rfl sc_law_content.nd rfl rfl (by decide) rfl rfl (pa_cons (pe_callG (ok_law_draw T) hG (hr.mono (by decide)) (by rfl) T.g_law_draw T.F_law_draw.kp (b_law_draw T) .nil pass0 (pa_cons (pv 0) (pa_cons pe_int pa_nil))) (pa_cons (pe_lst pa_nil) pa_nil)) (by rfl))
  (pss_cons (ps_for PassesOwn.never rfl (pi_range1 (by rfl) T.n_range (pa_cons (pv 1) pa_nil)) (pg_name (i := 3) sc_law_content.nd rfl (Or.inl rfl)) (pss_cons (ps_set (i := 6) sc_law_content.nd rfl (Or.inl rfl) (pe_ifExp (pt_val (pv 2)) (pe_op d_sub (pe_callG (ok_law_draw T) hG (hr.mono (by decide)) (by rfl) T.g_law_draw T.F_law_draw.kp (b_law_draw T) .nil pass0 (pa_cons (pv 0) (pa_cons (pe_op d_add (pe_op d_mul pe_int (pe_op d_pow pe_int pe_int)) pe_int) pa_nil))) (pe_op d_pow pe_int pe_int)) (pe_callG (ok_law_draw T) hG (hr.mono (by decide)) (by rfl) T.g_law_draw T.F_law_draw.kp (b_law_draw T) .nil pass0 (pa_cons (pv 0) (pa_cons pe_int pa_nil)))))
  (pss_one (ps_expr (pe_bm PySem.F.plainAttrs_list PySem.F.slot_list_append PySem.F.type_list_append mt_append (pv 5) (pa_cons (pe_ix ix_seq (pe_lst (pa_cons (pv 6) (pa_cons (pe_callG (ok_law_draw T) hG (hr.mono (by decide)) (by rfl) T.g_law_draw T.F_law_draw.kp (b_law_draw T) .nil pass0 (pa_cons (pv 0) (pa_cons (pe_op d_add pe_int (pe_op d_div (pv 1) pe_int)) pa_nil))) (pa_cons (pe_op d_add (pv 3) pe_int) (pa_cons (pe_op d_sub (pe_op d_add (pv 3) pe_int) (pe_op d_mul pe_int (pe_callTy c_int (by rfl) T.n_int bb_int (pa_cons (pe_cmpR (d_eq hr.units) (pv 3) (pe_op d_sub (pv 1) pe_int) (nomark _)) pa_nil)))) pa_nil))))) (pv 4) (fun _ _ => rfl)) pa_nil))))))
  (pss_one (ps_ret (pv 5))))),
  (ts_seq (ts_par2 (te_callS fnS_len (ta_cons (te_var 0) (ta_cons (te_int 4) ta_nil))) (te_lst ta_nil))
  (ts_seq (ts_for (it_rng1 (ta_cons (te_var 1) ta_nil)) (tg_name 3) (ts_seq (ts_asg 6 (te_if (tt_b (te_var 2)) (te_op o2 (te_callS fnS_len (ta_cons (te_var 0) (ta_cons (te_op m_add (te_op m_mul (te_int 2) (te_op o2 (te_int 10) (te_int 30))) (te_int 1)) ta_nil))) (te_op o2 (te_int 10) (te_int 30))) (te_callS fnS_len (ta_cons (te_var 0) (ta_cons (te_int 99) ta_nil)))))
  (ts_drop (te_app (te_var 5) (te_op m_ix (te_lst (ta_cons (te_var 6) (ta_cons (te_callS fnS_len (ta_cons (te_var 0) (ta_cons (te_op m_add (te_int 1) (te_op o2 (te_var 1) (te_int 2))) ta_nil))) (ta_cons (te_op m_add (te_var 3) (te_int 1)) (ta_cons (te_op o2 (te_op m_add (te_var 3) (te_int 1)) (te_op m_mul (te_int 2) (te_cb oN (ta_cons (te_op o2 (te_var 3) (te_op o2 (te_var 1) (te_int 1))) ta_nil)))) ta_nil))))) (te_var 4))))))
  (ts_ret (te_var 5))))⟩
theorem b_is_cell_list (T : Tops K mg) : Binds K T.f_is_cell_list ["cells", "value"] [] := T.F_is_cell_list.binds fun _ _ _ _ _ _ us hl => match us, hl with | [_, _], _ => rfl
theorem ok_is_cell_list (T : Tops K mg) : FnG P w K mg base CX0 3 T.a_is_cell_list T.f_is_cell_list ["cells", "value"] (spV K 2 d_is_cell_list) :=
  fun_gV (m := m_is_cell_list) (N := N_is_cell_list) (ps := ["cells", "value"]) T.F_is_cell_list sc_is_cell_list (by decide) fun cdv A up s H E hG hr => ⟨_, (pss_cons (ps_if (pt_not (pt_val (pe_callB call_isi (by rfl) T.n_isinstance bb_isinstance (pa_cons (pv 1) (pa_cons (pe_bltn (v := .ty "list") (by rfl) T.n_list bb_list rfl) pa_nil))))) (pss_one (ps_ret pe_bl)) pss_nil)
  (pss_cons (ps_set (i := 2) sc_is_cell_list.nd rfl (Or.inl rfl) pe_int)
  (pss_cons (ps_for PassesOwn.never rfl (pi_list (pv 1)) (pg_name (i := 3) sc_is_cell_list.nd rfl (Or.inl rfl)) (pss_cons (ps_if (pt_not (pt_val (pe_callG (ok_is_between T) hG (hr.mono (by decide)) (by rfl) T.g_is_between T.F_is_between.kp (b_is_between T) .nil pass0 (pa_cons (pv 3) (pa_cons (pv 2) (pa_cons (pe_op d_sub (pv 0) pe_int) pa_nil)))))) (pss_one (ps_ret pe_bl)) pss_nil)
  (pss_one (ps_set (i := 2) sc_is_cell_list.nd rfl (Or.inl rfl) (pe_op d_add (pv 3) pe_int)))))
  (pss_one (ps_ret pe_bl))))),
  (ts_seq (ts_if (tt_not (tt_b (te_isi "list" (te_var 1)))) (ts_ret (te_bl false)) ts_next)
  (ts_seq (ts_asg 2 (te_int 0))
  (ts_seq (ts_for (it_list (te_var 1)) (tg_name 3) (ts_seq (ts_if (tt_not (tt_b (te_call fnV_len (ta_cons (te_var 3) (ta_cons (te_var 2) (ta_cons (te_op o2 (te_var 0) (te_int 1)) ta_nil)))))) (ts_ret (te_bl false)) ts_next)
  (ts_asg 2 (te_op m_add (te_var 3) (te_int 1)))))
  (ts_ret (te_bl true)))))⟩
theorem b_check_counted (T : Tops K mg) : Binds K T.f_check_counted ["cells", "counted"] [] := T.F_check_counted.binds fun _ _ _ _ _ _ us hl => match us, hl with | [_, _], _ => rfl
theorem ok_check_counted (T : Tops K mg) : FnG P w K mg base CX0 4 T.a_check_counted T.f_check_counted ["cells", "counted"] (spV K 2 d_check_counted) :=
  fun_gV (m := m_check_counted) (N := N_check_counted) (ps := ["cells", "counted"]) T.F_check_counted sc_check_counted (by decide) fun cdv A up s H E hG hr => ⟨_, (pss_one (ps_if (pt_not (pt_val (pe_callG (ok_is_cell_list T) hG (hr.mono (by decide)) (by rfl) T.g_is_cell_list T.F_is_cell_list.kp (b_is_cell_list T) .nil pass0 (pa_cons (pv 0) (pa_cons (pv 1) pa_nil))))) (pss_one ps_never) pss_nil)),
  (ts_if (tt_not (tt_b (te_call fnV_len (ta_cons (te_var 0) (ta_cons (te_var 1) ta_nil))))) ts_never ts_next)⟩
theorem b_same_rows (T : Tops K mg) : Binds K T.f_same_rows ["cells", "row", "second", "counted"] [] := T.F_same_rows.binds fun _ _ _ _ _ _ us hl => match us, hl with | [_, _, _, _], _ => rfl
theorem kb_same_rows_0_counted_second_row_cells (T : Tops K mg) : KBinds K T.f_same_rows ["cells", "row", "second", "counted"] ["counted", "second", "row", "cells"] (permU [3, 2, 1, 0] 0 4) (permV [3, 2, 1, 0] 0 4) := fun_kb (ks := ["counted", "second", "row", "cells"]) (π := [3, 2, 1, 0]) (n := 0) T.F_same_rows (by decide) fun _ _ _ _ _ _ us ws h1 h2 => match us, ws, h1, h2 with | [], [_, _, _, _], _, _ => rfl
theorem ok_same_rows (T : Tops K mg) : FnG P w K mg base CX0 8 T.a_same_rows T.f_same_rows ["cells", "row", "second", "counted"] (spV K 4 d_same_rows) :=
  fun_gV (m := m_same_rows) (N := N_same_rows) (ps := ["cells", "row", "second", "counted"]) T.F_same_rows sc_same_rows (by decide) fun cdv A up s H E hG hr => ⟨_, (pss_cons (ps_set (i := 4) sc_same_rows.nd rfl (Or.inr rfl) (pe_callG (ok_sources_of T) hG (hr.mono (by decide)) (by rfl) T.g_sources_of T.F_sources_of.kp (b_sources_of T) .nil pass0 (pa_cons (pv 0) (pa_cons (pv 1) pa_nil))))
  (pss_cons (ps_set (i := 5) sc_same_rows.nd rfl (Or.inr rfl) (pe_callG (ok_sources_of T) hG (hr.mono (by decide)) (by rfl) T.g_sources_of T.F_sources_of.kp (b_sources_of T) .nil pass0 (pa_cons (pv 0) (pa_cons (pv 2) pa_nil))))
  (pss_cons (ps_expr (pe_callG (ok_check_counted T) hG (hr.mono (by decide)) (by rfl) T.g_check_counted T.F_check_counted.kp (b_check_counted T) .nil pass0 (pa_cons (pv 0) (pa_cons (pv 3) pa_nil))))
  (pss_one (ps_ret (pe_callB (c_all rfl) (by rfl) T.n_all bb_all (pa_cons (pe_lc (own := [("cell", 6)]) rfl sc_same_rows.nd (pi_list (pv 3)) (blkOk_by (own := [("cell", 6)]) (N := N_same_rows) (sc := defScope s_same_rows) (by decide +kernel)) (fun _ _ _ _ _ => (pg_name (i := 6) sc_same_rows.nd rfl (Or.inl rfl))) (fun _ _ _ _ _ => pts_nil) (fun _ _ _ _ _ => (pe_cmpR (d_eq hr.units) (pe_ix ix_seq (pv 4) (pv 6) (fun _ _ => rfl)) (pe_ix ix_seq (pv 5) (pv 6) (fun _ _ => rfl)) (nomark _)))) pa_nil))))))),
  (ts_seq (ts_asg 4 (te_call fnV_len (ta_cons (te_var 0) (ta_cons (te_var 1) ta_nil))))
  (ts_seq (ts_asg 5 (te_call fnV_len (ta_cons (te_var 0) (ta_cons (te_var 2) ta_nil))))
  (ts_seq (ts_drop (te_call fnV_len (ta_cons (te_var 0) (ta_cons (te_var 3) ta_nil))))
  (ts_ret (te_cb oN (ta_cons (te_lc (it_list (te_var 3)) (tg_name 6) tt_yes (te_op o2 (te_op m_ix (te_var 4) (te_var 6)) (te_op m_ix (te_var 5) (te_var 6))) (by decide)) ta_nil))))))⟩
theorem b_law_same_right (T : Tops K mg) : Binds K T.f_law_same_right ["source", "many", "path", "other_path"] [] := T.F_law_same_right.binds fun _ _ _ _ _ _ us hl => match us, hl with | [_, _, _, _], _ => rfl
theorem ok_law_same_right (T : Tops K mg) : FnG P w K mg base CX0 9 T.a_law_same_right T.f_law_same_right ["source", "many", "path", "other_path"] (spS K 4 d_law_same_right) :=
  fun_gS (m := m_law_same_right) (N := N_law_same_right) (ps := ["source", "many", "path", "other_path"]) T.F_law_same_right sc_law_same_right (by decide) fun cdv A up s H E hG hr => ⟨_, (pss_cons (ps_asg (pe_lc (own := [("one", 11)]) rfl sc_law_same_right.nd (pi_tup (pe_tup (pa_cons (pv 2) (pa_cons (pv 3) pa_nil)))) (blkOk_by (own := [("one", 11)]) (N := N_law_same_right) (sc := defScope s_law_same_right) (by decide +kernel)) (fun _ _ _ _ _ => (pg_name (i := 11) sc_law_same_right.nd rfl (Or.inl rfl))) (fun _ _ _ _ _ => pts_nil) (fun _ _ _ _ _ => (pe_callG (ok_law_behind T) hG (hr.mono (by decide)) (by rfl) T.g_law_behind T.F_law_behind.kp (b_law_behind T) .nil pass0 (pa_cons (pe_listRg rfl (by rfl) T.n_list (prg_1 (by rfl) T.n_range (pv 1))) (pa_cons (pv 11) pa_nil))))) (pg_lst rfl (pgs_cons (pg_name (i := 7) sc_law_same_right.nd rfl (Or.inr rfl)) (pgs_cons (pg_name (i := 8) sc_law_same_right.nd rfl (Or.inr rfl)) pgs_nil))))
  (pss_cons (ps_setLc (i := 4) (own := [("k", 12)]) rfl sc_law_same_right.nd rfl rfl (sw_true rfl rfl rfl (by decide +kernel)) (pi_range1 (by rfl) T.n_range (pa_cons (pv 1) pa_nil)) (blkOk_by (own := [("k", 12)]) (N := N_law_same_right) (sc := defScope s_law_same_right) (by decide +kernel)) (fun _ _ _ _ _ => (pg_name (i := 12) sc_law_same_right.nd rfl (Or.inl rfl))) (fun _ _ _ _ _ => (pts_one (pt_cmpR d_gt (pe_callG (ok_law_draw T) hG (hr.mono (by decide)) (by rfl) T.g_law_draw T.F_law_draw.kp (b_law_draw T) .nil pass0 (pa_cons (pv 0) (pa_cons pe_int pa_nil))) pe_int (nomark _)))) (fun _ _ _ _ _ => (pv 12)))
  (pss_cons (ps_set (i := 5) sc_law_same_right.nd rfl (Or.inl rfl) (pe_callG (ok_law_content T) hG (hr.mono (by decide)) (by rfl) T.g_law_content T.F_law_content.kp (b_law_content T) .nil pass0 (pa_cons (pv 0) (pa_cons (pv 1) (pa_cons pe_bl pa_nil)))))
  (pss_cons (ps_for PassesOwn.never rfl (pi_tup (pe_tup (pa_cons (pv 4) (pa_cons (pe_listRg rfl (by rfl) T.n_list (prg_1 (by rfl) T.n_range (pv 1))) (pa_cons (pe_lst pa_nil) (pa_cons (pe_lc (own := [("k", 12)]) rfl sc_law_same_right.nd (pi_range1 (by rfl) T.n_range (pa_cons (pv 1) pa_nil)) (blkOk_by (own := [("k", 12)]) (N := N_law_same_right) (sc := defScope s_law_same_right) (by decide +kernel)) (fun _ _ _ _ _ => (pg_name (i := 12) sc_law_same_right.nd rfl (Or.inl rfl))) (fun _ _ _ _ _ => (pts_one (pt_cmpR (d_eq hr.units) (pe_ix ix_seq (pv 7) (pv 12) (fun _ _ => rfl)) (pe_ix ix_seq (pv 8) (pv 12) (fun _ _ => rfl)) (nomark _)))) (fun _ _ _ _ _ => (pv 12))) pa_nil)))))) (pg_name (i := 6) sc_law_same_right.nd rfl (Or.inl rfl)) (pss_cons (ps_set (i := 9) sc_law_same_right.nd rfl (Or.inl rfl) (pe_cmpR (d_eq hr.units) (pe_lc (own := [("k", 12)]) rfl sc_law_same_right.nd (pi_list (pv 6)) (blkOk_by (own := [("k", 12)]) (N := N_law_same_right) (sc := defScope s_law_same_right) (by decide +kernel)) (fun _ _ _ _ _ => (pg_name (i := 12) sc_law_same_right.nd rfl (Or.inl rfl))) (fun _ _ _ _ _ => (pts_one (pt_cmpR (d_ne hr.units) (pe_ix ix_seq (pv 7) (pv 12) (fun _ _ => rfl)) (pe_ix ix_seq (pv 8) (pv 12) (fun _ _ => rfl)) (nomark _)))) (fun _ _ _ _ _ => (pv 12))) (pe_lst pa_nil) (nomark _)))
  (pss_cons (ps_set (i := 10) sc_law_same_right.nd rfl (Or.inl rfl) (pe_lst (pa_cons (pe_callG (ok_same_rows T) hG (hr.mono (by decide)) (by rfl) T.g_same_rows T.F_same_rows.kp (b_same_rows T) .nil pass0 (pa_cons (pv 1) (pa_cons (pv 2) (pa_cons (pv 3) (pa_cons (pv 6) pa_nil))))) pa_nil)))
  (pss_cons (ps_expr (pe_bm PySem.F.plainAttrs_list PySem.F.slot_list_append PySem.F.type_list_append mt_append (pv 10) (pa_cons (pe_callGK0 (ok_same_rows T) hG (hr.mono (by decide)) (by rfl) T.g_same_rows T.F_same_rows.kp (kb_same_rows_0_counted_second_row_cells T) pass0 (pk_cons (pv 6) (pk_cons (pv 3) (pk_cons (pv 2) (pk_cons (pv 1) pk_nil))))) pa_nil)))
  (pss_cons (ps_if (pt_cmpR (d_ne hr.units) (pe_callB (c_repr hG hr.units) (by rfl) T.n_repr bb_repr (pa_cons (pe_op d_add (pv 10) (pe_lst (pa_cons (pe_callG (ok_same_rows T) hG (hr.mono (by decide)) (by rfl) T.g_same_rows T.F_same_rows.kp (b_same_rows T) .nil pass0 (pa_cons (pv 1) (pa_cons (pv 3) (pa_cons (pv 2) (pa_cons (pv 6) pa_nil))))) pa_nil))) pa_nil)) (pe_callB (c_repr hG hr.units) (by rfl) T.n_repr bb_repr (pa_cons (pe_op d_mul (pe_lst (pa_cons (pv 9) pa_nil)) pe_int) pa_nil)) (nomark _)) (pss_one (ps_ret pe_bl)) pss_nil)
  (pss_cons (ps_asg (pe_tup (pa_cons (pe_callG (ok_law_behind T) hG (hr.mono (by decide)) (by rfl) T.g_law_behind T.F_law_behind.kp (b_law_behind T) .nil pass0 (pa_cons (pv 5) (pa_cons (pv 2) pa_nil))) (pa_cons (pe_callG (ok_law_behind T) hG (hr.mono (by decide)) (by rfl) T.g_law_behind T.F_law_behind.kp (b_law_behind T) .nil pass0 (pa_cons (pv 5) (pa_cons (pv 3) pa_nil))) pa_nil))) (pg_tup rfl (pgs_cons (pg_name (i := 11) sc_law_same_right.nd rfl (Or.inr rfl)) (pgs_cons (pg_name (i := 13) sc_law_same_right.nd rfl (Or.inr rfl)) pgs_nil))))
  (pss_one (ps_if (PW.pt (pw_and (pt_val (pv 9)) (pw_and1 (pt_cmpR (d_ne hr.units) (pe_lc (own := [("k", 12)]) rfl sc_law_same_right.nd (pi_list (pv 6)) (blkOk_by (own := [("k", 12)]) (N := N_law_same_right) (sc := defScope s_law_same_right) (by decide +kernel)) (fun _ _ _ _ _ => (pg_name (i := 12) sc_law_same_right.nd rfl (Or.inl rfl))) (fun _ _ _ _ _ => pts_nil) (fun _ _ _ _ _ => (pe_ix ix_seq (pv 11) (pv 12) (fun _ _ => rfl)))) (pe_lc (own := [("k", 12)]) rfl sc_law_same_right.nd (pi_list (pv 6)) (blkOk_by (own := [("k", 12)]) (N := N_law_same_right) (sc := defScope s_law_same_right) (by decide +kernel)) (fun _ _ _ _ _ => (pg_name (i := 12) sc_law_same_right.nd rfl (Or.inl rfl))) (fun _ _ _ _ _ => pts_nil) (fun _ _ _ _ _ => (pe_ix ix_seq (pv 13) (pv 12) (fun _ _ => rfl)))) (nomark _))))) (pss_one (ps_ret pe_bl)) pss_nil))))))))
  (pss_one (ps_ret pe_bl)))))),
  (ts_seq (ts_asgT (te_lc (it_tup (te_tup (ta_cons (te_var 2) (ta_cons (te_var 3) ta_nil)))) (tg_name 11) tt_yes (te_call fnV_len (ta_cons (te_lr1 (te_var 1)) (ta_cons (te_var 11) ta_nil))) (by decide)) (tg_lst (tgs_cons (tg_name 7) (tgs_cons (tg_name 8) tgs_nil))))
  (ts_seq (ts_asg 4 (te_lc (it_rng1 (ta_cons (te_var 1) ta_nil)) (tg_name 12) (tt_test (te_op o2 (te_callS fnS_len (ta_cons (te_var 0) (ta_cons (te_int 3) ta_nil))) (te_int 0))) (te_var 12) (by decide)))
  (ts_seq (ts_asg 5 (te_callS fnS_len (ta_cons (te_var 0) (ta_cons (te_var 1) (ta_cons (te_bl false) ta_nil)))))
  (ts_seq (ts_for (it_tup (te_tup (ta_cons (te_var 4) (ta_cons (te_lr1 (te_var 1)) (ta_cons (te_lst ta_nil) (ta_cons (te_lc (it_rng1 (ta_cons (te_var 1) ta_nil)) (tg_name 12) (tt_test (te_op o2 (te_op m_ix (te_var 7) (te_var 12)) (te_op m_ix (te_var 8) (te_var 12)))) (te_var 12) (by decide)) ta_nil)))))) (tg_name 6) (ts_seq (ts_asg 9 (te_op o2 (te_lc (it_list (te_var 6)) (tg_name 12) (tt_test (te_op o2 (te_op m_ix (te_var 7) (te_var 12)) (te_op m_ix (te_var 8) (te_var 12)))) (te_var 12) (by decide)) (te_lst ta_nil)))
  (ts_seq (ts_asg 10 (te_lst (ta_cons (te_call fnV_len (ta_cons (te_var 1) (ta_cons (te_var 2) (ta_cons (te_var 3) (ta_cons (te_var 6) ta_nil))))) ta_nil)))
  (ts_seq (ts_drop (te_app (te_var 10) (te_callK (π := [3, 2, 1, 0]) fnV_len ta_nil (ta_cons (te_var 6) (ta_cons (te_var 3) (ta_cons (te_var 2) (ta_cons (te_var 1) ta_nil)))))))
  (ts_seq (ts_if (tt_test (te_op o2 (te_cb oN (ta_cons (te_op m_add (te_var 10) (te_lst (ta_cons (te_call fnV_len (ta_cons (te_var 1) (ta_cons (te_var 3) (ta_cons (te_var 2) (ta_cons (te_var 6) ta_nil))))) ta_nil))) ta_nil)) (te_cb oN (ta_cons (te_op m_mul (te_lst (ta_cons (te_var 9) ta_nil)) (te_int 3)) ta_nil)))) (ts_ret (te_bl false)) ts_next)
  (ts_seq (ts_parT2 (te_call fnV_len (ta_cons (te_var 5) (ta_cons (te_var 2) ta_nil))) (te_call fnV_len (ta_cons (te_var 5) (ta_cons (te_var 3) ta_nil))))
  (ts_if (tt_and (tt_b (te_var 9)) (tt_test (te_op o2 (te_lc (it_list (te_var 6)) (tg_name 12) tt_yes (te_op m_ix (te_var 11) (te_var 12)) (by decide)) (te_lc (it_list (te_var 6)) (tg_name 12) tt_yes (te_op m_ix (te_var 13) (te_var 12)) (by decide))))) (ts_ret (te_bl false)) ts_next)))))))
  (ts_ret (te_bl true))))))⟩
theorem ok_law {a : Addr} {fd : FuncData} (Fl : Fun K "law" "law" s_law a fd) (T : Tops K mg) : FnG P w K mg base CX0 10 a fd ["script"] (spV K 1 d_law) :=
  fun_gV (m := m_law) (N := N_law) (ps := ["script"]) Fl sc_law (by decide) fun cdv A up s H E hG hr => ⟨_, (pss_cons (ps_for PassesOwn.never rfl (pi_enum (by rfl) T.n_enumerate (pa_cons (pe_slice sl_list (pe_op d_add (pv 0) (pe_lst (pa_cons pe_int pa_nil))) po_none (po_some (pe_callB (c_max2 rfl) (by rfl) T.n_max bb_max (pa_cons pe_int (pa_cons (pe_callB (c_min2 rfl) (by rfl) T.n_min bb_min (pa_cons (pe_callB c_len (by rfl) T.n_len bb_len (pa_cons (pv 0) pa_nil)) (pa_cons pe_int pa_nil))) pa_nil))))) pa_nil)) (pg_tup rfl (pgs_cons (pg_name (i := 2) sc_law.nd rfl (Or.inl rfl)) (pgs_cons (pg_name (i := 3) sc_law.nd rfl (Or.inl rfl)) pgs_nil))) (pss_cons (ps_set (i := 4) sc_law.nd rfl (Or.inl rfl) (pe_callG (ok_law_source T) hG (hr.mono (by decide)) (by rfl) T.g_law_source T.F_law_source.kp (b_law_source T) .nil pass0 (pa_cons (pv 3) (pa_cons (pv 2) pa_nil))))
  (pss_one (ps_for PassesOwn.never rfl (pi_range1 (by rfl) T.n_range (pa_cons pe_int pa_nil)) (pg_name (i := 5) sc_law.nd rfl (Or.inl rfl)) (pss_cons (ps_set (i := 6) sc_law.nd rfl (Or.inl rfl) (pe_op d_add pe_int (pe_callG (ok_law_draw T) hG (hr.mono (by decide)) (by rfl) T.g_law_draw T.F_law_draw.kp (b_law_draw T) .nil pass0 (pa_cons (pv 4) (pa_cons pe_int pa_nil)))))
  (pss_cons (ps_set (i := 7) sc_law.nd rfl (Or.inl rfl) (pe_callG (ok_law_path T) hG (hr.mono (by decide)) (by rfl) T.g_law_path T.F_law_path.kp (b_law_path T) .nil pass0 (pa_cons (pv 4) (pa_cons (pv 6) (pa_cons pe_int pa_nil)))))
  (pss_cons (ps_set (i := 8) sc_law.nd rfl (Or.inl rfl) (pe_callG (ok_law_mate T) hG (hr.mono (by decide)) (by rfl) T.g_law_mate T.F_law_mate.kp (b_law_mate T) .nil pass0 (pa_cons (pv 4) (pa_cons (pv 6) (pa_cons (pv 7) pa_nil)))))
  (pss_cons (ps_set (i := 9) sc_law.nd rfl (Or.inl rfl) (pe_callB (c_repr hG hr.units) (by rfl) T.n_repr bb_repr (pa_cons (pe_lst (pa_cons (pv 7) (pa_cons (pv 8) pa_nil))) pa_nil)))
  (pss_cons (ps_if (PW.pt (pw_or (pt_not (pt_val (pe_callG (ok_law_same_right T) hG (hr.mono (by decide)) (by rfl) T.g_law_same_right T.F_law_same_right.kp (b_law_same_right T) .nil pass0 (pa_cons (pv 4) (pa_cons (pv 6) (pa_cons (pv 7) (pa_cons (pv 8) pa_nil))))))) (pw_or1 (pt_not (pt_val (pe_callG (ok_law_turned_right T) hG (hr.mono (by decide)) (by rfl) T.g_law_turned_right T.F_law_turned_right.kp (b_law_turned_right T) .nil pass0 (pa_cons (pv 6) (pa_cons (pv 7) pa_nil)))))))) (pss_one (ps_ret pe_bl)) pss_nil)
  (pss_one (ps_if (PW.pt (pw_or (pt_not (pt_val (pe_callG (ok_law_turned_right T) hG (hr.mono (by decide)) (by rfl) T.g_law_turned_right T.F_law_turned_right.kp (b_law_turned_right T) .nil pass0 (pa_cons (pv 6) (pa_cons (pv 8) pa_nil))))) (pw_or1 (pt_cmpR (d_ne hr.units) (pe_callB (c_repr hG hr.units) (by rfl) T.n_repr bb_repr (pa_cons (pe_lst (pa_cons (pv 7) (pa_cons (pv 8) pa_nil))) pa_nil)) (pv 9) (nomark _))))) (pss_one (ps_ret pe_bl)) pss_nil)))))))))))
  (pss_cons (ps_set (i := 1) sc_law.nd rfl (Or.inl rfl) (pe_lst (pa_cons (pe_callG (ok_turned T) hG (hr.mono (by decide)) (by rfl) T.g_turned T.F_turned.kp (b_turned T) .nil pass0 (pa_cons pe_int (pa_cons (pe_lst (pa_cons (pe_tup (pa_cons pe_str (pa_cons pe_int (pa_cons pe_int pa_nil)))) (pa_cons (pe_tup (pa_cons pe_str (pa_cons pe_int (pa_cons pe_int pa_nil)))) pa_nil))) pa_nil))) (pa_cons (pe_callG (ok_turned T) hG (hr.mono (by decide)) (by rfl) T.g_turned T.F_turned.kp (b_turned T) .nil pass0 (pa_cons pe_int (pa_cons (pe_lst (pa_cons (pe_tup (pa_cons pe_str (pa_cons pe_int (pa_cons pe_int pa_nil)))) pa_nil)) pa_nil))) (pa_cons (pe_callG (ok_turned T) hG (hr.mono (by decide)) (by rfl) T.g_turned T.F_turned.kp (b_turned T) .nil pass0 (pa_cons pe_int (pa_cons (pe_lst pa_nil) pa_nil))) pa_nil)))))
  (pss_one (ps_ret (pe_and (pe_cmpR (d_eq hr.units) (pv 1) (pe_lst (pa_cons (pe_lst (pa_cons pe_int (pa_cons pe_int (pa_cons pe_int pa_nil)))) (pa_cons pe_non (pa_cons (pe_lst (pa_cons pe_int pa_nil)) pa_nil)))) (nomark _)) (pe_one (pe_callG (ok_same_rows T) hG (hr.mono (by decide)) (by rfl) T.g_same_rows T.F_same_rows.kp (b_same_rows T) .nil pass0 (pa_cons pe_int (pa_cons (pe_lst (pa_cons (pe_tup (pa_cons pe_str (pa_cons pe_int (pa_cons pe_int pa_nil)))) pa_nil)) (pa_cons (pe_lst pa_nil) (pa_cons (pe_lst (pa_cons pe_int pa_nil)) pa_nil))))))))))),
  (ts_seq (ts_for (it_enum (ta_cons (te_sl (te_op m_add (te_var 0) (te_lst (ta_cons (te_int 0) ta_nil))) to_none (to_some (te_cb oN (ta_cons (te_int 1) (ta_cons (te_cb oN (ta_cons (te_cb oN (ta_cons (te_var 0) ta_nil)) (ta_cons (te_int 8) ta_nil))) ta_nil))))) ta_nil)) (tg_tup (tgs_cons (tg_name 2) (tgs_cons (tg_name 3) tgs_nil))) (ts_seq (ts_asg 4 (te_call fnV_len (ta_cons (te_var 3) (ta_cons (te_var 2) ta_nil))))
  (ts_for (it_rng1 (ta_cons (te_int 3) ta_nil)) (tg_name 5) (ts_seq (ts_asg 6 (te_op m_add (te_int 2) (te_callS fnS_len (ta_cons (te_var 4) (ta_cons (te_int 6) ta_nil)))))
  (ts_seq (ts_asg 7 (te_callS fnS_len (ta_cons (te_var 4) (ta_cons (te_var 6) (ta_cons (te_int 8) ta_nil)))))
  (ts_seq (ts_asg 8 (te_callS fnS_len (ta_cons (te_var 4) (ta_cons (te_var 6) (ta_cons (te_var 7) ta_nil)))))
  (ts_seq (ts_asg 9 (te_cb oN (ta_cons (te_lst (ta_cons (te_var 7) (ta_cons (te_var 8) ta_nil))) ta_nil)))
  (ts_seq (ts_if (tt_or (tt_not (tt_b (te_callS fnS_len (ta_cons (te_var 4) (ta_cons (te_var 6) (ta_cons (te_var 7) (ta_cons (te_var 8) ta_nil))))))) (tt_not (tt_b (te_call fnV_len (ta_cons (te_var 6) (ta_cons (te_var 7) ta_nil)))))) (ts_ret (te_bl false)) ts_next)
  (ts_if (tt_or (tt_not (tt_b (te_call fnV_len (ta_cons (te_var 6) (ta_cons (te_var 8) ta_nil))))) (tt_test (te_op o2 (te_cb oN (ta_cons (te_lst (ta_cons (te_var 7) (ta_cons (te_var 8) ta_nil))) ta_nil)) (te_var 9)))) (ts_ret (te_bl false)) ts_next)))))))))
  (ts_seq (ts_asg 1 (te_lst (ta_cons (te_call fnV_len (ta_cons (te_int 3) (ta_cons (te_lst (ta_cons (te_tup (ta_cons (te_str (PySem.Str.ofString "swap")) (ta_cons (te_int 0) (ta_cons (te_int 1) ta_nil)))) (ta_cons (te_tup (ta_cons (te_str (PySem.Str.ofString "swap")) (ta_cons (te_int 1) (ta_cons (te_int 2) ta_nil)))) ta_nil))) ta_nil))) (ta_cons (te_call fnV_len (ta_cons (te_int 2) (ta_cons (te_lst (ta_cons (te_tup (ta_cons (te_str (PySem.Str.ofString "move")) (ta_cons (te_int 0) (ta_cons (te_int 1) ta_nil)))) ta_nil)) ta_nil))) (ta_cons (te_call fnV_len (ta_cons (te_int 1) (ta_cons (te_lst ta_nil) ta_nil))) ta_nil)))))
  (ts_ret (te_andV (te_op o2 (te_var 1) (te_lst (ta_cons (te_lst (ta_cons (te_int 2) (ta_cons (te_int 0) (ta_cons (te_int 1) ta_nil)))) (ta_cons te_non (ta_cons (te_lst (ta_cons (te_int 0) ta_nil)) ta_nil))))) (te_call fnV_len (ta_cons (te_int 2) (ta_cons (te_lst (ta_cons (te_tup (ta_cons (te_str (PySem.Str.ofString "move")) (ta_cons (te_int 0) (ta_cons (te_int 1) ta_nil)))) ta_nil)) (ta_cons (te_lst ta_nil) (ta_cons (te_lst (ta_cons (te_int 0) ta_nil)) ta_nil)))))))))⟩
end
theorem all_mk {l : PySem.W.OpenLaw} {w : World} {K : PySem.W.Frag} {h : Heap} {mg : Str → Option Value} {fa : Addr} (X : K.In h) (G : h.Ns mainGlobals mg) (hfa : mg "law" = some (.ref fa))
    {p0 : Addr} {od0 an0 : Option Addr} {sl0 : Array (Option Value)} {oc0 kV0 dc0 pm0 cd0 ct0 : Value}
    {p1 : Addr} {od1 an1 : Option Addr} {sl1 : Array (Option Value)} {oc1 kV1 dc1 pm1 cd1 ct1 : Value}
    {p2 : Addr} {od2 an2 : Option Addr} {sl2 : Array (Option Value)} {oc2 kV2 dc2 pm2 cd2 ct2 : Value}
    {p3 : Addr} {od3 an3 : Option Addr} {sl3 : Array (Option Value)} {oc3 kV3 dc3 pm3 cd3 ct3 : Value}
    {p4 : Addr} {od4 an4 : Option Addr} {sl4 : Array (Option Value)} {oc4 kV4 dc4 pm4 cd4 ct4 : Value}
    {p5 : Addr} {od5 an5 : Option Addr} {sl5 : Array (Option Value)} {oc5 kV5 dc5 pm5 cd5 ct5 : Value}
    {p6 : Addr} {od6 an6 : Option Addr} {sl6 : Array (Option Value)} {oc6 kV6 dc6 pm6 cd6 ct6 : Value}
    {p7 : Addr} {od7 an7 : Option Addr} {sl7 : Array (Option Value)} {oc7 kV7 dc7 pm7 cd7 ct7 : Value}
    {p8 : Addr} {od8 an8 : Option Addr} {sl8 : Array (Option Value)} {oc8 kV8 dc8 pm8 cd8 ct8 : Value}
    {p9 : Addr} {od9 an9 : Option Addr} {sl9 : Array (Option Value)} {oc9 kV9 dc9 pm9 cd9 ct9 : Value}
    {p10 : Addr} {od10 an10 : Option Addr} {sl10 : Array (Option Value)} {oc10 kV10 dc10 pm10 cd10 ct10 : Value}
    {p11 : Addr} {od11 an11 : Option Addr} {sl11 : Array (Option Value)} {oc11 kV11 dc11 pm11 cd11 ct11 : Value}
    {p12 : Addr} {od12 an12 : Option Addr} {sl12 : Array (Option Value)} {oc12 kV12 dc12 pm12 cd12 ct12 : Value}
    {p13 : Addr} {od13 an13 : Option Addr} {sl13 : Array (Option Value)} {oc13 kV13 dc13 pm13 cd13 ct13 : Value}
    {p14 : Addr} {od14 an14 : Option Addr} {sl14 : Array (Option Value)} {oc14 kV14 dc14 pm14 cd14 ct14 : Value}
    {p15 : Addr} {od15 an15 : Option Addr} {sl15 : Array (Option Value)} {oc15 kV15 dc15 pm15 cd15 ct15 : Value}
    {p16 : Addr} {od16 an16 : Option Addr} {sl16 : Array (Option Value)} {oc16 kV16 dc16 pm16 cd16 ct16 : Value}
    {p17 : Addr} {od17 an17 : Option Addr} {sl17 : Array (Option Value)} {oc17 kV17 dc17 pm17 cd17 ct17 : Value}
    {p18 : Addr} {od18 an18 : Option Addr} {sl18 : Array (Option Value)} {oc18 kV18 dc18 pm18 cd18 ct18 : Value}
    {p19 : Addr} {od19 an19 : Option Addr} {sl19 : Array (Option Value)} {oc19 kV19 dc19 pm19 cd19 ct19 : Value}
    {p20 : Addr} {od20 an20 : Option Addr} {sl20 : Array (Option Value)} {oc20 kV20 dc20 pm20 cd20 ct20 : Value}
    {p21 : Addr} {od21 an21 : Option Addr} {sl21 : Array (Option Value)} {oc21 kV21 dc21 pm21 cd21 ct21 : Value}
    {p22 : Addr} {od22 an22 : Option Addr} {sl22 : Array (Option Value)} {oc22 kV22 dc22 pm22 cd22 ct22 : Value}
    (a0 : PySem.W.nsIn K mainGlobals "_law_source" = some (some (.ref p0))) (l0 : K.lookup p0 = some ⟨oc0, od0, .func (PySem.W.fnOf "_law_source" "_law_source" (defArgs s_law_source) (defBody s_law_source) (defScope s_law_source) .none kV0 dc0 pm0 an0 cd0 ct0), sl0⟩) (c0 : PySem.W.codeIn K cd0 "_law_source" = true) (k0 : PySem.W.keepIn K (.ref p0) = true)
    (a1 : PySem.W.nsIn K mainGlobals "_law_draw" = some (some (.ref p1))) (l1 : K.lookup p1 = some ⟨oc1, od1, .func (PySem.W.fnOf "_law_draw" "_law_draw" (defArgs s_law_draw) (defBody s_law_draw) (defScope s_law_draw) .none kV1 dc1 pm1 an1 cd1 ct1), sl1⟩) (c1 : PySem.W.codeIn K cd1 "_law_draw" = true) (k1 : PySem.W.keepIn K (.ref p1) = true)
    (a2 : PySem.W.nsIn K mainGlobals "_law_path" = some (some (.ref p2))) (l2 : K.lookup p2 = some ⟨oc2, od2, .func (PySem.W.fnOf "_law_path" "_law_path" (defArgs s_law_path) (defBody s_law_path) (defScope s_law_path) .none kV2 dc2 pm2 an2 cd2 ct2), sl2⟩) (c2 : PySem.W.codeIn K cd2 "_law_path" = true) (k2 : PySem.W.keepIn K (.ref p2) = true)
    (a3 : PySem.W.nsIn K mainGlobals "_law_mate" = some (some (.ref p3))) (l3 : K.lookup p3 = some ⟨oc3, od3, .func (PySem.W.fnOf "_law_mate" "_law_mate" (defArgs s_law_mate) (defBody s_law_mate) (defScope s_law_mate) .none kV3 dc3 pm3 an3 cd3 ct3), sl3⟩) (c3 : PySem.W.codeIn K cd3 "_law_mate" = true) (k3 : PySem.W.keepIn K (.ref p3) = true)
    (a4 : PySem.W.nsIn K mainGlobals "_law_behind" = some (some (.ref p4))) (l4 : K.lookup p4 = some ⟨oc4, od4, .func (PySem.W.fnOf "_law_behind" "_law_behind" (defArgs s_law_behind) (defBody s_law_behind) (defScope s_law_behind) .none kV4 dc4 pm4 an4 cd4 ct4), sl4⟩) (c4 : PySem.W.codeIn K cd4 "_law_behind" = true) (k4 : PySem.W.keepIn K (.ref p4) = true)
    (a5 : PySem.W.nsIn K mainGlobals "is_integer" = some (some (.ref p5))) (l5 : K.lookup p5 = some ⟨oc5, od5, .func (PySem.W.fnOf "is_integer" "is_integer" (defArgs s_is_integer) (defBody s_is_integer) (defScope s_is_integer) .none kV5 dc5 pm5 an5 cd5 ct5), sl5⟩) (c5 : PySem.W.codeIn K cd5 "is_integer" = true) (k5 : PySem.W.keepIn K (.ref p5) = true)
    (a6 : PySem.W.nsIn K mainGlobals "is_between" = some (some (.ref p6))) (l6 : K.lookup p6 = some ⟨oc6, od6, .func (PySem.W.fnOf "is_between" "is_between" (defArgs s_is_between) (defBody s_is_between) (defScope s_is_between) .none kV6 dc6 pm6 an6 cd6 ct6), sl6⟩) (c6 : PySem.W.codeIn K cd6 "is_between" = true) (k6 : PySem.W.keepIn K (.ref p6) = true)
    (a7 : PySem.W.nsIn K mainGlobals "check_cells" = some (some (.ref p7))) (l7 : K.lookup p7 = some ⟨oc7, od7, .func (PySem.W.fnOf "check_cells" "check_cells" (defArgs s_check_cells) (defBody s_check_cells) (defScope s_check_cells) .none kV7 dc7 pm7 an7 cd7 ct7), sl7⟩) (c7 : PySem.W.codeIn K cd7 "check_cells" = true) (k7 : PySem.W.keepIn K (.ref p7) = true)
    (a8 : PySem.W.nsIn K mainGlobals "is_list_of" = some (some (.ref p8))) (l8 : K.lookup p8 = some ⟨oc8, od8, .func (PySem.W.fnOf "is_list_of" "is_list_of" (defArgs s_is_list_of) (defBody s_is_list_of) (defScope s_is_list_of) .none kV8 dc8 pm8 an8 cd8 ct8), sl8⟩) (c8 : PySem.W.codeIn K cd8 "is_list_of" = true) (k8 : PySem.W.keepIn K (.ref p8) = true)
    (a9 : PySem.W.nsIn K mainGlobals "is_cell" = some (some (.ref p9))) (l9 : K.lookup p9 = some ⟨oc9, od9, .func (PySem.W.fnOf "is_cell" "is_cell" (defArgs s_is_cell) (defBody s_is_cell) (defScope s_is_cell) .none kV9 dc9 pm9 an9 cd9 ct9), sl9⟩) (c9 : PySem.W.codeIn K cd9 "is_cell" = true) (k9 : PySem.W.keepIn K (.ref p9) = true)
    (a10 : PySem.W.nsIn K mainGlobals "is_step" = some (some (.ref p10))) (l10 : K.lookup p10 = some ⟨oc10, od10, .func (PySem.W.fnOf "is_step" "is_step" (defArgs s_is_step) (defBody s_is_step) (defScope s_is_step) .none kV10 dc10 pm10 an10 cd10 ct10), sl10⟩) (c10 : PySem.W.codeIn K cd10 "is_step" = true) (k10 : PySem.W.keepIn K (.ref p10) = true)
    (a11 : PySem.W.nsIn K mainGlobals "check_steps" = some (some (.ref p11))) (l11 : K.lookup p11 = some ⟨oc11, od11, .func (PySem.W.fnOf "check_steps" "check_steps" (defArgs s_check_steps) (defBody s_check_steps) (defScope s_check_steps) .none kV11 dc11 pm11 an11 cd11 ct11), sl11⟩) (c11 : PySem.W.codeIn K cd11 "check_steps" = true) (k11 : PySem.W.keepIn K (.ref p11) = true)
    (a12 : PySem.W.nsIn K mainGlobals "check_row" = some (some (.ref p12))) (l12 : K.lookup p12 = some ⟨oc12, od12, .func (PySem.W.fnOf "check_row" "check_row" (defArgs s_check_row) (defBody s_check_row) (defScope s_check_row) .none kV12 dc12 pm12 an12 cd12 ct12), sl12⟩) (c12 : PySem.W.codeIn K cd12 "check_row" = true) (k12 : PySem.W.keepIn K (.ref p12) = true)
    (a13 : PySem.W.nsIn K mainGlobals "behind_row" = some (some (.ref p13))) (l13 : K.lookup p13 = some ⟨oc13, od13, .func (PySem.W.fnOf "behind_row" "behind_row" (defArgs s_behind_row) (defBody s_behind_row) (defScope s_behind_row) .none kV13 dc13 pm13 an13 cd13 ct13), sl13⟩) (c13 : PySem.W.codeIn K cd13 "behind_row" = true) (k13 : PySem.W.keepIn K (.ref p13) = true)
    (a14 : PySem.W.nsIn K mainGlobals "sources_of" = some (some (.ref p14))) (l14 : K.lookup p14 = some ⟨oc14, od14, .func (PySem.W.fnOf "sources_of" "sources_of" (defArgs s_sources_of) (defBody s_sources_of) (defScope s_sources_of) .none kV14 dc14 pm14 an14 cd14 ct14), sl14⟩) (c14 : PySem.W.codeIn K cd14 "sources_of" = true) (k14 : PySem.W.keepIn K (.ref p14) = true)
    (a15 : PySem.W.nsIn K mainGlobals "turned" = some (some (.ref p15))) (l15 : K.lookup p15 = some ⟨oc15, od15, .func (PySem.W.fnOf "turned" "turned" (defArgs s_turned) (defBody s_turned) (defScope s_turned) .none kV15 dc15 pm15 an15 cd15 ct15), sl15⟩) (c15 : PySem.W.codeIn K cd15 "turned" = true) (k15 : PySem.W.keepIn K (.ref p15) = true)
    (a16 : PySem.W.nsIn K mainGlobals "_law_turned_right" = some (some (.ref p16))) (l16 : K.lookup p16 = some ⟨oc16, od16, .func (PySem.W.fnOf "_law_turned_right" "_law_turned_right" (defArgs s_law_turned_right) (defBody s_law_turned_right) (defScope s_law_turned_right) .none kV16 dc16 pm16 an16 cd16 ct16), sl16⟩) (c16 : PySem.W.codeIn K cd16 "_law_turned_right" = true) (k16 : PySem.W.keepIn K (.ref p16) = true)
    (a17 : PySem.W.nsIn K mainGlobals "_law_content" = some (some (.ref p17))) (l17 : K.lookup p17 = some ⟨oc17, od17, .func (PySem.W.fnOf "_law_content" "_law_content" (defArgs s_law_content) (defBody s_law_content) (defScope s_law_content) .none kV17 dc17 pm17 an17 cd17 ct17), sl17⟩) (c17 : PySem.W.codeIn K cd17 "_law_content" = true) (k17 : PySem.W.keepIn K (.ref p17) = true)
    (a18 : PySem.W.nsIn K mainGlobals "is_cell_list" = some (some (.ref p18))) (l18 : K.lookup p18 = some ⟨oc18, od18, .func (PySem.W.fnOf "is_cell_list" "is_cell_list" (defArgs s_is_cell_list) (defBody s_is_cell_list) (defScope s_is_cell_list) .none kV18 dc18 pm18 an18 cd18 ct18), sl18⟩) (c18 : PySem.W.codeIn K cd18 "is_cell_list" = true) (k18 : PySem.W.keepIn K (.ref p18) = true)
    (a19 : PySem.W.nsIn K mainGlobals "check_counted" = some (some (.ref p19))) (l19 : K.lookup p19 = some ⟨oc19, od19, .func (PySem.W.fnOf "check_counted" "check_counted" (defArgs s_check_counted) (defBody s_check_counted) (defScope s_check_counted) .none kV19 dc19 pm19 an19 cd19 ct19), sl19⟩) (c19 : PySem.W.codeIn K cd19 "check_counted" = true) (k19 : PySem.W.keepIn K (.ref p19) = true)
    (a20 : PySem.W.nsIn K mainGlobals "same_rows" = some (some (.ref p20))) (l20 : K.lookup p20 = some ⟨oc20, od20, .func (PySem.W.fnOf "same_rows" "same_rows" (defArgs s_same_rows) (defBody s_same_rows) (defScope s_same_rows) .none kV20 dc20 pm20 an20 cd20 ct20), sl20⟩) (c20 : PySem.W.codeIn K cd20 "same_rows" = true) (k20 : PySem.W.keepIn K (.ref p20) = true)
    (a21 : PySem.W.nsIn K mainGlobals "_law_same_right" = some (some (.ref p21))) (l21 : K.lookup p21 = some ⟨oc21, od21, .func (PySem.W.fnOf "_law_same_right" "_law_same_right" (defArgs s_law_same_right) (defBody s_law_same_right) (defScope s_law_same_right) .none kV21 dc21 pm21 an21 cd21 ct21), sl21⟩) (c21 : PySem.W.codeIn K cd21 "_law_same_right" = true) (k21 : PySem.W.keepIn K (.ref p21) = true)
    (a22 : PySem.W.nsIn K mainGlobals "law" = some (some (.ref p22))) (l22 : K.lookup p22 = some ⟨oc22, od22, .func (PySem.W.fnOf "law" "law" (defArgs s_law) (defBody s_law) (defScope s_law) .none kV22 dc22 pm22 an22 cd22 ct22), sl22⟩) (c22 : PySem.W.codeIn K cd22 "law" = true) (k22 : PySem.W.keepIn K (.ref p22) = true)
    (z_abs : PySem.W.nsIn K mainGlobals "abs" = some none)
    (z_all : PySem.W.nsIn K mainGlobals "all" = some none)
    (z_bool : PySem.W.nsIn K mainGlobals "bool" = some none)
    (z_enumerate : PySem.W.nsIn K mainGlobals "enumerate" = some none)
    (z_int : PySem.W.nsIn K mainGlobals "int" = some none)
    (z_isinstance : PySem.W.nsIn K mainGlobals "isinstance" = some none)
    (z_len : PySem.W.nsIn K mainGlobals "len" = some none)
    (z_list : PySem.W.nsIn K mainGlobals "list" = some none)
    (z_max : PySem.W.nsIn K mainGlobals "max" = some none)
    (z_min : PySem.W.nsIn K mainGlobals "min" = some none)
    (z_range : PySem.W.nsIn K mainGlobals "range" = some none)
    (z_repr : PySem.W.nsIn K mainGlobals "repr" = some none)
    (z_sorted : PySem.W.nsIn K mainGlobals "sorted" = some none)
    (z_tuple : PySem.W.nsIn K mainGlobals "tuple" = some none)
    {t_MOST_CELLS : Tok} (y_MOST_CELLS : PySem.W.nsIn K mainGlobals "MOST_CELLS" = some (some (.int (60) t_MOST_CELLS)))
    {t_MOST_STEPS : Tok} (y_MOST_STEPS : PySem.W.nsIn K mainGlobals "MOST_STEPS" = some (some (.int (200) t_MOST_STEPS)))
    : ∃ fd : FuncData, (∀ (s : Shared) (v : Value), BindsTo s fd ⟨[v], []⟩ [("script", v)]) ∧ ∀ base : Heap, K.In base → base.Ns mainGlobals mg → FnG l.prog w K mg base CX0 10 fa fd ["script"] (spV K 1 d_law) := by
  have e := hfa.symm.trans (PySem.W.mg_of X G a22)
  cases e
  let T : Tops K mg := { a_law_source := p0, f_law_source := _, F_law_source := fun_mk (st := s_law_source) l0 c0 k0, g_law_source := PySem.W.mg_of X G a0, a_law_draw := p1, f_law_draw := _, F_law_draw := fun_mk (st := s_law_draw) l1 c1 k1, g_law_draw := PySem.W.mg_of X G a1, a_law_path := p2, f_law_path := _, F_law_path := fun_mk (st := s_law_path) l2 c2 k2, g_law_path := PySem.W.mg_of X G a2, a_law_mate := p3, f_law_mate := _, F_law_mate := fun_mk (st := s_law_mate) l3 c3 k3, g_law_mate := PySem.W.mg_of X G a3, a_law_behind := p4, f_law_behind := _, F_law_behind := fun_mk (st := s_law_behind) l4 c4 k4, g_law_behind := PySem.W.mg_of X G a4, a_is_integer := p5, f_is_integer := _, F_is_integer := fun_mk (st := s_is_integer) l5 c5 k5, g_is_integer := PySem.W.mg_of X G a5, a_is_between := p6, f_is_between := _, F_is_between := fun_mk (st := s_is_between) l6 c6 k6, g_is_between := PySem.W.mg_of X G a6, a_check_cells := p7, f_check_cells := _, F_check_cells := fun_mk (st := s_check_cells) l7 c7 k7, g_check_cells := PySem.W.mg_of X G a7, a_is_list_of := p8, f_is_list_of := _, F_is_list_of := fun_mk (st := s_is_list_of) l8 c8 k8, g_is_list_of := PySem.W.mg_of X G a8, a_is_cell := p9, f_is_cell := _, F_is_cell := fun_mk (st := s_is_cell) l9 c9 k9, g_is_cell := PySem.W.mg_of X G a9, a_is_step := p10, f_is_step := _, F_is_step := fun_mk (st := s_is_step) l10 c10 k10, g_is_step := PySem.W.mg_of X G a10, a_check_steps := p11, f_check_steps := _, F_check_steps := fun_mk (st := s_check_steps) l11 c11 k11, g_check_steps := PySem.W.mg_of X G a11, a_check_row := p12, f_check_row := _, F_check_row := fun_mk (st := s_check_row) l12 c12 k12, g_check_row := PySem.W.mg_of X G a12, a_behind_row := p13, f_behind_row := _, F_behind_row := fun_mk (st := s_behind_row) l13 c13 k13, g_behind_row := PySem.W.mg_of X G a13, a_sources_of := p14, f_sources_of := _, F_sources_of := fun_mk (st := s_sources_of) l14 c14 k14, g_sources_of := PySem.W.mg_of X G a14, a_turned := p15, f_turned := _, F_turned := fun_mk (st := s_turned) l15 c15 k15, g_turned := PySem.W.mg_of X G a15, a_law_turned_right := p16, f_law_turned_right := _, F_law_turned_right := fun_mk (st := s_law_turned_right) l16 c16 k16, g_law_turned_right := PySem.W.mg_of X G a16, a_law_content := p17, f_law_content := _, F_law_content := fun_mk (st := s_law_content) l17 c17 k17, g_law_content := PySem.W.mg_of X G a17, a_is_cell_list := p18, f_is_cell_list := _, F_is_cell_list := fun_mk (st := s_is_cell_list) l18 c18 k18, g_is_cell_list := PySem.W.mg_of X G a18, a_check_counted := p19, f_check_counted := _, F_check_counted := fun_mk (st := s_check_counted) l19 c19 k19, g_check_counted := PySem.W.mg_of X G a19, a_same_rows := p20, f_same_rows := _, F_same_rows := fun_mk (st := s_same_rows) l20 c20 k20, g_same_rows := PySem.W.mg_of X G a20, a_law_same_right := p21, f_law_same_right := _, F_law_same_right := fun_mk (st := s_law_same_right) l21 c21 k21, g_law_same_right := PySem.W.mg_of X G a21, n_abs := PySem.W.mg_none_of X G z_abs, n_all := PySem.W.mg_none_of X G z_all, n_bool := PySem.W.mg_none_of X G z_bool, n_enumerate := PySem.W.mg_none_of X G z_enumerate, n_int := PySem.W.mg_none_of X G z_int, n_isinstance := PySem.W.mg_none_of X G z_isinstance, n_len := PySem.W.mg_none_of X G z_len, n_list := PySem.W.mg_none_of X G z_list, n_max := PySem.W.mg_none_of X G z_max, n_min := PySem.W.mg_none_of X G z_min, n_range := PySem.W.mg_none_of X G z_range, n_repr := PySem.W.mg_none_of X G z_repr, n_sorted := PySem.W.mg_none_of X G z_sorted, n_tuple := PySem.W.mg_none_of X G z_tuple, t_MOST_CELLS := t_MOST_CELLS, c_MOST_CELLS := PySem.W.mg_of X G y_MOST_CELLS, t_MOST_STEPS := t_MOST_STEPS, c_MOST_STEPS := PySem.W.mg_of X G y_MOST_STEPS }
  exact ⟨_, fun s v => .of_eq rfl, fun base _ _ => ok_law (fun_mk (st := s_law) l22 c22 k22) T⟩
end Gk06

set_option Elab.async false
set_option linter.all false
set_option maxRecDepth 100000
namespace Gk06
open PySem PySem.Spec PyProof.Rows L2 VL SH
def plaw_mate_0 : Ms := (sPar2 4 5 (mCallS SH.d_law_draw (mCons (mVar 0) (mCons (mC (.int 5)) mNil))) (mCallS SH.d_law_draw (mCons (mVar 0) (mCons (mVar 1) mNil))))
def plaw_mate_1 : Ms := (sAsg 3 (m2 (im2 fMod) (mCB (imN fInt) (mCons (m2 fAdd (m2 fAdd (mVar 5) (mC (.int 1))) (mCallS SH.d_law_draw (mCons (mVar 0) (mCons (m2 (im2 fSub) (mVar 1) (mC (.int 1))) mNil)))) mNil)) (mVar 1)))
def plaw_mate_2 : Ms := (sIf (mB (m2 (im2 (bl2 gEq)) (mVar 4) (mC (.int 0)))) (sRet (mCallS SH.d_law_path (mCons (mVar 0) (mCons (mVar 1) (mCons (mC (.int 8)) mNil))))) sNext)
def plaw_mate_3 : Ms := (sIf (mB (m2 (im2 (bl2 gEq)) (mVar 4) (mC (.int 1)))) (sRet (m2 fAdd (mVar 2) (mSeq false (mCons (mSeq true (mCons (mC (.str (PySem.Str.ofString "swap"))) (mCons (mVar 5) (mCons (mVar 3) mNil)))) (mCons (mSeq true (mCons (mC (.str (PySem.Str.ofString "swap"))) (mCons (mVar 3) (mCons (mVar 5) mNil)))) mNil))))) sNext)
def plaw_mate_4 : Ms := (sIf (mB (m2 (im2 (bl2 gEq)) (mVar 4) (mC (.int 2)))) (sRet (mRev (mVar 2))) sNext)
def plaw_mate_5 : Ms := (sRet (mIf (mB (m2 (im2 (bl2 gEq)) (mVar 4) (mC (.int 3)))) (mSl (mVar 2) mNoPart (mPart (mCallS SH.d_law_draw (mCons (mVar 0) (mCons (m2 fAdd (mCB (imN fLen) (mCons (mVar 2) mNil)) (mC (.int 1))) mNil))))) (m2 fAdd (mVar 2) (mSeq false (mCons (mSeq true (mCons (mC (.str (PySem.Str.ofString "move"))) (mCons (mVar 5) (mCons (mVar 3) mNil)))) mNil)))))
theorem plaw_mate_eq : m_law_mate = (sSeq plaw_mate_0 (sSeq plaw_mate_1 (sSeq plaw_mate_2 (sSeq plaw_mate_3 (sSeq plaw_mate_4 plaw_mate_5))))) := rfl
def plaw_behind_0 : Ms := (sAsg 2 (mCB fList (mCons (mVar 0) mNil)))
def plaw_behind_1_0 : Ms := (sPar2 6 7 (m2 fIx (mVar 2) (mVar 4)) (m2 fIx (mVar 2) (mVar 5)))
def plaw_behind_1_1 : Ms := (sSetL (mVar 6) (mVar 2) (mVar 5))
def plaw_behind_1_2 : Ms := (sIf (mB (m2 (im2 (bl2 gEq)) (mVar 3) (mC (.str (PySem.Str.ofString "swap"))))) (sSetL (mVar 7) (mVar 2) (mVar 4)) sNext)
def plaw_behind_1_it : Mi := (mWalk (mVar 1))
def plaw_behind_1_b : Ms := (sSeq plaw_behind_1_0 (sSeq plaw_behind_1_1 plaw_behind_1_2))
def plaw_behind_2 : Ms := (sRet (mVar 2))
theorem plaw_behind_eq : m_law_behind = (sSeq plaw_behind_0 (sSeq (sFor plaw_behind_1_it (gmTup 3 (gmCons (gmName 3) (gmCons (gmName 4) (gmCons (gmName 5) gmNil)))) plaw_behind_1_b) plaw_behind_2)) := rfl
def plaw_turned_right_0 : Ms := (sAsg 2 (mCall d_law_behind (mCons (mLR1 (mVar 0)) (mCons (mVar 1) mNil))))
def plaw_turned_right_1 : Ms := (sAsg 3 (mIf (mB (m2 (im2 (bl2 gEq)) (mCB fSorted (mCons (mVar 2) mNil)) (mLR1 (mVar 0)))) (mLc (mRng rng1 (mCons (mVar 0) mNil)) (gmName 5) mYes (mIndex (mVar 2) (mVar 5)) [5]) (mC .none)))
def plaw_turned_right_2 : Ms := (hsNew 4 (rCons (mCall SH.d_turned (mCons (mVar 0) (mCons (mVar 1) mNil))) (rCons (mCallK SH.d_turned [1, 0] 0 2 mNil (mCons (mVar 1) (mCons (mVar 0) mNil))) rNil)) (hsIf (hTst (hS2 (bl2 gNe) (hSN fRepr (hVar 4)) (hCold (mCB (imN fRepr) (mCons (mSeq false (mCons (mVar 3) (mCons (mVar 3) mNil))) mNil))))) (sRet (mC (.bool false))) (hsIfIn (hCt (mB (m2 (im2 (bl2 gIsNot)) (mVar 3) (mC .none)))) (hsWeak (wsMut 4 0 (wsLeave (sIf (mOr (mB (m2 (im2 (bl2 gNe)) (mLc (mWalk (mVar 3)) (gmName 5) mYes (m2 fIx (mVar 2) (mVar 5)) [5]) (mLR1 (mVar 0)))) (mB (m2 (im2 (bl2 gNe)) (mCall SH.d_turned (mCons (mVar 0) (mCons (mVar 1) mNil))) (mVar 3)))) (sRet (mC (.bool false))) sNext)))) (sRet (mC (.bool true))))) [])
theorem plaw_turned_right_eq : m_law_turned_right = (sSeq plaw_turned_right_0 (sSeq plaw_turned_right_1 plaw_turned_right_2)) := rfl
def plaw_same_right_0 : Ms := (sAsgT (gmLst 2 (gmCons (gmName 7) (gmCons (gmName 8) gmNil))) (mLc (mWalkT (mSeq true (mCons (mVar 2) (mCons (mVar 3) mNil)))) (gmName 11) mYes (mCall d_law_behind (mCons (mLR1 (mVar 1)) (mCons (mVar 11) mNil))) [11]))
def plaw_same_right_1 : Ms := (sAsg 4 (mLc (mRng rng1 (mCons (mVar 1) mNil)) (gmName 12) (mB (m2 (im2 (bl2 gGt)) (mCallS SH.d_law_draw (mCons (mVar 0) (mCons (mC (.int 3)) mNil))) (mC (.int 0)))) (mVar 12) [12]))
def plaw_same_right_2 : Ms := (sAsg 5 (mCallS SH.d_law_content (mCons (mVar 0) (mCons (mVar 1) (mCons (mC (.bool false)) mNil)))))
def plaw_same_right_3_0 : Ms := (sAsg 9 (m2 (im2 (bl2 gEq)) (mLc (mWalk (mVar 6)) (gmName 12) (mB (m2 (im2 (bl2 gNe)) (m2 fIx (mVar 7) (mVar 12)) (m2 fIx (mVar 8) (mVar 12)))) (mVar 12) [12]) (mSeq false mNil)))
def plaw_same_right_3_1 : Ms := (sAsg 10 (mSeq false (mCons (mCall SH.d_same_rows (mCons (mVar 1) (mCons (mVar 2) (mCons (mVar 3) (mCons (mVar 6) mNil))))) mNil)))
def plaw_same_right_3_2 : Ms := (sDrop (mApp (mVar 10) (mCallK SH.d_same_rows [3, 2, 1, 0] 0 4 mNil (mCons (mVar 6) (mCons (mVar 3) (mCons (mVar 2) (mCons (mVar 1) mNil)))))))
def plaw_same_right_3_3 : Ms := (sIf (mB (m2 (im2 (bl2 gNe)) (mCB (imN fRepr) (mCons (m2 fAdd (mVar 10) (mSeq false (mCons (mCall SH.d_same_rows (mCons (mVar 1) (mCons (mVar 3) (mCons (mVar 2) (mCons (mVar 6) mNil))))) mNil))) mNil)) (mCB (imN fRepr) (mCons (m2 fMul (mSeq false (mCons (mVar 9) mNil)) (mC (.int 3))) mNil)))) (sRet (mC (.bool false))) sNext)
def plaw_same_right_3_4 : Ms := (sPar2 11 13 (mCall d_law_behind (mCons (mVar 5) (mCons (mVar 2) mNil))) (mCall d_law_behind (mCons (mVar 5) (mCons (mVar 3) mNil))))
def plaw_same_right_3_5 : Ms := (sIf (mAnd (mB (mVar 9)) (mB (m2 (im2 (bl2 gNe)) (mLc (mWalk (mVar 6)) (gmName 12) mYes (m2 fIx (mVar 11) (mVar 12)) [12]) (mLc (mWalk (mVar 6)) (gmName 12) mYes (m2 fIx (mVar 13) (mVar 12)) [12])))) (sRet (mC (.bool false))) sNext)
def plaw_same_right_3_it : Mi := (mWalkT (mSeq true (mCons (mVar 4) (mCons (mLR1 (mVar 1)) (mCons (mSeq false mNil) (mCons (mLc (mRng rng1 (mCons (mVar 1) mNil)) (gmName 12) (mB (m2 (im2 (bl2 gEq)) (m2 fIx (mVar 7) (mVar 12)) (m2 fIx (mVar 8) (mVar 12)))) (mVar 12) [12]) mNil))))))
def plaw_same_right_3_b : Ms := (sSeq plaw_same_right_3_0 (sSeq plaw_same_right_3_1 (sSeq plaw_same_right_3_2 (sSeq plaw_same_right_3_3 (sSeq plaw_same_right_3_4 plaw_same_right_3_5)))))
def plaw_same_right_4 : Ms := (sRet (mC (.bool true)))
theorem plaw_same_right_eq : m_law_same_right = (sSeq plaw_same_right_0 (sSeq plaw_same_right_1 (sSeq plaw_same_right_2 (sSeq (sFor plaw_same_right_3_it (gmName 6) plaw_same_right_3_b) plaw_same_right_4)))) := rfl
def plaw_0_0 : Ms := (sAsg 4 (mCall SH.d_law_source (mCons (mVar 3) (mCons (mVar 2) mNil))))
def plaw_0_1_0 : Ms := (sAsg 6 (m2 fAdd (mC (.int 2)) (mCallS SH.d_law_draw (mCons (mVar 4) (mCons (mC (.int 6)) mNil)))))
def plaw_0_1_1 : Ms := (sAsg 7 (mCallS SH.d_law_path (mCons (mVar 4) (mCons (mVar 6) (mCons (mC (.int 8)) mNil)))))
def plaw_0_1_2 : Ms := (sAsg 8 (mCallS d_law_mate (mCons (mVar 4) (mCons (mVar 6) (mCons (mVar 7) mNil)))))
def plaw_0_1_3 : Ms := (sAsg 9 (mCB (imN fRepr) (mCons (mSeq false (mCons (mVar 7) (mCons (mVar 8) mNil))) mNil)))
def plaw_0_1_4 : Ms := (sIf (mOr (mNot (mB (mCallS d_law_same_right (mCons (mVar 4) (mCons (mVar 6) (mCons (mVar 7) (mCons (mVar 8) mNil))))))) (mNot (mB (mCall d_law_turned_right (mCons (mVar 6) (mCons (mVar 7) mNil)))))) (sRet (mC (.bool false))) sNext)
def plaw_0_1_5 : Ms := (sIf (mOr (mNot (mB (mCall d_law_turned_right (mCons (mVar 6) (mCons (mVar 8) mNil))))) (mB (m2 (im2 (bl2 gNe)) (mCB (imN fRepr) (mCons (mSeq false (mCons (mVar 7) (mCons (mVar 8) mNil))) mNil)) (mVar 9)))) (sRet (mC (.bool false))) sNext)
def plaw_0_1_it : Mi := (mRng rng1 (mCons (mC (.int 3)) mNil))
def plaw_0_1_b : Ms := (sSeq plaw_0_1_0 (sSeq plaw_0_1_1 (sSeq plaw_0_1_2 (sSeq plaw_0_1_3 (sSeq plaw_0_1_4 plaw_0_1_5)))))
def plaw_0_it : Mi := (mEnum (mCons (mSl (m2 fAdd (mVar 0) (mSeq false (mCons (mC (.int 0)) mNil))) mNoPart (mPart (mCB (imN fMax2) (mCons (mC (.int 1)) (mCons (mCB (imN fMin2) (mCons (mCB (imN fLen) (mCons (mVar 0) mNil)) (mCons (mC (.int 8)) mNil))) mNil))))) mNil))
def plaw_0_b : Ms := (sSeq plaw_0_0 (sFor plaw_0_1_it (gmName 5) plaw_0_1_b))
def plaw_1 : Ms := (sAsg 1 (mSeq false (mCons (mCall SH.d_turned (mCons (mC (.int 3)) (mCons (mSeq false (mCons (mSeq true (mCons (mC (.str (PySem.Str.ofString "swap"))) (mCons (mC (.int 0)) (mCons (mC (.int 1)) mNil)))) (mCons (mSeq true (mCons (mC (.str (PySem.Str.ofString "swap"))) (mCons (mC (.int 1)) (mCons (mC (.int 2)) mNil)))) mNil))) mNil))) (mCons (mCall SH.d_turned (mCons (mC (.int 2)) (mCons (mSeq false (mCons (mSeq true (mCons (mC (.str (PySem.Str.ofString "move"))) (mCons (mC (.int 0)) (mCons (mC (.int 1)) mNil)))) mNil)) mNil))) (mCons (mCall SH.d_turned (mCons (mC (.int 1)) (mCons (mSeq false mNil) mNil))) mNil)))))
def plaw_2 : Ms := (sRet (mBV (mAnd (mB (m2 (im2 (bl2 gEq)) (mVar 1) (mSeq false (mCons (mSeq false (mCons (mC (.int 2)) (mCons (mC (.int 0)) (mCons (mC (.int 1)) mNil)))) (mCons (mC .none) (mCons (mSeq false (mCons (mC (.int 0)) mNil)) mNil)))))) (mB (mCall SH.d_same_rows (mCons (mC (.int 2)) (mCons (mSeq false (mCons (mSeq true (mCons (mC (.str (PySem.Str.ofString "move"))) (mCons (mC (.int 0)) (mCons (mC (.int 1)) mNil)))) mNil)) (mCons (mSeq false mNil) (mCons (mSeq false (mCons (mC (.int 0)) mNil)) mNil)))))))))
theorem plaw_eq : m_law = (sSeq (sFor plaw_0_it (gmTup 2 (gmCons (gmName 2) (gmCons (gmName 3) gmNil))) plaw_0_b) (sSeq plaw_1 plaw_2)) := rfl
theorem law_beh {many : Int} {xs path : List D} (hs : ∀ d ∈ path, PStep many d) (hl : (xs.length : Int) = many) : d_law_behind [.list xs, .list path] = some (.fr (doR xs path)) := by
  show bodyR (m_law_behind [some (.im (.list xs)), some (.im (.list path)), none, none, none, none, none, none]) = _
  have e0 : plaw_behind_0 [some (.im (.list xs)), some (.im (.list path)), none, none, none, none, none, none] = some (.nx (BG xs path xs none none none none none)) := by
    simp [plaw_behind_0, BG, sAsg, sIf, mIf, mB, VL.m2, m1, im2, bl2, mVar, mVarO, mC, hold, peek, peekO, isSc, fin, mCons, mNil, frzA, frz, frzO, asgR, mCB, sNext, peekA, fIx, mSeq, LIM, sSetL, intR, slotUp, fList]
  have e1 : plaw_behind_1_it (BG xs path xs none none none none none) = some (path, BG xs path xs none none none none none) := by
    simp [plaw_behind_1_it, BG, sAsg, sIf, mIf, mB, VL.m2, m1, im2, bl2, mVar, mVarO, mC, hold, peek, peekO, isSc, fin, mCons, mNil, frzA, frz, frzO, asgR, mCB, sNext, peekA, fIx, mSeq, LIM, sSetL, intR, slotUp, mWalk]
  obtain ⟨Γ', e2, o3, o4, o5, o6, o7, rfl⟩ := for_pre (mt := gmTup 3 (gmCons (gmName 3) (gmCons (gmName 4) (gmCons (gmName 5) gmNil)))) (m := plaw_behind_1_b) (ds := path) (pre := []) (Γ := BG xs path xs none none none none none)
    (I := fun pre Γ => ∃ o3 o4 o5 o6 o7, Γ = BG xs path (doR xs pre) o3 o4 o5 o6 o7) ⟨_, _, _, _, _, rfl⟩ (by
      rintro pre d Γ hd ⟨o3, o4, o5, o6, o7, rfl⟩
      obtain ⟨w, i, j, rfl, hw, i1, i2, j1, j2, _⟩ := hs d hd
      have hlen := doR_len pre xs
      have hsn := doR_snoc xs pre (.tuple [w, .int i, .int j])
      generalize doR xs pre = ys at hlen hsn ⊢
      obtain ⟨a1, a2⟩ := at_set (xs := ys) i1 (by omega)
      obtain ⟨b1, b2⟩ := at_set (xs := ys) j1 (by omega)
      have q0 : plaw_behind_1_0 (BG xs path ys (some (.im w)) (some (.im (.int i))) (some (.im (.int j))) o6 o7) = some (.nx (BG xs path ys (some (.im w)) (some (.im (.int i))) (some (.im (.int j))) (some (.im (ys.getD i.toNat .none))) (some (.im (ys.getD j.toNat .none))))) := by
        simp [plaw_behind_1_0, BG, sAsg, sIf, mIf, mB, VL.m2, m1, im2, bl2, mVar, mVarO, mC, hold, peek, peekO, isSc, fin, mCons, mNil, frzA, frz, frzO, asgR, mCB, sNext, peekA, fIx, mSeq, LIM, sSetL, intR, slotUp, sPar2, m2R, VL.settle, put, a1, b1]
      have q1 : plaw_behind_1_1 (BG xs path ys (some (.im w)) (some (.im (.int i))) (some (.im (.int j))) (some (.im (ys.getD i.toNat .none))) (some (.im (ys.getD j.toNat .none)))) = some (.nx (BG xs path (ys.set j.toNat (ys.getD i.toNat .none)) (some (.im w)) (some (.im (.int i))) (some (.im (.int j))) (some (.im (ys.getD i.toNat .none))) (some (.im (ys.getD j.toNat .none))))) := by
        simp [plaw_behind_1_1, BG, sAsg, sIf, mIf, mB, VL.m2, m1, im2, bl2, mVar, mVarO, mC, hold, peek, peekO, isSc, fin, mCons, mNil, frzA, frz, frzO, asgR, mCB, sNext, peekA, fIx, mSeq, LIM, sSetL, intR, slotUp, b2]
      have q2 : plaw_behind_1_2 (BG xs path (ys.set j.toNat (ys.getD i.toNat .none)) (some (.im w)) (some (.im (.int i))) (some (.im (.int j))) (some (.im (ys.getD i.toNat .none))) (some (.im (ys.getD j.toNat .none)))) = some (.nx (BG xs path (doS ys (.tuple [w, .int i, .int j])) (some (.im w)) (some (.im (.int i))) (some (.im (.int j))) (some (.im (ys.getD i.toNat .none))) (some (.im (ys.getD j.toNat .none))))) := by
        rcases hw with rfl | rfl
        · have e := gEqS "move" "swap" false (by decide +kernel)
          have e' : PyData.eqv (.str (PySem.Str.ofString "move")) (.str (PySem.Str.ofString "swap")) = false := by decide +kernel
          simp [plaw_behind_1_2, BG, sAsg, sIf, mIf, mB, VL.m2, m1, im2, bl2, mVar, mVarO, mC, hold, peek, peekO, isSc, fin, mCons, mNil, frzA, frz, frzO, asgR, mCB, sNext, peekA, fIx, mSeq, LIM, sSetL, intR, slotUp, e, doS, e']
        · have e := gEqS "swap" "swap" true (by decide +kernel)
          have e' : PyData.eqv (.str (PySem.Str.ofString "swap")) (.str (PySem.Str.ofString "swap")) = true := by decide +kernel
          simp [plaw_behind_1_2, BG, sAsg, sIf, mIf, mB, VL.m2, m1, im2, bl2, mVar, mVarO, mC, hold, peek, peekO, isSc, fin, mCons, mNil, frzA, frz, frzO, asgR, mCB, sNext, peekA, fIx, mSeq, LIM, sSetL, intR, slotUp, e, doS, e', a2]
      refine ⟨BG xs path ys (some (.im w)) (some (.im (.int i))) (some (.im (.int j))) o6 o7, _, rfl, (seq_nx q0).trans ((seq_nx q1).trans q2), some (.im w), some (.im (.int i)), some (.im (.int j)), some (.im (ys.getD i.toNat .none)), some (.im (ys.getD j.toNat .none)), ?_⟩
      rw [hsn])
  rw [plaw_behind_eq, seq_nx e0, seq_nx ((for_eq e1).trans e2)]
  simp [plaw_behind_2, BG, sAsg, sIf, mIf, mB, VL.m2, m1, im2, bl2, mVar, mVarO, mC, hold, peek, peekO, isSc, fin, mCons, mNil, frzA, frz, frzO, asgR, mCB, sNext, peekA, fIx, mSeq, LIM, sSetL, intR, slotUp, sRet, retR, retO, bodyR]
abbrev LG (ss : List D) (many : Int) (line : List D) (o3 o4 o5 : Option OV) : Gm := [some (.ow true ss), some (.im (.int many)), some (.im (.list line)), o3, o4, o5]
section
variable {B many : Int} {ss line : List D} {o3 o4 o5 : Option OV}
theorem mate (h : Src B ss) (hB : B ≤ 40000) (hm1 : 2 ≤ many) (hm2 : many ≤ 60) (hl : line.length ≤ 8) (hs : ∀ d ∈ line, PStep many d) : ∃ fo ss', d_law_mate ss [.int many, .list line] = some (.fr fo, ss') ∧ fo.length ≤ 10 ∧ (∀ d ∈ fo, PStep many d) ∧ Src (B + 1310) ss' := by
  obtain ⟨way, s1, e1, w1, w2, h1⟩ := drawS h (by omega) (c := 5) (by omega) (by omega)
  obtain ⟨one, s2, e2, g1, g2, h2⟩ := drawS h1 (by omega) (c := many) (by omega) (by omega)
  obtain ⟨r, s3, e3, r1, r2, h3⟩ := drawS h2 (by omega) (c := many - 1) (by omega) (by omega)
  have m3 : 0 < many := by omega
  have k1 : 0 ≤ (one + 1 + r) % many := Int.emod_nonneg _ (by omega)
  have k2 : (one + 1 + r) % many < many := Int.emod_lt_of_pos _ m3
  have k3 : (one + 1 + r) % many ≠ one := mod_ne g1 g2 r1 r2
  generalize em : (one + 1 + r) % many = mt at k1 k2 k3
  have q0 : plaw_mate_0 [some (.ow true ss), some (.im (.int many)), some (.im (.list line)), none, none, none] = some (.nx (LG s2 many line none (some (.im (.int way))) (some (.im (.int one))))) := by
    simp [plaw_mate_0, LG, sAsg, sIf, mIf, mB, mBV, mAnd, mOr, mNot, VL.m2, m1, im2, bl2, gEqI, gNeI, mVar, mVarO, mC, hold, peek, peekO, isSc, fin, mCallS, mCall, mCons, mNil, callS, frzA, frz, frzO, frR, asgR, mCB, imN, fInt, fAdd, fSub, fMod, fLen, ii, sNext, peekA, fIx, mSeq, LIM, sPar2, m2R, VL.settle, put, e1, e2]
  have q1 : plaw_mate_1 (LG s2 many line none (some (.im (.int way))) (some (.im (.int one)))) = some (.nx (LG s3 many line (some (.im (.int mt))) (some (.im (.int way))) (some (.im (.int one))))) := by
    simp [plaw_mate_1, LG, sAsg, sIf, mIf, mB, mBV, mAnd, mOr, mNot, VL.m2, m1, im2, bl2, gEqI, gNeI, mVar, mVarO, mC, hold, peek, peekO, isSc, fin, mCallS, mCall, mCons, mNil, callS, frzA, frz, frzO, frR, asgR, mCB, imN, fInt, fAdd, fSub, fMod, fLen, ii, sNext, peekA, fIx, mSeq, LIM, e3, m3, em]
  have c1 : line.length + 2 ≤ 4000000 := by omega
  have c2 : line.length ≤ 3999998 := by omega
  have c3 : line.length + 1 ≤ 4000000 := by omega
  have c4 : line.length ≤ 3999999 := by omega
  have hr : way = 0 ∨ way = 1 ∨ way = 2 ∨ way = 3 ∨ way = 4 := by omega
  have st : ∀ x : D, PWord x → PStep many (.tuple [x, .int one, .int mt]) := fun x hx => ⟨x, one, mt, rfl, hx, g1, g2, k1, k2, fun z => k3 z.symm⟩
  have st2 : ∀ x : D, PWord x → PStep many (.tuple [x, .int mt, .int one]) := fun x hx => ⟨x, mt, one, rfl, hx, k1, k2, g1, g2, k3⟩
  have go : d_law_mate ss [.int many, .list line] = bodyS ((sSeq plaw_mate_2 (sSeq plaw_mate_3 (sSeq plaw_mate_4 plaw_mate_5))) (LG s3 many line (some (.im (.int mt))) (some (.im (.int way))) (some (.im (.int one))))) := by
    show bodyS (m_law_mate [some (.ow true ss), some (.im (.int many)), some (.im (.list line)), none, none, none]) = _
    rw [plaw_mate_eq, seq_nx q0, seq_nx q1]
  rcases hr with rfl | rfl | rfl | rfl | rfl
  · obtain ⟨fo, s4, e4, f1, f2, f3⟩ := path (most := 8) h3 (by omega) hm1 hm2 (by omega) (by omega)
    exact ⟨fo, s4, by rw [go]; simp [plaw_mate_2, sSeq, LG, sAsg, sIf, mIf, mB, mBV, mAnd, mOr, mNot, VL.m2, m1, im2, bl2, gEqI, gNeI, mVar, mVarO, mC, hold, peek, peekO, isSc, fin, mCallS, mCall, mCons, mNil, callS, frzA, frz, frzO, frR, asgR, mCB, imN, fInt, fAdd, fSub, fMod, fLen, ii, sNext, peekA, fIx, mSeq, LIM, e4, sRet, retR, retO, bodyS, ss0], by omega, f2, f3.mono (by omega)⟩
  · refine ⟨line ++ [.tuple [.str (PySem.Str.ofString "swap"), .int one, .int mt], .tuple [.str (PySem.Str.ofString "swap"), .int mt, .int one]], s3, by rw [go]; simp [plaw_mate_2, plaw_mate_3, sSeq, LG, sAsg, sIf, mIf, mB, mBV, mAnd, mOr, mNot, VL.m2, m1, im2, bl2, gEqI, gNeI, mVar, mVarO, mC, hold, peek, peekO, isSc, fin, mCallS, mCall, mCons, mNil, callS, frzA, frz, frzO, frR, asgR, mCB, imN, fInt, fAdd, fSub, fMod, fLen, ii, sNext, peekA, fIx, mSeq, LIM, sRet, retR, retO, bodyS, ss0, c1, c2], ?_, ma hs (mc (st _ (.inr rfl)) (mc (st2 _ (.inr rfl)) m0)), h3.mono (by omega)⟩
    rw [List.length_append]
    show line.length + 2 ≤ 10
    omega
  · refine ⟨line.reverse, s3, by rw [go]; simp [plaw_mate_2, plaw_mate_3, plaw_mate_4, mRev, sSeq, LG, sAsg, sIf, mIf, mB, mBV, mAnd, mOr, mNot, VL.m2, m1, im2, bl2, gEqI, gNeI, mVar, mVarO, mC, hold, peek, peekO, isSc, fin, mCallS, mCall, mCons, mNil, callS, frzA, frz, frzO, frR, asgR, mCB, imN, fInt, fAdd, fSub, fMod, fLen, ii, sNext, peekA, fIx, mSeq, LIM, sRet, retR, retO, bodyS, ss0], ?_, fun d hd => hs d (List.mem_reverse.mp hd), h3.mono (by omega)⟩
    rw [List.length_reverse]
    omega
  · obtain ⟨k, s4, e4, f1, f2, f3⟩ := drawS h3 (by omega) (c := (line.length : Int) + 1) (by omega) (by omega)
    refine ⟨cutD line none (some k), s4, by rw [go]; simp [plaw_mate_2, plaw_mate_3, plaw_mate_4, plaw_mate_5, mRev, mSl, mNoPart, mPart, sSeq, LG, sAsg, sIf, mIf, mB, mBV, mAnd, mOr, mNot, VL.m2, m1, im2, bl2, gEqI, gNeI, mVar, mVarO, mC, hold, peek, peekO, isSc, fin, mCallS, mCall, mCons, mNil, callS, frzA, frz, frzO, frR, asgR, mCB, imN, fInt, fAdd, fSub, fMod, fLen, ii, sNext, peekA, fIx, mSeq, LIM, sRet, retR, retO, bodyS, ss0, e4], ?_, fun d hd => hs d (cutD_mem hd), f3.mono (by omega)⟩
    have := cutD_len line none (some k)
    omega
  · refine ⟨line ++ [.tuple [.str (PySem.Str.ofString "move"), .int one, .int mt]], s3, by rw [go]; simp [plaw_mate_2, plaw_mate_3, plaw_mate_4, plaw_mate_5, sSeq, LG, sAsg, sIf, mIf, mB, mBV, mAnd, mOr, mNot, VL.m2, m1, im2, bl2, gEqI, gNeI, mVar, mVarO, mC, hold, peek, peekO, isSc, fin, mCallS, mCall, mCons, mNil, callS, frzA, frz, frzO, frR, asgR, mCB, imN, fInt, fAdd, fSub, fMod, fLen, ii, sNext, peekA, fIx, mSeq, LIM, sRet, retR, retO, bodyS, ss0, c3, c4], ?_, ma hs (mc (st _ (.inl rfl)) m0), h3.mono (by omega)⟩
    rw [List.length_append]
    show line.length + 1 ≤ 10
    omega
end
end Gk06

set_option Elab.async false
set_option linter.all false
set_option maxRecDepth 100000
namespace Gk06
open PySem PySem.Spec PyProof.Rows L2 VL SH SH.K
abbrev gt (s : List Int) (k : Int) : Int := s.getD k.toNat 0
theorem gt_idx : ∀ {s : List Int} {k : Int}, k ∈ s → s.getD (s.idxOf k) 0 = k
  | a :: s, k, h => by
    rw [List.idxOf_cons]
    by_cases e : a = k
    · subst e
      simp
    · have e' : (a == k) = false := beq_eq_false_iff_ne.mpr e
      have h2 : k ∈ s := by
        cases h with
        | head => exact absurd rfl e
        | tail _ h => exact h
      rw [e']
      exact gt_idx h2
theorem idx_lt : ∀ {s : List Int} {k : Int}, k ∈ s → s.idxOf k < s.length := fun h => List.idxOf_lt_length_of_mem h
theorem gNe_nn (a : List Int) : gNe (.list (il a)) .none = some true := by
  unfold gNe
  rw [il_sh a]
  rfl
abbrev TG (n : Int) (path : List D) (o2 o3 o4 o5 : Option OV) : Gm := [some (.im (.int n)), some (.im (.list path)), o2, o3, o4, o5]
def fIdx (s : List Int) : D → D
  | .int k => .int ((s.idxOf k : Nat) : Int)
  | _ => .none
theorem fIdx_il (s ns : List Int) : (il ns).map (fIdx s) = il (ns.map fun k => ((s.idxOf k : Nat) : Int)) := by
  unfold il
  rw [List.map_map, List.map_map]
  rfl
section
variable {n : Int} {path : List D} {o2 o3 o4 o5 : Option OV} {s ix : List Int}
theorem tr0 (a1 : (-1000000 : Int) ≤ n) (a2 : n ≤ 1000000) (e1 : d_law_behind [.list (rangeD 0 n.toNat), .list path] = some (.fr (il s))) : plaw_turned_right_0 (TG n path o2 o3 o4 o5) = some (.nx (TG n path (some (.ow false (il s))) o3 o4 o5)) := by
  simp [plaw_turned_right_0, TG, a1, a2, e1]
theorem tr1a (h1 : 2 ≤ n) (h2 : n ≤ 60) (hb : sortI s = rgI n.toNat) (eix : (rgI n.toNat).map (fun k => ((s.idxOf k : Nat) : Int)) = ix) : plaw_turned_right_1 (TG n path (some (.ow false (il s))) o3 o4 none) = some (.nx (TG n path (some (.ow false (il s))) (some (.ow false (il ix))) o4 none)) := by
  have a1 : (-1000000 : Int) ≤ n := by omega
  have a2 : n ≤ 1000000 := by omega
  have a3 : (-1000000000 : Int) ≤ n := by omega
  have a4 : n ≤ 1000000000 := by omega
  have e2 := gEq_il (sortI s) (rgI n.toNat)
  rw [decide_eq_true hb] at e2
  have e3 := fSorted_il s
  have r0 := range_il n.toNat
  have lc := lc_one (mi := mRng rng1 (mCons (mVar 0) mNil)) (mt := gmName 5) (mc := mYes) (me := mIndex (mVar 2) (mVar 5)) (vs := [5]) (Γ := TG n path (some (.ow false (il s))) o3 o4 none) (Γ1 := TG n path (some (.ow false (il s))) o3 o4 none) (ds := il (rgI n.toNat))
    (fun d => some (fIdx s d))
    (by simp [TG, mRng, rng1, a3, a4, r0]) (by rfl) (by rw [List.length_map, rgI_len]; show _ ≤ 4000000; omega) (fun d hd => by
      obtain ⟨k, hk, rfl⟩ := List.mem_map.mp hd
      have q := fIndex_il (mem_of_sort hb hk)
      refine ⟨TG n path (some (.ow false (il s))) o3 o4 (some (.im (.int k))), ?_, rfl⟩
      simp [lcTurn, wipeG, TG, mIndex, isL, q, fIdx])
  rw [List.filterMap_eq_map', fIdx_il, eix] at lc
  have lc' : mLc (mRng rng1 (mCons (mVar 0) mNil)) (gmName 5) mYes (mIndex (mVar 2) (mVar 5)) [5] (TG n path (some (.ow false (il s))) o3 o4 none) = some (.fr (il ix), TG n path (some (.ow false (il s))) o3 o4 none) := lc
  simp only [TG] at lc'
  simp [plaw_turned_right_1, TG, a1, a2, e3, r0, e2, lc']
theorem tr1b (h1 : 2 ≤ n) (h2 : n ≤ 60) (hb : ¬ sortI s = rgI n.toNat) : plaw_turned_right_1 (TG n path (some (.ow false (il s))) o3 o4 none) = some (.nx (TG n path (some (.ow false (il s))) (some (.im .none)) o4 none)) := by
  have a1 : (-1000000 : Int) ≤ n := by omega
  have a2 : n ≤ 1000000 := by omega
  have e2 := gEq_il (sortI s) (rgI n.toNat)
  rw [decide_eq_false hb] at e2
  have e3 := fSorted_il s
  have r0 := range_il n.toNat
  simp [plaw_turned_right_1, TG, a1, a2, e3, r0, e2]
theorem tr2b (t1 : SH.d_turned [.int n, .list path] = some (.im .none)) : bodyR (plaw_turned_right_2 (TG n path (some (.ow false (il s))) (some (.im .none)) none none)) = some (.im (.bool true)) := by
  obtain ⟨z, z1, z2, _⟩ := reprSame (Tx.list (n := 4) (k := 0) (m := 2) (ds := [.none, .none]) (mc Tx.none (mc Tx.none m0)) (Nat.le_refl _)) (by decide) (by decide)
  generalize il s = S
  simp [plaw_turned_right_2, hsNew, rCons, rNil, rowOf, hsIf, hsIfIn, hTst, hCt, hS2, hSN, hVar, hget, hCold, hsWeak, wsMut, wsLeave, ownAt, rowsLe, MOST, hfree, rowD, ixN, TG, mCallK, mArgsK, permD, t1, z1, z2, isNoneD, gIsNot, ends]
theorem tr2a (h1 : 2 ≤ n) (h2 : n ≤ 60) (t1 : SH.d_turned [.int n, .list path] = some (.fr (il ix))) (hix : ∀ k ∈ ix, 0 ≤ k ∧ k < s.length) (hsl : s.length = n.toNat) (hixl : ix.length = n.toNat) (hback : ix.map (gt s) = rgI n.toNat) : bodyR (plaw_turned_right_2 (TG n path (some (.ow false (il s))) (some (.ow false (il ix))) none none)) = some (.im (.bool true)) := by
  have t2 := gNe_nn ix
  obtain ⟨z, z1, z2⟩ := two_repr (l := ix) (by omega) (fun k hk => by have := hix k hk; omega)
  have hil : (il ix).length < 1000000 := by rw [List.length_map]; omega
  have hil' : (il ix).length ≤ 1000000 := by omega
  have n1 := neI ix
  have n2 := neI (rgI n.toNat)
  have a1 : (-1000000 : Int) ≤ n := by omega
  have a2 : n ≤ 1000000 := by omega
  have r0 := range_il n.toNat
  have lc2 : ∀ o4, mLc (mWalk (mVar 3)) (gmName 5) mYes (VL.m2 fIx (mVar 2) (mVar 5)) [5] (TG n path (some (.ow false (il s))) (some (.im (.list (il ix)))) o4 none) = some (.fr (il (rgI n.toNat)), TG n path (some (.ow false (il s))) (some (.im (.list (il ix)))) o4 none) := by
    intro o4
    have lc2 := lc_one (mi := mWalk (mVar 3)) (mt := gmName 5) (mc := mYes) (me := VL.m2 fIx (mVar 2) (mVar 5)) (vs := [5]) (Γ := TG n path (some (.ow false (il s))) (some (.im (.list (il ix)))) o4 none) (Γ1 := TG n path (some (.ow false (il s))) (some (.im (.list (il ix)))) o4 none) (ds := il ix)
      (fun d => match d with | .int k => some (.int (gt s k)) | _ => none)
      (by simp [TG]) (by rfl) (by rw [List.length_map]; show _ ≤ 4000000; omega) (fun d hd => by
        obtain ⟨k, hk, rfl⟩ := List.mem_map.mp hd
        have q := atI_il (ns := s) (hix k hk).1 (hix k hk).2
        refine ⟨TG n path (some (.ow false (il s))) (some (.im (.list (il ix)))) o4 (some (.im (.int k))), ?_, rfl⟩
        simp only [List.getD_eq_getElem?_getD] at q ⊢
        simp [lcTurn, wipeG, TG, q])
    rw [filterMap_il (f := fun k => some (gt s k)) (fun k _ => rfl), List.filterMap_eq_map', hback] at lc2
    exact lc2
  simp only [TG] at lc2
  generalize il (rgI n.toNat) = RG at *
  generalize il s = S at *
  generalize il ix = IX at *
  simp [plaw_turned_right_2, hsNew, rCons, rNil, rowOf, hsIf, hsIfIn, hTst, hCt, hS2, hSN, hVar, hget, hCold, hsWeak, wsMut, wsLeave, ownAt, rowsLe, MOST, hfree, rowD, ixN, TG, mCallK, mArgsK, permD, t1, z1, z2, hil, hil', isNoneD, gIsNot, ends, lc2, r0, n1, n2, t2, a1, a2]
end
theorem law_turned {n : Int} {path : List D} (h1 : 2 ≤ n) (h2 : n ≤ 60) (hs : ∀ d ∈ path, PStep n d) (hl : path.length ≤ 200) : d_law_turned_right [.int n, .list path] = some (.im (.bool true)) := by
  obtain ⟨s, e, hlen, hmem⟩ := src_ex (by omega) hs
  have e1 := law_beh (xs := rangeD 0 n.toNat) (path := path) hs (by rw [rangeD_len]; omega)
  rw [e] at e1
  have t1 := SH.K.turned (by omega) h2 hs hl e hlen
  show bodyR (m_law_turned_right (TG n path none none none none)) = _
  rw [plaw_turned_right_eq, seq_nx (tr0 (by omega) (by omega) e1)]
  by_cases hb : sortI s = rgI n.toNat
  · rw [if_pos hb] at t1
    have eix : (rgI n.toNat).map (fun k => ((s.idxOf k : Nat) : Int)) = (rgI n.toNat).map (fun k => ((s.idxOf k : Nat) : Int)) := rfl
    rw [seq_nx (tr1a h1 h2 hb rfl)]
    refine tr2a h1 h2 t1 ?_ (by omega) ?_ ?_
    · intro k hk
      obtain ⟨j, hj, rfl⟩ := List.mem_map.mp hk
      have := idx_lt (mem_of_sort hb hj)
      omega
    · rw [List.length_map, rgI_len]
    · rw [List.map_map]
      have : ∀ l : List Int, (∀ k ∈ l, k ∈ s) → l.map (gt s ∘ fun k => ((s.idxOf k : Nat) : Int)) = l := fun l => by
        induction l with
        | nil => exact fun _ => rfl
        | cons k l ih =>
          intro h
          rw [List.map_cons, ih fun j hj => h j (List.mem_cons_of_mem _ hj)]
          have := gt_idx (h k (List.mem_cons_self ..))
          show s.getD (((s.idxOf k : Nat) : Int)).toNat 0 :: l = _
          rw [Int.toNat_natCast, this]
      exact this _ fun k hk => mem_of_sort hb hk
  · rw [if_neg hb] at t1
    rw [seq_nx (tr1b h1 h2 hb)]
    exact tr2b t1
end Gk06

set_option Elab.async false
set_option linter.all false
set_option maxRecDepth 100000
namespace Gk06
open PySem PySem.Spec PyProof.Rows L2 VL SH SH.K
abbrev SG (ss : List D) (n : Int) (p q : List D) (o4 o5 o6 : Option OV) (s1 s2 : List Int) (o9 o10 o11 o13 : Option OV) : Gm := [some (.ow true ss), some (.im (.int n)), some (.im (.list p)), some (.im (.list q)), o4, o5, o6, some (.im (.list (il s1))), some (.im (.list (il s2))), o9, o10, o11, none, o13]
section
variable {B n : Int} {ss : List D} {p q : List D} {s1 s2 h c : List Int} {o4 o5 o6 o9 o10 o11 o13 : Option OV}
theorem sr0 (h1 : 2 ≤ n) (h2 : n ≤ 60) (hp : ∀ d ∈ p, PStep n d) (hq : ∀ d ∈ q, PStep n d) (e1 : doR (rangeD 0 n.toNat) p = il s1) (e2 : doR (rangeD 0 n.toNat) q = il s2) :
    plaw_same_right_0 [some (.ow true ss), some (.im (.int n)), some (.im (.list p)), some (.im (.list q)), none, none, none, none, none, none, none, none, none, none] = some (.nx (SG ss n p q none none none s1 s2 none none none none)) := by
  have f1 := law_beh (xs := rangeD 0 n.toNat) (path := p) hp (by rw [rangeD_len]; omega)
  have f2 := law_beh (xs := rangeD 0 n.toNat) (path := q) hq (by rw [rangeD_len]; omega)
  have r0 := range_il n.toNat
  rw [e1, r0] at f1
  rw [e2, r0] at f2
  have a1 : (-1000000 : Int) ≤ n := by omega
  have a2 : n ≤ 1000000 := by omega
  simp [plaw_same_right_0, SG, sAsg, sIf, mIf, mB, mBV, mAnd, mOr, mNot, VL.m2, m1, im2, bl2, gEqI, gNeI, mVar, mVarO, mC, hold, peek, peekO, isSc, fin, mCallS, mCall, mCons, mNil, callS, frzA, frz, frzO, frR, asgR, mCB, imN, fInt, fAdd, fSub, fMod, fLen, ii, sNext, peekA, fIx, mSeq, LIM, sDrop, sRet, retR, retO, bodyR, mChain, gLe, gInt, sAsgT, mLc, mWalkT, hidOk, lcGo, lcTurn, wipeG, mergeG, mYes, gmName, gmLst, gmCons, gmNil, mLR1, intR, fRgL, a1, a2, r0, f1, f2]
theorem sr1 (hS : Src B ss) (hB : B ≤ 50000) (h1 : 2 ≤ n) (h2 : n ≤ 60) : ∃ sp ss', plaw_same_right_1 (SG ss n p q none none none s1 s2 none none none none) = some (.nx (SG ss' n p q (some (.ow false (il sp))) none none s1 s2 none none none none)) ∧ Asc n 0 sp ∧ Src (B + 70) ss' := by
  have a3 : (-1000000000 : Int) ≤ n := by omega
  have a4 : n ≤ 1000000000 := by omega
  obtain ⟨Γ', es, g1, ss', ns, rfl, rfl, g2, g3, g4⟩ := lc_range (mt := gmName 12) (mc := mB (VL.m2 (im2 (bl2 gGt)) (mCallS SH.d_law_draw (mCons (mVar 0) (mCons (mC (.int 3)) mNil))) (mC (.int 0)))) (me := mVar 12) (vs := [12]) n.toNat (i := 0) (Γ := SG ss n p q none none none s1 s2 none none none none) (acc := [])
    (I := fun j Γ acc => ∃ ss' ns, Γ = SG ss' n p q none none none s1 s2 none none none none ∧ acc = il ns ∧ Src (B + j) ss' ∧ ns.Pairwise (· < ·) ∧ ∀ k ∈ ns, 0 ≤ k ∧ k < (j : Int))
    ⟨ss, [], rfl, rfl, hS.mono (by omega), .nil, fun _ h => nomatch h⟩
    (by
      rintro j Γ acc _ hj ⟨ss', ns, rfl, rfl, k1, k2, k3⟩
      obtain ⟨r, z, e, r1, r2, r3⟩ := drawS k1 (by omega) (c := 3) (by omega) (by omega)
      by_cases hr : 0 < r
      · refine ⟨some (.int (j : Int)), [some (.ow true z), some (.im (.int n)), some (.im (.list p)), some (.im (.list q)), none, none, none, some (.im (.list (il s1))), some (.im (.list (il s2))), none, none, none, some (.im (.int (j : Int))), none], by simp [lcTurn, gmName, SG, sAsg, sIf, mIf, mB, mBV, mAnd, mOr, mNot, VL.m2, m1, im2, bl2, gEqI, gNeI, mVar, mVarO, mC, hold, peek, peekO, isSc, fin, mCallS, mCall, mCons, mNil, callS, frzA, frz, frzO, frR, asgR, mCB, imN, fInt, fAdd, fSub, fMod, fLen, ii, sNext, peekA, fIx, mSeq, LIM, sDrop, sRet, retR, retO, bodyR, mChain, gLe, gInt, gGt, e, hr], z, ns ++ [(j : Int)], rfl, by simp [il], r3.mono (by omega), ?_, fun k hk => ?_⟩
        · rw [List.pairwise_append]
          refine ⟨k2, List.pairwise_singleton .., fun a ha b hb => ?_⟩
          rw [List.mem_singleton.mp hb]
          exact (k3 a ha).2
        · rcases List.mem_append.mp hk with hk | hk
          · have := k3 k hk
            omega
          · rw [List.mem_singleton.mp hk]
            omega
      · refine ⟨none, [some (.ow true z), some (.im (.int n)), some (.im (.list p)), some (.im (.list q)), none, none, none, some (.im (.list (il s1))), some (.im (.list (il s2))), none, none, none, some (.im (.int (j : Int))), none], by simp [lcTurn, gmName, SG, sAsg, sIf, mIf, mB, mBV, mAnd, mOr, mNot, VL.m2, m1, im2, bl2, gEqI, gNeI, mVar, mVarO, mC, hold, peek, peekO, isSc, fin, mCallS, mCall, mCons, mNil, callS, frzA, frz, frzO, frR, asgR, mCB, imN, fInt, fAdd, fSub, fMod, fLen, ii, sNext, peekA, fIx, mSeq, LIM, sDrop, sRet, retR, retO, bodyR, mChain, gLe, gInt, gGt, e, hr], z, ns, rfl, by simp [il], r3.mono (by omega), k2, fun k hk => by have := k3 k hk; omega⟩)
  rw [Nat.zero_add] at g2 g4
  have g5 := lc_eq (mi := mRng rng1 (mCons (mVar 1) mNil)) (Γ := SG ss n p q none none none s1 s2 none none none none) (Γ1 := SG ss n p q none none none s1 s2 none none none none) (ds := rangeD 0 n.toNat) (vs := [12]) (by simp [mRng, rng1, SG, sAsg, sIf, mIf, mB, mBV, mAnd, mOr, mNot, VL.m2, m1, im2, bl2, gEqI, gNeI, mVar, mVarO, mC, hold, peek, peekO, isSc, fin, mCallS, mCall, mCons, mNil, callS, frzA, frz, frzO, frR, asgR, mCB, imN, fInt, fAdd, fSub, fMod, fLen, ii, sNext, peekA, fIx, mSeq, LIM, sDrop, sRet, retR, retO, bodyR, mChain, gLe, gInt, a3, a4]) (by rfl) (by rw [rangeD_len]; show _ ≤ 4000000; omega) (by rw [rangeD_r]; exact g1)
  refine ⟨ns, ss', asg_fr g5, asc_of g3 fun k hk => ⟨(g4 k hk).1, by have := (g4 k hk).2; omega⟩, g2.mono (by omega)⟩
theorem num_il {fo : List D} (h : ∀ d ∈ fo, Num d) : ∃ ns : List Int, fo = il ns := by
  obtain ⟨ns, e, _⟩ := ints_ex (P := fun _ => True) (ds := fo) fun d hd => by
    obtain ⟨i, rfl, _⟩ := h d hd
    exact ⟨i, rfl, trivial⟩
  exact ⟨ns, e⟩
theorem sr2 (hS : Src B ss) (hB : B ≤ 80000) (h1 : 2 ≤ n) (h2 : n ≤ 60) : ∃ h ss', plaw_same_right_2 (SG ss n p q o4 none none s1 s2 none none none none) = some (.nx (SG ss' n p q o4 (some (.ow false (il h))) none s1 s2 none none none none)) ∧ (h.length : Int) = n ∧ Src (B + 200) ss' := by
  obtain ⟨fo, ss', e, l, m, s⟩ := content (wide := false) hS (by omega) (by omega) h2
  obtain ⟨h, rfl⟩ := num_il m
  rw [List.length_map] at l
  exact ⟨h, ss', by simp [plaw_same_right_2, SG, sAsg, sIf, mIf, mB, mBV, mAnd, mOr, mNot, VL.m2, m1, im2, bl2, gEqI, gNeI, mVar, mVarO, mC, hold, peek, peekO, isSc, fin, mCallS, mCall, mCons, mNil, callS, frzA, frz, frzO, frR, asgR, mCB, imN, fInt, fAdd, fSub, fMod, fLen, ii, sNext, peekA, fIx, mSeq, LIM, sDrop, sRet, retR, retO, bodyR, mChain, gLe, gInt, e], l, s⟩
def fSome (s1 s2 : List Int) : D → Option D
  | .int k => if eqs s1 s2 k then some (.int k) else none
  | _ => none
def fSomeN (s1 s2 : List Int) : D → Option D
  | .int k => if !eqs s1 s2 k then some (.int k) else none
  | _ => none
theorem fSome_il (s1 s2 c : List Int) : (il c).filterMap (fSome s1 s2) = il (c.filter (eqs s1 s2)) := by
  rw [filterMap_il (f := fun k => if eqs s1 s2 k then some k else none) (fun k _ => by unfold fSome; dsimp only; split <;> rfl), fm_filter]
theorem fSomeN_il (s1 s2 c : List Int) : (il c).filterMap (fSomeN s1 s2) = il (c.filter fun k => !eqs s1 s2 k) := by
  rw [filterMap_il (f := fun k => if !eqs s1 s2 k then some k else none) (fun k _ => by unfold fSomeN; dsimp only; split <;> rfl), fm_filter (fun k => !eqs s1 s2 k)]
theorem sr3it (h1 : 2 ≤ n) (h2 : n ≤ 60) (l1 : (s1.length : Int) = n) (l2 : (s2.length : Int) = n) {sp : List Int} :
    plaw_same_right_3_it (SG ss n p q (some (.ow false (il sp))) o5 none s1 s2 none none none none) = some ([.list (il sp), .list (il (rgI n.toNat)), .list [], .list (il ((rgI n.toNat).filter (eqs s1 s2)))], SG ss n p q (some (.im (.list (il sp)))) o5 none s1 s2 none none none none) := by
  have a1 : (-1000000 : Int) ≤ n := by omega
  have a2 : n ≤ 1000000 := by omega
  have a3 : (-1000000000 : Int) ≤ n := by omega
  have a4 : n ≤ 1000000000 := by omega
  have r0 := range_il n.toNat
  have lc := lc_one (mi := mRng rng1 (mCons (mVar 1) mNil)) (mt := gmName 12) (mc := mB (VL.m2 (im2 (bl2 gEq)) (VL.m2 fIx (mVar 7) (mVar 12)) (VL.m2 fIx (mVar 8) (mVar 12)))) (me := mVar 12) (vs := [12]) (Γ := SG ss n p q (some (.ow false (il sp))) o5 none s1 s2 none none none none) (Γ1 := SG ss n p q (some (.ow false (il sp))) o5 none s1 s2 none none none none) (ds := il (rgI n.toNat))
    (fSome s1 s2) (by simp [mRng, rng1, SG, sAsg, sIf, mIf, mB, mBV, mAnd, mOr, mNot, VL.m2, m1, im2, bl2, gEqI, gNeI, mVar, mVarO, mC, hold, peek, peekO, isSc, fin, mCallS, mCall, mCons, mNil, callS, frzA, frz, frzO, frR, asgR, mCB, imN, fInt, fAdd, fSub, fMod, fLen, ii, sNext, peekA, fIx, mSeq, LIM, sDrop, sRet, retR, retO, bodyR, mChain, gLe, gInt, a3, a4, r0]) (by rfl) (by rw [List.length_map, rgI_len]; show _ ≤ 4000000; omega) (fun d hd => by
      obtain ⟨k, hk, rfl⟩ := List.mem_map.mp hd
      obtain ⟨k1, k2⟩ := rgI_mem.mp hk
      have b1 := atI_il (ns := s1) k1 (by omega)
      have b2 := atI_il (ns := s2) k1 (by omega)
      refine ⟨[some (.ow true ss), some (.im (.int n)), some (.im (.list p)), some (.im (.list q)), some (.ow false (il sp)), o5, none, some (.im (.list (il s1))), some (.im (.list (il s2))), none, none, none, some (.im (.int k)), none], ?_, rfl⟩
      simp only [List.getD_eq_getElem?_getD] at b1 b2
      by_cases hz : s1[k.toNat]?.getD 0 = s2[k.toNat]?.getD 0 <;> simp [lcTurn, gmName, wipeG, SG, sAsg, sIf, mIf, mB, mBV, mAnd, mOr, mNot, VL.m2, m1, im2, bl2, gEqI, gNeI, mVar, mVarO, mC, hold, peek, peekO, isSc, fin, mCallS, mCall, mCons, mNil, callS, frzA, frz, frzO, frR, asgR, mCB, imN, fInt, fAdd, fSub, fMod, fLen, ii, sNext, peekA, fIx, mSeq, LIM, sDrop, sRet, retR, retO, bodyR, mChain, gLe, gInt, b1, b2, fSome, hz])
  rw [fSome_il] at lc
  have lc' : mLc (mRng rng1 (mCons (mVar 1) mNil)) (gmName 12) (mB (VL.m2 (im2 (bl2 gEq)) (VL.m2 fIx (mVar 7) (mVar 12)) (VL.m2 fIx (mVar 8) (mVar 12)))) (mVar 12) [12] (SG ss n p q (some (.ow false (il sp))) o5 none s1 s2 none none none none) = some (.fr (il ((rgI n.toNat).filter (eqs s1 s2))), SG ss n p q (some (.ow false (il sp))) o5 none s1 s2 none none none none) := lc
  simp only [SG] at lc'
  simp [plaw_same_right_3_it, mWalkT, SG, sAsg, sIf, mIf, mB, mBV, mAnd, mOr, mNot, VL.m2, m1, im2, bl2, gEqI, gNeI, mVar, mVarO, mC, hold, peek, peekO, isSc, fin, mCallS, mCall, mCons, mNil, callS, frzA, frz, frzO, frR, asgR, mCB, imN, fInt, fAdd, fSub, fMod, fLen, ii, sNext, peekA, fIx, mSeq, LIM, sDrop, sRet, retR, retO, bodyR, mChain, gLe, gInt, mLR1, intR, fRgL, a1, a2, r0, lc']
theorem sr30 (h1 : 2 ≤ n) (h2 : n ≤ 60) (l1 : (s1.length : Int) = n) (l2 : (s2.length : Int) = n) (hc : Asc n 0 c) : plaw_same_right_3_0 (SG ss n p q o4 o5 (some (.im (.list (il c)))) s1 s2 o9 o10 o11 o13) = some (.nx (SG ss n p q o4 o5 (some (.im (.list (il c)))) s1 s2 (some (.im (.bool (c.all (eqs s1 s2))))) o10 o11 o13)) := by
  have hcl := asc_len hc (by omega)
  have lc := lc_one (mi := mWalk (mVar 6)) (mt := gmName 12) (mc := mB (VL.m2 (im2 (bl2 gNe)) (VL.m2 fIx (mVar 7) (mVar 12)) (VL.m2 fIx (mVar 8) (mVar 12)))) (me := mVar 12) (vs := [12]) (Γ := SG ss n p q o4 o5 (some (.im (.list (il c)))) s1 s2 o9 o10 o11 o13) (Γ1 := SG ss n p q o4 o5 (some (.im (.list (il c)))) s1 s2 o9 o10 o11 o13) (ds := il c)
    (fSomeN s1 s2) (by simp [mWalk, SG, sAsg, sIf, mIf, mB, mBV, mAnd, mOr, mNot, VL.m2, m1, im2, bl2, gEqI, gNeI, mVar, mVarO, mC, hold, peek, peekO, isSc, fin, mCallS, mCall, mCons, mNil, callS, frzA, frz, frzO, frR, asgR, mCB, imN, fInt, fAdd, fSub, fMod, fLen, ii, sNext, peekA, fIx, mSeq, LIM, sDrop, sRet, retR, retO, bodyR, mChain, gLe, gInt]) (by rfl) (by rw [List.length_map]; show _ ≤ 4000000; omega) (fun d hd => by
      obtain ⟨k, hk, rfl⟩ := List.mem_map.mp hd
      obtain ⟨k1, k2⟩ := asc_mem hc k hk
      have b1 := atI_il (ns := s1) k1 (by omega)
      have b2 := atI_il (ns := s2) k1 (by omega)
      refine ⟨[some (.ow true ss), some (.im (.int n)), some (.im (.list p)), some (.im (.list q)), o4, o5, some (.im (.list (il c))), some (.im (.list (il s1))), some (.im (.list (il s2))), o9, o10, o11, some (.im (.int k)), o13], ?_, rfl⟩
      simp only [List.getD_eq_getElem?_getD] at b1 b2
      by_cases hz : s1[k.toNat]?.getD 0 = s2[k.toNat]?.getD 0 <;> simp [lcTurn, gmName, wipeG, SG, sAsg, sIf, mIf, mB, mBV, mAnd, mOr, mNot, VL.m2, m1, im2, bl2, gEqI, gNeI, mVar, mVarO, mC, hold, peek, peekO, isSc, fin, mCallS, mCall, mCons, mNil, callS, frzA, frz, frzO, frR, asgR, mCB, imN, fInt, fAdd, fSub, fMod, fLen, ii, sNext, peekA, fIx, mSeq, LIM, sDrop, sRet, retR, retO, bodyR, mChain, gLe, gInt, b1, b2, fSomeN, hz])
  rw [fSomeN_il] at lc
  have lc' : mLc (mWalk (mVar 6)) (gmName 12) (mB (VL.m2 (im2 (bl2 gNe)) (VL.m2 fIx (mVar 7) (mVar 12)) (VL.m2 fIx (mVar 8) (mVar 12)))) (mVar 12) [12] (SG ss n p q o4 o5 (some (.im (.list (il c)))) s1 s2 o9 o10 o11 o13) = some (.fr (il (c.filter fun k => !eqs s1 s2 k)), SG ss n p q o4 o5 (some (.im (.list (il c)))) s1 s2 o9 o10 o11 o13) := lc
  have g := gEq_il (c.filter fun k => !eqs s1 s2 k) []
  rw [nall] at g
  have g : gEq (.list (il (c.filter fun k => !eqs s1 s2 k))) (.list []) = some (c.all (eqs s1 s2)) := g
  simp only [SG] at lc'
  simp only [plaw_same_right_3_0, SG, sAsg, VL.m2, lc', Option.bind_some, mSeq, mNil, frzA, hold, peek, im2, bl2]
  simp [LIM, fin, peek, g, isSc, asgR]
theorem sr31 (hd : d_same_rows [.int n, .list p, .list q, .list (il c)] = some (.im (.bool b))) : plaw_same_right_3_1 (SG ss n p q o4 o5 (some (.im (.list (il c)))) s1 s2 o9 o10 o11 o13) = some (.nx (SG ss n p q o4 o5 (some (.im (.list (il c)))) s1 s2 o9 (some (.ow false [.bool b])) o11 o13)) := by
  simp [plaw_same_right_3_1, SG, sAsg, sIf, mIf, mB, mBV, mAnd, mOr, mNot, VL.m2, m1, im2, bl2, gEqI, gNeI, mVar, mVarO, mC, hold, peek, peekO, isSc, fin, mCallS, mCall, mCons, mNil, callS, frzA, frz, frzO, frR, asgR, mCB, imN, fInt, fAdd, fSub, fMod, fLen, ii, sNext, peekA, fIx, mSeq, LIM, sDrop, sRet, retR, retO, bodyR, mChain, gLe, gInt, hd]
theorem sr32 {b : Bool} (hd : d_same_rows [.int n, .list p, .list q, .list (il c)] = some (.im (.bool b))) : plaw_same_right_3_2 (SG ss n p q o4 o5 (some (.im (.list (il c)))) s1 s2 o9 (some (.ow false [.bool b])) o11 o13) = some (.nx (SG ss n p q o4 o5 (some (.im (.list (il c)))) s1 s2 o9 (some (.ow false [.bool b, .bool b])) o11 o13)) := by
  simp [plaw_same_right_3_2, SG, sAsg, sIf, mIf, mB, mBV, mAnd, mOr, mNot, VL.m2, m1, im2, bl2, gEqI, gNeI, mVar, mVarO, mC, hold, peek, peekO, isSc, fin, mCallS, mCall, mCons, mNil, callS, frzA, frz, frzO, frR, asgR, mCB, imN, fInt, fAdd, fSub, fMod, fLen, ii, sNext, peekA, fIx, mSeq, LIM, sDrop, sRet, retR, retO, bodyR, mChain, gLe, gInt, mApp, isL, slotUp, mCallK, mArgsK, permD, hd]
theorem sr33 {b : Bool} (hd : d_same_rows [.int n, .list q, .list p, .list (il c)] = some (.im (.bool b))) : plaw_same_right_3_3 (SG ss n p q o4 o5 (some (.im (.list (il c)))) s1 s2 (some (.im (.bool b))) (some (.ow false [.bool b, .bool b])) o11 o13) = some (.nx (SG ss n p q o4 o5 (some (.im (.list (il c)))) s1 s2 (some (.im (.bool b))) (some (.ow false [.bool b, .bool b])) o11 o13)) := by
  obtain ⟨z, z1, z2⟩ := reprSame (Tx.list (n := 5) (k := 0) (m := 3) (ds := [.bool b, .bool b, .bool b]) (mc (Tx.bool b) (mc (Tx.bool b) (mc (Tx.bool b) m0))) (Nat.le_refl _)) (by decide) (by decide)
  simp [plaw_same_right_3_3, SG, sAsg, sIf, mIf, mB, mBV, mAnd, mOr, mNot, VL.m2, m1, im2, bl2, gEqI, gNeI, mVar, mVarO, mC, hold, peek, peekO, isSc, fin, mCallS, mCall, mCons, mNil, callS, frzA, frz, frzO, frR, asgR, mCB, imN, fInt, fAdd, fSub, fMod, fLen, ii, sNext, peekA, fIx, mSeq, LIM, sDrop, sRet, retR, retO, bodyR, mChain, gLe, gInt, hd, fMul, z1, z2]
theorem beh_il (h0 : 0 ≤ n) (hl : (h.length : Int) = n) (hp : ∀ d ∈ p, PStep n d) (e1 : doR (rangeD 0 n.toNat) p = il s1) (hm : ∀ k ∈ s1, 0 ≤ k ∧ k < n) : d_law_behind [.list (il h), .list p] = some (.fr (il (s1.map (gt h)))) := by
  have f := law_beh (xs := il h) (path := p) hp (by rw [List.length_map]; exact hl)
  rw [behind_of h0 (by rw [List.length_map]; exact hl) hp e1] at f
  rw [f]
  unfold il
  rw [List.map_map]
  congr 2
  apply List.map_congr_left
  intro k hk
  obtain ⟨k1, k2⟩ := hm k hk
  have hlt : k.toNat < h.length := by omega
  show (h.map PyData.int).getD k.toNat .none = .int (h.getD k.toNat 0)
  rw [List.getD_eq_getElem?_getD, List.getD_eq_getElem?_getD, List.getElem?_map, List.getElem?_eq_getElem hlt]
  rfl
theorem sr34 (h5 : o5 = some (.ow false (il h)) ∨ o5 = some (.im (.list (il h)))) (f1 : d_law_behind [.list (il h), .list p] = some (.fr (il t1))) (f2 : d_law_behind [.list (il h), .list q] = some (.fr (il t2))) : plaw_same_right_3_4 (SG ss n p q o4 o5 o6 s1 s2 o9 o10 o11 o13) = some (.nx (SG ss n p q o4 (some (.im (.list (il h)))) o6 s1 s2 o9 o10 (some (.ow false (il t1))) (some (.ow false (il t2))))) := by
  rcases h5 with rfl | rfl
  · simp [plaw_same_right_3_4, SG, sAsg, sIf, mIf, mB, mBV, mAnd, mOr, mNot, VL.m2, m1, im2, bl2, gEqI, gNeI, mVar, mVarO, mC, hold, peek, peekO, isSc, fin, mCallS, mCall, mCons, mNil, callS, frzA, frz, frzO, frR, asgR, mCB, imN, fInt, fAdd, fSub, fMod, fLen, ii, sNext, peekA, fIx, mSeq, LIM, sDrop, sRet, retR, retO, bodyR, mChain, gLe, gInt, sPar2, m2R, VL.settle, put, f1, f2]
  · simp [plaw_same_right_3_4, SG, sAsg, sIf, mIf, mB, mBV, mAnd, mOr, mNot, VL.m2, m1, im2, bl2, gEqI, gNeI, mVar, mVarO, mC, hold, peek, peekO, isSc, fin, mCallS, mCall, mCons, mNil, callS, frzA, frz, frzO, frR, asgR, mCB, imN, fInt, fAdd, fSub, fMod, fLen, ii, sNext, peekA, fIx, mSeq, LIM, sDrop, sRet, retR, retO, bodyR, mChain, gLe, gInt, sPar2, m2R, VL.settle, put, f1, f2]
theorem lc_get {v : Nat} (t : List Int) {Γ Γv : Gm} (hc : ∀ k ∈ c, 0 ≤ k ∧ k < (t.length : Int)) (hcl : c.length ≤ 100) (h1 : mWalk (mVar 6) Γ = some (il c, Γ)) (h2 : hidOk Γ [12] = true) (h3 : wipeG Γ [12] = Γ) (h4 : mergeG Γ Γ [12] = Γ)
    (h5 : ∀ k : Int, (mVar v) (Γ.set 12 (some (.im (.int k)))) = some (.sl v, Γ.set 12 (some (.im (.int k)))) ∧ (mVar 12) (Γ.set 12 (some (.im (.int k)))) = some (.im (.int k), Γ.set 12 (some (.im (.int k)))) ∧ peek (Γ.set 12 (some (.im (.int k)))) (.sl v) = some (.list (il t)) ∧ wipeG (Γ.set 12 (some (.im (.int k)))) [12] = Γ) :
    mLc (mWalk (mVar 6)) (gmName 12) mYes (VL.m2 fIx (mVar v) (mVar 12)) [12] Γ = some (.fr (il (c.map (gt t))), Γ) := by
  have lc := lc_one (mi := mWalk (mVar 6)) (mt := gmName 12) (mc := mYes) (me := VL.m2 fIx (mVar v) (mVar 12)) (vs := [12]) (Γ := Γ) (Γ1 := Γ) (ds := il c)
    (fun d => match d with | .int k => some (.int (gt t k)) | _ => none) h1 h2 (by rw [List.length_map]; show _ ≤ 4000000; omega) (fun d hd => by
      obtain ⟨k, hk, rfl⟩ := List.mem_map.mp hd
      obtain ⟨k1, k2⟩ := hc k hk
      have b1 := atI_il (ns := t) k1 k2
      obtain ⟨e1, e2, e3, e4⟩ := h5 k
      refine ⟨Γ.set 12 (some (.im (.int k))), ?_, by rw [e4, h3]⟩
      rw [h3]
      simp only [lcTurn, gmName, Option.bind_some, mYes, VL.m2, e1, e2, hold, e3, if_true]
      simp only [peek, fIx, b1, Option.bind_some, fin, frz, Option.map_some])
  rw [h3, h4, filterMap_il (f := fun k => some (gt t k)) (fun k _ => rfl), List.filterMap_eq_map'] at lc
  exact lc
theorem sr35 {t1 t2 : List Int} {b : Bool} (hc : ∀ k ∈ c, 0 ≤ k ∧ k < n) (hcl : c.length ≤ 100) (l1 : (t1.length : Int) = n) (l2 : (t2.length : Int) = n) (hb : b = true → c.map (gt t1) = c.map (gt t2)) :
    plaw_same_right_3_5 (SG ss n p q o4 (some (.im (.list (il h)))) (some (.im (.list (il c)))) s1 s2 (some (.im (.bool b))) (some (.ow false fo)) (some (.ow false (il t1))) (some (.ow false (il t2)))) = some (.nx (SG ss n p q o4 (some (.im (.list (il h)))) (some (.im (.list (il c)))) s1 s2 (some (.im (.bool b))) (some (.ow false fo)) (some (.ow false (il t1))) (some (.ow false (il t2))))) := by
  cases b
  · simp [plaw_same_right_3_5, SG, sAsg, sIf, mIf, mB, mBV, mAnd, mOr, mNot, VL.m2, m1, im2, bl2, gEqI, gNeI, mVar, mVarO, mC, hold, peek, peekO, isSc, fin, mCallS, mCall, mCons, mNil, callS, frzA, frz, frzO, frR, asgR, mCB, imN, fInt, fAdd, fSub, fMod, fLen, ii, sNext, peekA, fIx, mSeq, LIM, sDrop, sRet, retR, retO, bodyR, mChain, gLe, gInt]
  · have g1 := lc_get (v := 11) (c := c) t1 (Γ := SG ss n p q o4 (some (.im (.list (il h)))) (some (.im (.list (il c)))) s1 s2 (some (.im (.bool true))) (some (.ow false fo)) (some (.ow false (il t1))) (some (.ow false (il t2)))) (Γv := []) (fun k hk => ⟨(hc k hk).1, by have := (hc k hk).2; omega⟩) hcl (by simp [mWalk, SG, sAsg, sIf, mIf, mB, mBV, mAnd, mOr, mNot, VL.m2, m1, im2, bl2, gEqI, gNeI, mVar, mVarO, mC, hold, peek, peekO, isSc, fin, mCallS, mCall, mCons, mNil, callS, frzA, frz, frzO, frR, asgR, mCB, imN, fInt, fAdd, fSub, fMod, fLen, ii, sNext, peekA, fIx, mSeq, LIM, sDrop, sRet, retR, retO, bodyR, mChain, gLe, gInt]) rfl rfl rfl (fun k => ⟨rfl, rfl, rfl, rfl⟩)
    have g2 := lc_get (v := 13) (c := c) t2 (Γ := SG ss n p q o4 (some (.im (.list (il h)))) (some (.im (.list (il c)))) s1 s2 (some (.im (.bool true))) (some (.ow false fo)) (some (.ow false (il t1))) (some (.ow false (il t2)))) (Γv := []) (fun k hk => ⟨(hc k hk).1, by have := (hc k hk).2; omega⟩) hcl (by simp [mWalk, SG, sAsg, sIf, mIf, mB, mBV, mAnd, mOr, mNot, VL.m2, m1, im2, bl2, gEqI, gNeI, mVar, mVarO, mC, hold, peek, peekO, isSc, fin, mCallS, mCall, mCons, mNil, callS, frzA, frz, frzO, frR, asgR, mCB, imN, fInt, fAdd, fSub, fMod, fLen, ii, sNext, peekA, fIx, mSeq, LIM, sDrop, sRet, retR, retO, bodyR, mChain, gLe, gInt]) rfl rfl rfl (fun k => ⟨rfl, rfl, rfl, rfl⟩)
    have g3 := gNe_il (c.map (gt t1)) (c.map (gt t2))
    rw [decide_eq_true (hb rfl)] at g3
    simp only [SG] at g1 g2
    simp only [plaw_same_right_3_5, SG, sIf, mAnd, mB, mVar, mVarO, List.getElem?_cons_succ, List.getElem?_cons_zero, Option.bind_some, if_true, VL.m2, g1, g2, hold, peek, im2, bl2, g3]
    simp [isSc, fin, sNext]
end
end Gk06

set_option Elab.async false
set_option linter.all false
set_option maxRecDepth 100000
namespace Gk06
open PySem PySem.Spec PyProof.Rows L2 VL SH SH.K
theorem txI {i : Int} (h : 0 ≤ i) (h2 : i ≤ 60) : Tx 3 0 (.int i) := by
  refine Tx.int (n := 3) ?_ ?_
  · have : i.natAbs ≤ 60 := by omega
    exact Nat.lt_of_le_of_lt (Nat.log2_le_self _) (by omega)
  · have h3 : ∀ j : Nat, j < 62 → (Str.ofString (toString (j : Int))).length ≤ 3 := by decide +kernel
    have := h3 i.toNat (by omega)
    have e : ((i.toNat : Nat) : Int) = i := by omega
    rw [e] at this
    exact this
section
variable {B n : Int} {ss : List D} {p q : List D}
theorem eqs_comm (s1 s2 : List Int) : eqs s2 s1 = eqs s1 s2 := by
  funext k
  show (gt s2 k == gt s1 k) = (gt s1 k == gt s2 k)
  by_cases h : gt s1 k = gt s2 k
  · rw [h]
  · rw [beq_eq_false_iff_ne.mpr h, beq_eq_false_iff_ne.mpr (fun z => h z.symm)]
theorem map_eq {t1 t2 s1 s2 c : List Int} {h : List Int} (l1 : (s1.length : Int) = n) (l2 : (s2.length : Int) = n) (hc : ∀ k ∈ c, 0 ≤ k ∧ k < n) (hb : c.all (eqs s1 s2) = true) : c.map (gt (s1.map (gt h))) = c.map (gt (s2.map (gt h))) := by
  apply List.map_congr_left
  intro k hk
  obtain ⟨k1, k2⟩ := hc k hk
  have e := List.all_eq_true.mp hb k hk
  have e : gt s1 k = gt s2 k := by simpa using e
  have g : ∀ s : List Int, (s.length : Int) = n → gt (s.map (gt h)) k = gt h (gt s k) := fun s l => by
    have hlt : k.toNat < s.length := by omega
    show (s.map (gt h)).getD k.toNat 0 = gt h (s.getD k.toNat 0)
    rw [List.getD_eq_getElem?_getD, List.getD_eq_getElem?_getD, List.getElem?_map, List.getElem?_eq_getElem hlt]
    rfl
  rw [g s1 l1, g s2 l2, e]
theorem same_right (hS : Src B ss) (hB : B ≤ 40000) (h1 : 2 ≤ n) (h2 : n ≤ 60) (hp : ∀ d ∈ p, PStep n d) (hpl : p.length ≤ 200) (hq : ∀ d ∈ q, PStep n d) (hql : q.length ≤ 200) :
    ∃ ss', d_law_same_right ss [.int n, .list p, .list q] = some (.im (.bool true), ss') ∧ Src (B + 300) ss' := by
  obtain ⟨s1, e1, l1, m1'⟩ := src_ex (by omega) hp
  obtain ⟨s2, e2, l2, m2'⟩ := src_ex (by omega) hq
  have q0 := sr0 (ss := ss) h1 h2 hp hq e1 e2
  obtain ⟨sp, z1, q1, a1, hS1⟩ := sr1 (p := p) (q := q) (s1 := s1) (s2 := s2) hS (by omega) h1 h2
  obtain ⟨h, z2, q2, lh, hS2⟩ := sr2 (p := p) (q := q) (s1 := s1) (s2 := s2) (o4 := some (.ow false (il sp))) hS1 (by omega) h1 h2
  have q3 := sr3it (ss := z2) (p := p) (q := q) (o5 := some (.ow false (il h))) (sp := sp) h1 h2 l1 l2
  have f1 := beh_il (by omega) lh hp e1 m1'
  have f2 := beh_il (by omega) lh hq e2 m2'
  have hn : ((n.toNat : Nat) : Int) = n := by omega
  have hall : ∀ d ∈ [PyData.list (il sp), .list (il (rgI n.toNat)), .list [], .list (il ((rgI n.toNat).filter (eqs s1 s2)))], ∃ c, d = .list (il c) ∧ Asc n 0 c := by
    refine mc ⟨sp, rfl, a1⟩ (mc ⟨rgI n.toNat, rfl, ?_⟩ (mc ⟨[], rfl, trivial⟩ (mc ⟨_, rfl, ?_⟩ m0)))
    · have := asc_rg n.toNat
      rw [hn] at this
      exact this
    · have := asc_filter n.toNat (eqs s1 s2)
      rw [hn] at this
      exact this
  obtain ⟨Γ', q4, o5, o6, o9, o10, o11, o13, rfl, _⟩ := for_inv (mt := gmName 6) (m := plaw_same_right_3_b) (ds := [PyData.list (il sp), .list (il (rgI n.toNat)), .list [], .list (il ((rgI n.toNat).filter (eqs s1 s2)))]) (i := 0) (Γ := SG z2 n p q (some (.im (.list (il sp)))) (some (.ow false (il h))) none s1 s2 none none none none)
    (I := fun _ Γ => ∃ o5 o6 o9 o10 o11 o13, Γ = SG z2 n p q (some (.im (.list (il sp)))) o5 o6 s1 s2 o9 o10 o11 o13 ∧ (o5 = some (.ow false (il h)) ∨ o5 = some (.im (.list (il h)))))
    ⟨_, _, _, _, _, _, rfl, .inl rfl⟩
    (by
      rintro j d Γ hd _ _ ⟨o5, o6, o9, o10, o11, o13, rfl, h5⟩
      obtain ⟨c, rfl, hc⟩ := hall d hd
      have w1 := same_rows (by omega) h2 hp hpl hq hql e1 l1 e2 l2 hc
      have w2 := same_rows (by omega) h2 hq hql hp hpl e2 l2 e1 l1 hc
      rw [eqs_comm] at w2
      have hm := asc_mem hc
      have hl := asc_len hc (by omega)
      have y0 := sr30 (ss := z2) (p := p) (q := q) (o4 := some (.im (.list (il sp)))) (o5 := o5) (o9 := o9) (o10 := o10) (o11 := o11) (o13 := o13) h1 h2 l1 l2 hc
      have y1 := sr31 (ss := z2) (s1 := s1) (s2 := s2) (o4 := some (.im (.list (il sp)))) (o5 := o5) (o9 := some (.im (.bool (c.all (eqs s1 s2))))) (o10 := o10) (o11 := o11) (o13 := o13) w1
      have y2 := sr32 (ss := z2) (s1 := s1) (s2 := s2) (o4 := some (.im (.list (il sp)))) (o5 := o5) (o9 := some (.im (.bool (c.all (eqs s1 s2))))) (o11 := o11) (o13 := o13) w1
      have y3 := sr33 (ss := z2) (s1 := s1) (s2 := s2) (o4 := some (.im (.list (il sp)))) (o5 := o5) (o11 := o11) (o13 := o13) w2
      have y4 := sr34 (ss := z2) (n := n) (s1 := s1) (s2 := s2) (o4 := some (.im (.list (il sp)))) (o6 := some (.im (.list (il c)))) (o9 := some (.im (.bool (c.all (eqs s1 s2))))) (o10 := some (.ow false [.bool (c.all (eqs s1 s2)), .bool (c.all (eqs s1 s2))])) (o11 := o11) (o13 := o13) h5 f1 f2
      have y5 := sr35 (ss := z2) (p := p) (q := q) (s1 := s1) (s2 := s2) (h := h) (o4 := some (.im (.list (il sp)))) (fo := [.bool (c.all (eqs s1 s2)), .bool (c.all (eqs s1 s2))]) (t1 := s1.map (gt h)) (t2 := s2.map (gt h)) (b := c.all (eqs s1 s2)) hm (by omega) (by rw [List.length_map]; exact l1) (by rw [List.length_map]; exact l2) (fun hb => map_eq (t1 := []) (t2 := []) l1 l2 hm hb)
      exact ⟨_, _, rfl, (seq_nx y0).trans ((seq_nx y1).trans ((seq_nx y2).trans ((seq_nx y3).trans ((seq_nx y4).trans y5)))), _, _, _, _, _, _, rfl, .inr rfl⟩)
  refine ⟨z2, ?_, hS2.mono (by omega)⟩
  show bodyS (m_law_same_right [some (.ow true ss), some (.im (.int n)), some (.im (.list p)), some (.im (.list q)), none, none, none, none, none, none, none, none, none, none]) = _
  rw [plaw_same_right_eq, seq_nx q0, seq_nx q1, seq_nx q2, seq_nx ((for_eq q3).trans q4)]
  simp [plaw_same_right_4, SG, sAsg, sIf, mIf, mB, mBV, mAnd, mOr, mNot, VL.m2, m1, im2, bl2, gEqI, gNeI, mVar, mVarO, mC, hold, peek, peekO, isSc, fin, mCallS, mCall, mCons, mNil, callS, frzA, frz, frzO, frR, asgR, mCB, imN, fInt, fAdd, fSub, fMod, fLen, ii, sNext, peekA, fIx, mSeq, LIM, sDrop, sRet, retR, retO, bodyR, mChain, gLe, gInt, bodyS, ss0]
theorem word_tx {w : D} (h : PWord w) : Tx 50 0 w := by
  rcases h with rfl | rfl
  · exact Tx.str (by decide +kernel) (by decide +kernel)
  · exact Tx.str (by decide +kernel) (by decide +kernel)
theorem step_tx {d : D} (h2 : n ≤ 60) (h : PStep n d) : Tx 200 1 d := by
  obtain ⟨w, i, j, rfl, hw, i1, i2, j1, j2, _⟩ := h
  exact Tx.mono (Tx.tuple (n := 50) (k := 0) (m := 3) (mc (word_tx hw) (mc ((txI i1 (by omega)).mono (by decide) (by decide)) (mc ((txI j1 (by omega)).mono (by decide) (by decide)) m0))) (Nat.le_refl _)) (by decide) (by decide)
theorem rows_tx (h2 : n ≤ 60) (hp : ∀ d ∈ p, PStep n d) (hpl : p.length ≤ 10) : Tx 3000 2 (.list p) := Tx.mono (Tx.list (fun d hd => step_tx h2 (hp d hd)) hpl) (by decide) (by decide)
end
abbrev MG (sc : List D) (o1 o2 o3 o4 o5 o6 o7 o8 o9 : Option OV) : Gm := [some (.im (.list sc)), o1, o2, o3, o4, o5, o6, o7, o8, o9]
section
variable {sc : List D} {o1 o2 o3 o4 o5 o6 o7 o8 o9 : Option OV}
theorem a0 {cell k : Int} (h0 : 0 ≤ k) (h1 : k ≤ 100) : ∃ ss, plaw_0_0 (MG sc o1 (some (.im (.int k))) (some (.im (.int cell))) o4 o5 o6 o7 o8 o9) = some (.nx (MG sc o1 (some (.im (.int k))) (some (.im (.int cell))) (some (.ow false ss)) o5 o6 o7 o8 o9)) ∧ Src 0 ss := by
  obtain ⟨ss, e, h⟩ := source cell k h0 h1
  exact ⟨ss, by simp [plaw_0_0, MG, sAsg, sIf, mIf, mB, mBV, mAnd, mOr, mNot, VL.m2, m1, im2, bl2, gEqI, gNeI, mVar, mVarO, mC, hold, peek, peekO, isSc, fin, mCallS, mCall, mCons, mNil, callS, frzA, frz, frzO, frR, asgR, mCB, imN, fInt, fAdd, fSub, fMod, fLen, ii, sNext, peekA, fIx, mSeq, LIM, sDrop, sRet, retR, retO, bodyR, mChain, gLe, gInt, e], h⟩
theorem a1 {B : Int} {ss : List D} (h : Src B ss) (hB : B ≤ 30000) : ∃ many ss', plaw_0_1_0 (MG sc o1 o2 o3 (some (.ow false ss)) o5 o6 o7 o8 o9) = some (.nx (MG sc o1 o2 o3 (some (.ow false ss')) o5 (some (.im (.int many))) o7 o8 o9)) ∧ 2 ≤ many ∧ many ≤ 7 ∧ Src (B + 1) ss' := by
  obtain ⟨r, s1, e1, r1, r2, r3⟩ := drawS h (by omega) (c := 6) (by omega) (by omega)
  exact ⟨2 + r, s1, by simp [plaw_0_1_0, MG, sAsg, sIf, mIf, mB, mBV, mAnd, mOr, mNot, VL.m2, m1, im2, bl2, gEqI, gNeI, mVar, mVarO, mC, hold, peek, peekO, isSc, fin, mCallS, mCall, mCons, mNil, callS, frzA, frz, frzO, frR, asgR, mCB, imN, fInt, fAdd, fSub, fMod, fLen, ii, sNext, peekA, fIx, mSeq, LIM, sDrop, sRet, retR, retO, bodyR, mChain, gLe, gInt, e1], by omega, by omega, r3⟩
theorem a2 {B many : Int} {ss : List D} (h : Src B ss) (hB : B ≤ 30000) (h1 : 2 ≤ many) (h2 : many ≤ 7) : ∃ p ss', plaw_0_1_1 (MG sc o1 o2 o3 (some (.ow false ss)) o5 (some (.im (.int many))) o7 o8 o9) = some (.nx (MG sc o1 o2 o3 (some (.ow false ss')) o5 (some (.im (.int many))) (some (.ow false p)) o8 o9)) ∧ p.length ≤ 8 ∧ (∀ d ∈ p, PStep many d) ∧ Src (B + 1300) ss' := by
  obtain ⟨p, s1, e1, r1, r2, r3⟩ := path (most := 8) h (by omega) h1 (by omega) (by omega) (by omega)
  exact ⟨p, s1, by simp [plaw_0_1_1, MG, sAsg, sIf, mIf, mB, mBV, mAnd, mOr, mNot, VL.m2, m1, im2, bl2, gEqI, gNeI, mVar, mVarO, mC, hold, peek, peekO, isSc, fin, mCallS, mCall, mCons, mNil, callS, frzA, frz, frzO, frR, asgR, mCB, imN, fInt, fAdd, fSub, fMod, fLen, ii, sNext, peekA, fIx, mSeq, LIM, sDrop, sRet, retR, retO, bodyR, mChain, gLe, gInt, e1], by omega, r2, r3⟩
theorem a3 {B many : Int} {ss p : List D} (h : Src B ss) (hB : B ≤ 30000) (h1 : 2 ≤ many) (h2 : many ≤ 7) (hpl : p.length ≤ 8) (hp : ∀ d ∈ p, PStep many d) : ∃ q ss', plaw_0_1_2 (MG sc o1 o2 o3 (some (.ow false ss)) o5 (some (.im (.int many))) (some (.ow false p)) o8 o9) = some (.nx (MG sc o1 o2 o3 (some (.ow false ss')) o5 (some (.im (.int many))) (some (.im (.list p))) (some (.ow false q)) o9)) ∧ q.length ≤ 10 ∧ (∀ d ∈ q, PStep many d) ∧ Src (B + 1310) ss' := by
  obtain ⟨q, s1, e1, r1, r2, r3⟩ := mate h (by omega) h1 (by omega) hpl hp
  exact ⟨q, s1, by simp [plaw_0_1_2, MG, sAsg, sIf, mIf, mB, mBV, mAnd, mOr, mNot, VL.m2, m1, im2, bl2, gEqI, gNeI, mVar, mVarO, mC, hold, peek, peekO, isSc, fin, mCallS, mCall, mCons, mNil, callS, frzA, frz, frzO, frR, asgR, mCB, imN, fInt, fAdd, fSub, fMod, fLen, ii, sNext, peekA, fIx, mSeq, LIM, sDrop, sRet, retR, retO, bodyR, mChain, gLe, gInt, e1], r1, r2, r3⟩
theorem a4 {B many : Int} {ss p q : List D} (h : Src B ss) (hB : B ≤ 30000) (h1 : 2 ≤ many) (h2 : many ≤ 7) (hpl : p.length ≤ 8) (hp : ∀ d ∈ p, PStep many d) (hql : q.length ≤ 10) (hq : ∀ d ∈ q, PStep many d) :
    ∃ z ss', (sSeq plaw_0_1_3 (sSeq plaw_0_1_4 plaw_0_1_5)) (MG sc o1 o2 o3 (some (.ow false ss)) o5 (some (.im (.int many))) (some (.im (.list p))) (some (.ow false q)) o9) = some (.nx (MG sc o1 o2 o3 (some (.ow false ss')) o5 (some (.im (.int many))) (some (.im (.list p))) (some (.im (.list q))) (some (.im (.str z))))) ∧ Src (B + 300) ss' := by
  obtain ⟨z, z1, z2⟩ := reprSame (Tx.list (n := 3000) (k := 2) (m := 2) (ds := [.list p, .list q]) (mc (rows_tx (by omega) hp (by omega)) (mc (rows_tx (by omega) hq hql) m0)) (Nat.le_refl _)) (by decide) (by decide)
  obtain ⟨s1, e1, hs⟩ := same_right h (by omega) h1 (by omega) hp (by omega) hq (by omega)
  have e2 := law_turned h1 (by omega) hp (by omega)
  have e3 := law_turned h1 (by omega) hq (by omega)
  exact ⟨z, s1, by simp [plaw_0_1_3, plaw_0_1_4, plaw_0_1_5, sSeq, MG, sAsg, sIf, mIf, mB, mBV, mAnd, mOr, mNot, VL.m2, m1, im2, bl2, gEqI, gNeI, mVar, mVarO, mC, hold, peek, peekO, isSc, fin, mCallS, mCall, mCons, mNil, callS, frzA, frz, frzO, frR, asgR, mCB, imN, fInt, fAdd, fSub, fMod, fLen, ii, sNext, peekA, fIx, mSeq, LIM, sDrop, sRet, retR, retO, bodyR, mChain, gLe, gInt, z1, z2, e1, e2, e3], hs⟩
theorem a5 {cell k : Int} (h0 : 0 ≤ k) (h1 : k ≤ 100) : ∃ p1 p2 p3 p4 p5 p6 p7 p8 p9, plaw_0_b (MG sc o1 (some (.im (.int k))) (some (.im (.int cell))) o4 o5 o6 o7 o8 o9) = some (.nx (MG sc p1 p2 p3 p4 p5 p6 p7 p8 p9)) := by
  obtain ⟨s0, e0, h0⟩ := a0 (sc := sc) (cell := cell) (o1 := o1) (o4 := o4) (o5 := o5) (o6 := o6) (o7 := o7) (o8 := o8) (o9 := o9) h0 h1
  have it : plaw_0_1_it (MG sc o1 (some (.im (.int k))) (some (.im (.int cell))) (some (.ow false s0)) o5 o6 o7 o8 o9) = some (rangeD 0 3, MG sc o1 (some (.im (.int k))) (some (.im (.int cell))) (some (.ow false s0)) o5 o6 o7 o8 o9) := by
    simp [plaw_0_1_it, MG, sAsg, sIf, mIf, mB, mBV, mAnd, mOr, mNot, VL.m2, m1, im2, bl2, gEqI, gNeI, mVar, mVarO, mC, hold, peek, peekO, isSc, fin, mCallS, mCall, mCons, mNil, callS, frzA, frz, frzO, frR, asgR, mCB, imN, fInt, fAdd, fSub, fMod, fLen, ii, sNext, peekA, fIx, mSeq, LIM, sDrop, sRet, retR, retO, bodyR, mChain, gLe, gInt, mRng, rng1]
  obtain ⟨Γ', e4, ss', o5', o6', o7', o8', o9', rfl, _⟩ := for_inv (mt := gmName 5) (m := plaw_0_1_b) (ds := rangeD 0 3) (i := 0) (Γ := MG sc o1 (some (.im (.int k))) (some (.im (.int cell))) (some (.ow false s0)) o5 o6 o7 o8 o9)
    (I := fun j Γ => ∃ ss o5 o6 o7 o8 o9, Γ = MG sc o1 (some (.im (.int k))) (some (.im (.int cell))) (some (.ow false ss)) o5 o6 o7 o8 o9 ∧ Src (3000 * j) ss)
    ⟨s0, _, _, _, _, _, rfl, h0.mono (by omega)⟩
    (by
      rintro j d Γ hd _ hj ⟨ss, o5, o6, o7, o8, o9, rfl, k3⟩
      rw [rangeD_len] at hj
      obtain ⟨many, s1, y1, m1, m2, b1⟩ := a1 (sc := sc) (o1 := o1) (o2 := some (.im (.int k))) (o3 := some (.im (.int cell))) (o5 := some (.im d)) (o6 := o6) (o7 := o7) (o8 := o8) (o9 := o9) k3 (by omega)
      obtain ⟨p, s2, y2, p1, p2, b2⟩ := a2 (sc := sc) (o1 := o1) (o2 := some (.im (.int k))) (o3 := some (.im (.int cell))) (o5 := some (.im d)) (o7 := o7) (o8 := o8) (o9 := o9) b1 (by omega) m1 m2
      obtain ⟨q, s3, y3, q1, q2, b3⟩ := a3 (sc := sc) (o1 := o1) (o2 := some (.im (.int k))) (o3 := some (.im (.int cell))) (o5 := some (.im d)) (o8 := o8) (o9 := o9) b2 (by omega) m1 m2 p1 p2
      obtain ⟨z, s4, y4, b4⟩ := a4 (sc := sc) (o1 := o1) (o2 := some (.im (.int k))) (o3 := some (.im (.int cell))) (o5 := some (.im d)) (o9 := o9) b3 (by omega) m1 m2 p1 p2 q1 q2
      exact ⟨MG sc o1 (some (.im (.int k))) (some (.im (.int cell))) (some (.ow false ss)) (some (.im d)) o6 o7 o8 o9, _, rfl, (seq_nx y1).trans ((seq_nx y2).trans ((seq_nx y3).trans y4)), s4, _, _, _, _, _, rfl, b4.mono (by omega)⟩)
  exact ⟨_, _, _, _, _, _, _, _, _, (seq_nx e0).trans ((for_eq it).trans e4)⟩
theorem st_of {n : Int} {w : String} {i j : Int} (hw : PWord (.str (PySem.Str.ofString w))) (h1 : 0 ≤ i) (h2 : i < n) (h3 : 0 ≤ j) (h4 : j < n) (h5 : i ≠ j) : PStep n (.tuple [.str (PySem.Str.ofString w), .int i, .int j]) := ⟨_, i, j, rfl, hw, h1, h2, h3, h4, h5⟩
theorem swS : PWord (.str (PySem.Str.ofString "swap")) := .inr rfl
theorem mvS : PWord (.str (PySem.Str.ofString "move")) := .inl rfl
theorem es : PyData.eqv (.str (PySem.Str.ofString "swap")) (.str (PySem.Str.ofString "swap")) = true := by decide +kernel
theorem em : PyData.eqv (.str (PySem.Str.ofString "move")) (.str (PySem.Str.ofString "swap")) = false := by decide +kernel
theorem t3 : SH.d_turned [.int 3, .list [.tuple [.str (PySem.Str.ofString "swap"), .int 0, .int 1], .tuple [.str (PySem.Str.ofString "swap"), .int 1, .int 2]]] = some (.fr [.int 2, .int 0, .int 1]) := by
  have e : doR (rangeD 0 (3 : Int).toNat) [.tuple [.str (PySem.Str.ofString "swap"), .int 0, .int 1], .tuple [.str (PySem.Str.ofString "swap"), .int 1, .int 2]] = il [1, 2, 0] := by
    simp [rangeD, List.range, List.range.loop, doR, doS, es, il]
  have h := turned (n := 3) (by decide) (by decide) (mc (st_of swS (by decide) (by decide) (by decide) (by decide) (by decide)) (mc (st_of swS (by decide) (by decide) (by decide) (by decide) (by decide)) m0)) (by decide) e rfl
  have q : sortI [1, 2, 0] = rgI (3 : Int).toNat := (sortI_eq (ms := rgI (3 : Int).toNat) (by decide) (by decide)).symm
  rw [if_pos q] at h
  rw [h]
  rfl
theorem t2 : SH.d_turned [.int 2, .list [.tuple [.str (PySem.Str.ofString "move"), .int 0, .int 1]]] = some (.im .none) := by
  have e : doR (rangeD 0 (2 : Int).toNat) [.tuple [.str (PySem.Str.ofString "move"), .int 0, .int 1]] = il [0, 0] := by
    simp [rangeD, List.range, List.range.loop, doR, doS, em, il]
  have h := turned (n := 2) (by decide) (by decide) (mc (st_of mvS (by decide) (by decide) (by decide) (by decide) (by decide)) m0) (by decide) e rfl
  have q : sortI [0, 0] = [0, 0] := (sortI_eq (ms := [0, 0]) (by decide) (by decide)).symm
  rw [if_neg (by rw [q]; decide)] at h
  exact h
theorem t1 : SH.d_turned [.int 1, .list []] = some (.fr [.int 0]) := by
  have e : doR (rangeD 0 (1 : Int).toNat) [] = il [0] := by
    simp [rangeD, List.range, List.range.loop, doR, il]
  have h := turned (n := 1) (by decide) (by decide) m0 (by decide) e rfl
  have q : sortI [0] = rgI (1 : Int).toNat := (sortI_eq (ms := rgI (1 : Int).toNat) (by decide) (by decide)).symm
  rw [if_pos q] at h
  rw [h]
  rfl
theorem r1 : SH.d_same_rows [.int 2, .list [.tuple [.str (PySem.Str.ofString "move"), .int 0, .int 1]], .list [], .list [.int 0]] = some (.im (.bool true)) := by
  have e : doR (rangeD 0 (2 : Int).toNat) [.tuple [.str (PySem.Str.ofString "move"), .int 0, .int 1]] = il [0, 0] := by
    simp [rangeD, List.range, List.range.loop, doR, doS, em, il]
  have e' : doR (rangeD 0 (2 : Int).toNat) [] = il [0, 1] := by
    simp [rangeD, List.range, List.range.loop, doR, il]
  exact same_rows (n := 2) (c := [0]) (by decide) (by decide) (mc (st_of mvS (by decide) (by decide) (by decide) (by decide) (by decide)) m0) (by decide) m0 (by decide) e rfl e' rfl ⟨by decide, by decide, trivial⟩
theorem a6 : (sSeq plaw_1 plaw_2) (MG sc o1 o2 o3 o4 o5 o6 o7 o8 o9) = some (.rt (.im (.bool true)) (MG sc (some (.ow false [.list [.int 2, .int 0, .int 1], .none, .list [.int 0]])) o2 o3 o4 o5 o6 o7 o8 o9)) := by
  have e4 : gEq (.list [.list [.int 2, .int 0, .int 1], .none, .list [.int 0]]) (.list [.list [.int 2, .int 0, .int 1], .none, .list [.int 0]]) = some true := by decide +kernel
  have e1 := t1
  have e2 := t2
  have e3 := t3
  have e5 := r1
  simp [plaw_1, plaw_2, sSeq, MG, sAsg, sIf, mIf, mB, mBV, mAnd, mOr, mNot, VL.m2, m1, im2, bl2, gEqI, gNeI, mVar, mVarO, mC, hold, peek, peekO, isSc, fin, mCallS, mCall, mCons, mNil, callS, frzA, frz, frzO, frR, asgR, mCB, imN, fInt, fAdd, fSub, fMod, fLen, ii, sNext, peekA, fIx, mSeq, LIM, sDrop, sRet, retR, retO, bodyR, mChain, gLe, gInt, e1, e2, e3, e4, e5]
end
theorem law_true (ns : List Int) (hl : ns.length ≤ 63) : d_law [.list (ns.map .int)] = some (.im (.bool true)) := by
  show bodyR (m_law (MG (ns.map .int) none none none none none none none none none)) = _
  rw [plaw_eq]
  generalize eq6 : (if (8 : Int) < ns.length then (8 : Int) else ns.length) = q
  have hq : q ≤ 8 := by rw [← eq6]; split <;> omega
  generalize eqm : (if q > 1 then q else (1 : Int)) = m
  have hm : m ≤ 8 := by rw [← eqm]; split <;> omega
  have c1 : ns.length + 1 ≤ 4000000 := by omega
  have c2 : ns.length ≤ 3999999 := by omega
  have e0 : plaw_0_it (MG (ns.map .int) none none none none none none none none none) = some (enumD (cutD (ns.map .int ++ [.int 0]) none (some m)), MG (ns.map .int) none none none none none none none none none) := by
    simp only [gt_iff_lt] at eqm
    simp [plaw_0_it, MG, sAsg, sIf, mIf, mB, mBV, mAnd, mOr, mNot, VL.m2, m1, im2, bl2, gEqI, gNeI, mVar, mVarO, mC, hold, peek, peekO, isSc, fin, mCallS, mCall, mCons, mNil, callS, frzA, frz, frzO, frR, asgR, mCB, imN, fInt, fAdd, fSub, fMod, fLen, ii, sNext, peekA, fIx, mSeq, LIM, sDrop, sRet, retR, retO, bodyR, mChain, gLe, gInt, mEnum, mSl, mNoPart, mPart, fMax2, fMin2, fLen, c1, c2, eq6, eqm]
  obtain ⟨Γ', e4, o1, o2, o3, o4, o5, o6, o7, o8, o9, rfl⟩ := for_inv (mt := gmTup 2 (gmCons (gmName 2) (gmCons (gmName 3) gmNil))) (m := plaw_0_b) (ds := enumD (cutD (ns.map .int ++ [.int 0]) none (some m))) (i := 0) (Γ := MG (ns.map .int) none none none none none none none none none)
    (I := fun _ Γ => ∃ o1 o2 o3 o4 o5 o6 o7 o8 o9, Γ = MG (ns.map .int) o1 o2 o3 o4 o5 o6 o7 o8 o9)
    ⟨_, _, _, _, _, _, _, _, _, rfl⟩
    (by
      rintro j d Γ hd _ _ ⟨o1, o2, o3, o4, o5, o6, o7, o8, o9, rfl⟩
      obtain ⟨⟨x, k⟩, hp, rfl⟩ := List.mem_map.mp hd
      have hk : k < 100 ∧ x ∈ ns.map PyData.int ++ [.int 0] := by
        obtain ⟨p1, p2, p3⟩ := List.mem_zipIdx hp
        have := cutD_len (ns.map .int ++ [.int 0]) none (some m)
        rw [List.length_append, List.length_map] at this
        refine ⟨by have : ([PyData.int 0] : List D).length = 1 := rfl; omega, ?_⟩
        rw [p3]
        exact cutD_mem (List.getElem_mem _)
      have hx : ∃ c, x = .int c := by
        rcases List.mem_append.mp hk.2 with h | h
        · obtain ⟨i, _, rfl⟩ := List.mem_map.mp h
          exact ⟨i, rfl⟩
        · exact ⟨0, List.mem_singleton.mp h⟩
      obtain ⟨c, rfl⟩ := hx
      obtain ⟨p1, p2, p3, p4, p5, p6, p7, p8, p9, e⟩ := a5 (sc := ns.map .int) (o1 := o1) (cell := c) (k := (k : Int)) (o4 := o4) (o5 := o5) (o6 := o6) (o7 := o7) (o8 := o8) (o9 := o9) (by omega) (by omega)
      exact ⟨MG (ns.map .int) o1 (some (.im (.int (k : Int)))) (some (.im (.int c))) o4 o5 o6 o7 o8 o9, _, rfl, e, p1, p2, p3, p4, p5, p6, p7, p8, p9, rfl⟩)
  rw [seq_nx ((for_eq e0).trans e4), a6]
  rfl
end Gk06

open PySem PySem.W PyProof.Rows
set_option maxHeartbeats 0 in
theorem PySem.Challenge.cw_valuesmoved_k06_rows_alike_and_turned_holds : PySem.Challenge.rw_valuesmoved_k06_rows_alike_and_turned.Holds := by
  w_on; o_law; k_head; (case hw => w_witness2)
  k_fill
  refine VL.walkG (l := PySem.Challenge.rw_valuesmoved_k06_rows_alike_and_turned) (n := 63) (k := 10) (x := "script") (CX := fun _ => L2.CX0) (sp := fun w => VL.spV _ 1 Gk06.d_law) rfl (by decide) rfl ⟨rfl, by decide, by decide⟩ (fun w h Y => PySem.W.kIn_of Y) ?F (fun _ _ a ns hl _ hS => VL.law_end hS (Gk06.law_true ns hl)) (fun _ _ _ _ _ h => h)
  case F =>
    intro w mg fa h KX G hmg
    refine' Gk06.all_mk KX G hmg ?a0 ?l0 ?c0 ?k0 ?a1 ?l1 ?c1 ?k1 ?a2 ?l2 ?c2 ?k2 ?a3 ?l3 ?c3 ?k3 ?a4 ?l4 ?c4 ?k4 ?a5 ?l5 ?c5 ?k5 ?a6 ?l6 ?c6 ?k6 ?a7 ?l7 ?c7 ?k7 ?a8 ?l8 ?c8 ?k8 ?a9 ?l9 ?c9 ?k9 ?a10 ?l10 ?c10 ?k10 ?a11 ?l11 ?c11 ?k11 ?a12 ?l12 ?c12 ?k12 ?a13 ?l13 ?c13 ?k13 ?a14 ?l14 ?c14 ?k14 ?a15 ?l15 ?c15 ?k15 ?a16 ?l16 ?c16 ?k16 ?a17 ?l17 ?c17 ?k17 ?a18 ?l18 ?c18 ?k18 ?a19 ?l19 ?c19 ?k19 ?a20 ?l20 ?c20 ?k20 ?a21 ?l21 ?c21 ?k21 ?a22 ?l22 ?c22 ?k22 ?z_abs ?z_all ?z_bool ?z_enumerate ?z_int ?z_isinstance ?z_len ?z_list ?z_max ?z_min ?z_range ?z_repr ?z_sorted ?z_tuple ?y_MOST_CELLS ?y_MOST_STEPS
    (case a0 => k_is)
    (case l0 => k_is)
    (case c0 => k_is)
    (case k0 => k_is)
    (case a1 => k_is)
    (case l1 => k_is)
    (case c1 => k_is)
    (case k1 => k_is)
    (case a2 => k_is)
    (case l2 => k_is)
    (case c2 => k_is)
    (case k2 => k_is)
    (case a3 => k_is)
    (case l3 => k_is)
    (case c3 => k_is)
    (case k3 => k_is)
    (case a4 => k_is)
    (case l4 => k_is)
    (case c4 => k_is)
    (case k4 => k_is)
    (case a5 => k_is)
    (case l5 => k_is)
    (case c5 => k_is)
    (case k5 => k_is)
    (case a6 => k_is)
    (case l6 => k_is)
    (case c6 => k_is)
    (case k6 => k_is)
    (case a7 => k_is)
    (case l7 => k_is)
    (case c7 => k_is)
    (case k7 => k_is)
    (case a8 => k_is)
    (case l8 => k_is)
    (case c8 => k_is)
    (case k8 => k_is)
    (case a9 => k_is)
    (case l9 => k_is)
    (case c9 => k_is)
    (case k9 => k_is)
    (case a10 => k_is)
    (case l10 => k_is)
    (case c10 => k_is)
    (case k10 => k_is)
    (case a11 => k_is)
    (case l11 => k_is)
    (case c11 => k_is)
    (case k11 => k_is)
    (case a12 => k_is)
    (case l12 => k_is)
    (case c12 => k_is)
    (case k12 => k_is)
    (case a13 => k_is)
    (case l13 => k_is)
    (case c13 => k_is)
    (case k13 => k_is)
    (case a14 => k_is)
    (case l14 => k_is)
    (case c14 => k_is)
    (case k14 => k_is)
    (case a15 => k_is)
    (case l15 => k_is)
    (case c15 => k_is)
    (case k15 => k_is)
    (case a16 => k_is)
    (case l16 => k_is)
    (case c16 => k_is)
    (case k16 => k_is)
    (case a17 => k_is)
    (case l17 => k_is)
    (case c17 => k_is)
    (case k17 => k_is)
    (case a18 => k_is)
    (case l18 => k_is)
    (case c18 => k_is)
    (case k18 => k_is)
    (case a19 => k_is)
    (case l19 => k_is)
    (case c19 => k_is)
    (case k19 => k_is)
    (case a20 => k_is)
    (case l20 => k_is)
    (case c20 => k_is)
    (case k20 => k_is)
    (case a21 => k_is)
    (case l21 => k_is)
    (case c21 => k_is)
    (case k21 => k_is)
    (case a22 => k_is)
    (case l22 => k_is)
    (case c22 => k_is)
    (case k22 => k_is)
    (case z_abs => k_is)
    (case z_all => k_is)
    (case z_bool => k_is)
    (case z_enumerate => k_is)
    (case z_int => k_is)
    (case z_isinstance => k_is)
    (case z_len => k_is)
    (case z_list => k_is)
    (case z_max => k_is)
    (case z_min => k_is)
    (case z_range => k_is)
    (case z_repr => k_is)
    (case z_sorted => k_is)
    (case z_tuple => k_is)
    (case y_MOST_CELLS => k_is)
    (case y_MOST_STEPS => k_is)
