import PyProof.Rows.All
import HandS.Base
import HandS.Call
import HandS.List
import HandS.Comp
import HandS.Iter
import HandS.Text
import HandS.Dict
import HandS.Exc
import HandS.ExcOwn
import HandS.TryMany
import HandS.Words
import HandS.WordsExc
import HandS.Gcd
import HandS.Wide
import HandS.IsInst
import HandS.SortInts
import HandS.Small
import KE.GoesComp
import KE.GoesRaise
import KE.GoesEnum
import HandS.SetFor
import HandS.Strs
import HandS.TupAny
import KE.GoesZip
import KE.GoesMore
import HandS.Zip
import HandS.Conv
import HandS.TupSets
import HandS.Style
import HandS.CallSlots
import HandS.ClsMeth
import HandS.Property
import HandS.Ends
import HandS.Head0
import HandS.Head1
import HandS.Head2
import HandS.Head3
import HandS.HeadEnd
import HandS.HeadHook1
import HandS.HeadHook2
import PySem.Challenge.RW_leanwebs_k21_star_triangle_doubles
set_option Elab.async false
set_option linter.all false
set_option maxRecDepth 100000
set_option maxHeartbeats 2000000
namespace Lw
open PySem L2

/-! ## data -/
inductive D where
  | non | bl (b : Bool) | int (i : Int) | str (s : Str) | ty (n : String) | cls (C : Addr)
  | tup (xs : List D) | lst (xs : List D) | fz (xs : List D)
  | obj (C : Addr) (ns : List Str) (ds : List D)

mutual
inductive Rep (K : PySem.W.Frag) (B : Hp) : V → D → Prop
  | non : Rep K B .non .non
  | bl {b : Bool} : Rep K B (.bl b) (.bl b)
  | int {i : Int} : Rep K B (.int i) (.int i)
  | str {s : Str} : Rep K B (.str s) (.str s)
  | ty {n : String} : Rep K B (.ty n) (.ty n)
  | cls {C : Addr} : Rep K B (.ref C) (.cls C)
  | tup {a : Addr} {vs : List V} {ds : List D} : B a = some (.tup vs) → Reps K B vs ds → Rep K B (.ref a) (.tup ds)
  | lst {a : Addr} {vs : List V} {ds : List D} : B a = some (.lst vs) → Reps K B vs ds → Rep K B (.ref a) (.lst ds)
  | fz {a : Addr} {vs : List V} {ds : List D} : SqL K B a vs → Reps K B vs ds → Rep K B (.ref a) (.fz ds)
  | obj {a C dx : Addr} {ns : List Str} {vs : List V} {ds : List D} : B a = some (.ins C dx (ns.zip vs)) → ns.length = vs.length → Reps K B vs ds → Rep K B (.ref a) (.obj C ns ds)
inductive Reps (K : PySem.W.Frag) (B : Hp) : List V → List D → Prop
  | nil : Reps K B [] []
  | cons {v : V} {vs : List V} {d : D} {ds : List D} : Rep K B v d → Reps K B vs ds → Reps K B (v :: vs) (d :: ds)
end

def Ex (H H' : Hp) : Prop := ∀ a o, H a = some o → H' a = some o
theorem Ex.refl (H : Hp) : Ex H H := fun _ _ h => h
theorem Ex.trans {H H1 H2 : Hp} (a : Ex H H1) (b : Ex H1 H2) : Ex H H2 := fun x o h => b x o (a x o h)
theorem Ex.new {H : Hp} {p : Addr} {o : HO} (h : H p = none) : Ex H (upd H p o) := fun a u e => by
  rw [upd_ne (ne_of_none e h)]; exact e
theorem Ex.both {H H' : Hp} {p : Addr} {o : HO} (e : Ex H H') (h : H p = none) : Ex (upd H p o) (upd H' p o) := fun a u q => by
  by_cases ha : a = p
  · subst ha; rw [upd_same] at q ⊢; exact q
  · rw [upd_ne ha] at q ⊢; exact e a u q
theorem Ex.mut {H H' : Hp} {p : Addr} {o : HO} (e : Ex H H') (h : H p = none) : Ex H (upd H' p o) := fun a u ha => by
  rw [upd_ne (ne_of_none ha h)]; exact e a u ha
theorem ex_rd {H H' : Hp} {a : Addr} {u : HO} (e : Ex H H') (h : Rd H a u) : Rd H' a u := by
  rcases h with h | ⟨o, h⟩
  · exact Or.inl (e a _ h)
  · exact Or.inr ⟨o, e a _ h⟩
section
variable {K : PySem.W.Frag} {B B' H H' : Hp} {a p : Addr} {vs xs : List V} {v : V} {d : D} {ds : List D}
theorem ex_l (e : Ex H H') (h : SqL K H a xs) : SqL K H' a xs := by
  rcases h with h | h
  · exact Or.inl (ex_rd e h)
  · exact Or.inr h
theorem ex_t (e : Ex H H') (h : SqT K H a xs) : SqT K H' a xs := by
  rcases h with h | h
  · exact Or.inl (ex_rd e h)
  · exact Or.inr h
theorem sqt (e : Ex H H') (h : H a = some (.tup xs)) : SqT K H' a xs := Or.inl (Or.inl (e _ _ h))
mutual
theorem Rep.mono (e : Ex B B') : ∀ (d : D) (v : V), Rep K B v d → Rep K B' v d
  | .non, _, h => by cases h; exact .non
  | .bl _, _, h => by cases h; exact .bl
  | .int _, _, h => by cases h; exact .int
  | .str _, _, h => by cases h; exact .str
  | .ty _, _, h => by cases h; exact .ty
  | .cls _, _, h => by cases h; exact .cls
  | .tup ds, _, h => by
    cases h with
    | tup s r => exact .tup (e _ _ s) (Reps.mono e ds _ r)
  | .lst ds, _, h => by
    cases h with
    | lst s r => exact .lst (e _ _ s) (Reps.mono e ds _ r)
  | .fz ds, _, h => by
    cases h with
    | fz s r => exact .fz (ex_l e s) (Reps.mono e ds _ r)
  | .obj _ _ ds, _, h => by
    cases h with
    | obj s l r => exact .obj (e _ _ s) l (Reps.mono e ds _ r)
theorem Reps.mono (e : Ex B B') : ∀ (ds : List D) (vs : List V), Reps K B vs ds → Reps K B' vs ds
  | [], _, h => by cases h; exact .nil
  | d :: ds, _, h => by
    cases h with
    | cons r rs => exact .cons (Rep.mono e d _ r) (Reps.mono e ds _ rs)
end
theorem Rep.up (h : Rep K B v d) (e : Ex B B') : Rep K B' v d := Rep.mono e d v h
theorem Reps.up (h : Reps K B vs ds) (e : Ex B B') : Reps K B' vs ds := Reps.mono e ds vs h
theorem Reps.len : ∀ {vs : List V} {ds : List D}, Reps K B vs ds → vs.length = ds.length
  | _, _, .nil => rfl
  | _, _, .cons _ r => by rw [List.length_cons, List.length_cons, r.len]
theorem Reps.get : ∀ {vs : List V} {ds : List D} {i : Nat} {d : D}, Reps K B vs ds → ds[i]? = some d → ∃ v, vs[i]? = some v ∧ Rep K B v d
  | _, _, _, _, .nil, h => by simp at h
  | _, _, 0, _, .cons r _, h => by simp at h; subst h; exact ⟨_, rfl, r⟩
  | _, _, i + 1, _, .cons _ r, h => by simp at h; obtain ⟨v, e, q⟩ := r.get h; exact ⟨v, by simpa using e, q⟩
theorem Reps.getV : ∀ {vs : List V} {ds : List D} {i : Nat} {v : V}, Reps K B vs ds → vs[i]? = some v → ∃ d, ds[i]? = some d ∧ Rep K B v d
  | _, _, _, _, .nil, h => by simp at h
  | _, _, 0, _, .cons r _, h => by simp at h; subst h; exact ⟨_, rfl, r⟩
  | _, _, i + 1, _, .cons _ r, h => by simp at h; obtain ⟨v, e, q⟩ := r.getV h; exact ⟨v, by simpa using e, q⟩
theorem Reps.append : ∀ {vs ws : List V} {ds es : List D}, Reps K B vs ds → Reps K B ws es → Reps K B (vs ++ ws) (ds ++ es)
  | _, _, _, _, .nil, h => h
  | _, _, _, _, .cons r rs, h => .cons r (rs.append h)
theorem Reps.drop : ∀ {vs : List V} {ds : List D} (n : Nat), Reps K B vs ds → Reps K B (vs.drop n) (ds.drop n)
  | _, _, 0, h => by simpa using h
  | _, _, n + 1, .nil => by simpa using Reps.nil
  | _, _, n + 1, .cons _ rs => by simpa using rs.drop n
theorem Reps.take : ∀ {vs : List V} {ds : List D} (n : Nat), Reps K B vs ds → Reps K B (vs.take n) (ds.take n)
  | _, _, 0, h => by simpa using Reps.nil
  | _, _, n + 1, .nil => by simpa using Reps.nil
  | _, _, n + 1, .cons r rs => by simpa using Reps.cons r (rs.take n)
theorem Reps.set : ∀ {vs : List V} {ds : List D} (n : Nat) {v : V} {d : D}, Reps K B vs ds → Rep K B v d → Reps K B (vs.set n v) (ds.set n d)
  | _, _, _, _, _, .nil, _ => by simpa using Reps.nil
  | _, _, 0, _, _, .cons _ rs, h => by simpa using Reps.cons h rs
  | _, _, n + 1, _, _, .cons r rs, h => by simpa using Reps.cons r (rs.set n h)
theorem Reps.reverse : ∀ {vs : List V} {ds : List D}, Reps K B vs ds → Reps K B vs.reverse ds.reverse
  | _, _, .nil => .nil
  | _, _, .cons r rs => by rw [List.reverse_cons, List.reverse_cons]; exact rs.reverse.append (.cons r .nil)
theorem Reps.ints : ∀ {vs : List V} {ns : List Int}, Reps K B vs (ns.map D.int) → vs = ns.map V.int
  | _, [], .nil => rfl
  | _, n :: ns, .cons r rs => by cases r; rw [List.map_cons, rs.ints]
theorem Reps.ofInts : ∀ {ns : List Int}, Reps K B (ns.map V.int) (ns.map D.int)
  | [] => .nil
  | _ :: _ => .cons .int Reps.ofInts
theorem Reps.bools : ∀ {vs : List V} {ns : List Bool}, Reps K B vs (ns.map D.bl) → vs = ns.map V.bl
  | _, [], .nil => rfl
  | _, n :: ns, .cons r rs => by cases r; rw [List.map_cons, rs.bools]
theorem Reps.strs : ∀ {vs : List V} {ns : List Str}, Reps K B vs (ns.map D.str) → vs = ns.map V.str
  | _, [], .nil => rfl
  | _, n :: ns, .cons r rs => by cases r; rw [List.map_cons, rs.strs]
theorem Reps.ofStrs : ∀ {ns : List Str}, Reps K B (ns.map V.str) (ns.map D.str)
  | [] => .nil
  | _ :: _ => .cons .str Reps.ofStrs
end

/-! ## mutable objects and the state -/
inductive MO where
  | gone
  | dic (kvs : List (List Int × D))
  | lst (xs : List D)
  | ins (C : Addr) (ns : List Str) (ds : List D)
def MRep (K : PySem.W.Frag) (B : Hp) (o : HO) : MO → Prop
  | .gone => True
  | .dic kvs => ∃ vs, o = .dT ((kvs.map fun p => p.1.map Sum.inl).zip vs) ∧ kvs.length = vs.length ∧ Reps K B vs (kvs.map (·.2))
  | .lst xs => ∃ vs, o = .lst vs ∧ Reps K B vs xs
  | .ins C ns ds => ∃ dx vs, o = .ins C dx (ns.zip vs) ∧ ns.length = vs.length ∧ Reps K B vs ds
theorem MRep.up {K : PySem.W.Frag} {B B' : Hp} {o : HO} {m : MO} (h : MRep K B o m) (e : Ex B B') : MRep K B' o m := by
  cases m with
  | gone => trivial
  | dic kvs => obtain ⟨vs, q, l, r⟩ := h; exact ⟨vs, q, l, r.up e⟩
  | lst xs => obtain ⟨vs, q, r⟩ := h; exact ⟨vs, q, r.up e⟩
  | ins C ns ds => obtain ⟨dx, vs, q, l, r⟩ := h; exact ⟨dx, vs, q, l, r.up e⟩
/-- what a slot or an argument holds -/
inductive G where
  | no | dat (d : D) | mr (i : Nat)
def RepG (K : PySem.W.Frag) (B : Hp) (as : List Addr) (v : V) : G → Prop
  | .no => True
  | .dat d => Rep K B v d
  | .mr i => ∃ a, v = .ref a ∧ as[i]? = some a
theorem RepG.up {K : PySem.W.Frag} {B B' : Hp} {as : List Addr} {v : V} {g : G} (h : RepG K B as v g) (e : Ex B B') : RepG K B' as v g := by
  cases g with
  | no => trivial
  | dat d => exact Rep.up h e
  | mr i => exact h
structure Sat (K : PySem.W.Frag) (B : Hp) (as : List Addr) (M : List MO) (F H : Hp) : Prop where
  ex : Ex B H
  fr : ∀ a o, F a = some o → H a = some o ∧ B a = none ∧ a ∉ as
  len : as.length = M.length
  nd : as.Nodup
  old : ∀ a ∈ as, ∃ o, H a = some o
  mu : ∀ (i : Nat) (a : Addr) (m : MO), as[i]? = some a → M[i]? = some m → m ≠ .gone → B a = none ∧ ∃ o, H a = some o ∧ MRep K B o m
  gn : ∀ (i : Nat) (a : Addr), as[i]? = some a → M[i]? = some .gone → ∃ o, B a = some o
  nt : ∀ (a : Addr) (xs : List V), F a ≠ some (.tup xs)
/-- the slots -/
structure SOk (K : PySem.W.Frag) (B : Hp) (as : List Addr) (σ : L2.St) (Γ : List G) : Prop where
  len : σ.length = Γ.length
  at' : ∀ (i : Nat) (g : G), Γ[i]? = some g → g ≠ .no → ∃ v, σ[i]? = some (some v) ∧ RepG K B as v g
section
variable {K : PySem.W.Frag} {B B' F H H' : Hp} {as : List Addr} {M M' : List MO} {σ : L2.St} {Γ : List G} {v : V} {d : D} {ds : List D} {g : G} {i : Nat} {p : Addr} {o : HO}
theorem SOk.up (h : SOk K B as σ Γ) (e : Ex B B') : SOk K B' as σ Γ := ⟨h.len, fun i g hg hn => by
  obtain ⟨v, q, r⟩ := h.at' i g hg hn; exact ⟨v, q, r.up e⟩⟩
theorem RepG.more {v : V} {g : G} {as bs : List Addr} (h : RepG K B as v g) : RepG K B (as ++ bs) v g := by
  cases g with
  | no => trivial
  | dat d => exact h
  | mr i =>
    obtain ⟨a, e, q⟩ := h
    exact ⟨a, e, by rw [List.getElem?_append_left (List.getElem?_eq_some_iff.mp q).1]; exact q⟩
theorem SOk.more {bs : List Addr} (h : SOk K B as σ Γ) : SOk K B (as ++ bs) σ Γ := ⟨h.len, fun i g hg hn => by
  obtain ⟨v, q, r⟩ := h.at' i g hg hn; exact ⟨v, q, r.more⟩⟩
theorem SOk.set (h : SOk K B as σ Γ) (r : RepG K B as v g) (i : Nat) : SOk K B as (σ.set i (some v)) (Γ.set i g) := ⟨by simpa using h.len, fun j g' hg hn => by
  by_cases hj : i = j
  · subst hj
    by_cases hl : i < Γ.length
    · rw [List.getElem?_set_self hl] at hg
      cases hg
      exact ⟨v, by rw [List.getElem?_set_self (by rw [h.len]; exact hl)], r⟩
    · rw [List.getElem?_eq_none (by simpa using hl)] at hg; cases hg
  · rw [List.getElem?_set_ne hj] at hg ⊢
    exact h.at' j g' hg hn⟩
/-- a new thing that never changes -/
theorem Sat.new (S : Sat K B as M F H) (hp : H p = none) : Sat K (upd B p o) as M F (upd H p o) := by
  have nb : B p = none := by
    cases e : B p with
    | none => rfl
    | some u => rw [S.ex p u e] at hp; cases hp
  refine ⟨S.ex.both nb, fun a u e => ?_, S.len, S.nd, fun a ha => ?_, fun i a m h1 h2 h3 => ?_, fun i a h1 h2 => ?_, S.nt⟩
  · obtain ⟨h1, h2, h3⟩ := S.fr a u e
    have ne : a ≠ p := ne_of_none h1 hp
    exact ⟨by rw [upd_ne ne]; exact h1, by rw [upd_ne ne]; exact h2, h3⟩
  · obtain ⟨u, e⟩ := S.old a ha
    exact ⟨u, by rw [upd_ne (ne_of_none e hp)]; exact e⟩
  · obtain ⟨q1, u, q2, q3⟩ := S.mu i a m h1 h2 h3
    have ne : a ≠ p := ne_of_none q2 hp
    exact ⟨by rw [upd_ne ne]; exact q1, u, by rw [upd_ne ne]; exact q2, q3.up (Ex.new nb)⟩
  · obtain ⟨o', q⟩ := S.gn i a h1 h2
    exact ⟨o', Ex.new nb a o' q⟩
theorem Sat.nb (S : Sat K B as M F H) (hp : H p = none) : B p = none := by
  cases e : B p with
  | none => rfl
  | some u => rw [S.ex p u e] at hp; cases hp
/-- a new thing that may change -/
theorem Sat.newM {m : MO} (S : Sat K B as M F H) (hp : H p = none) (r : MRep K B o m) (hm : m ≠ .gone) : Sat K B (as ++ [p]) (M ++ [m]) F (upd H p o) := by
  have nb := S.nb hp
  have na : p ∉ as := fun h => by obtain ⟨u, e⟩ := S.old p h; rw [hp] at e; cases e
  refine ⟨S.ex.mut nb, fun a u e => ?_, by simp [S.len], ?_, fun a ha => ?_, fun i a m' h1 h2 h3 => ?_, fun i a h1 h2 => ?_, S.nt⟩
  · obtain ⟨h1, h2, h3⟩ := S.fr a u e
    have ne : a ≠ p := ne_of_none h1 hp
    exact ⟨by rw [upd_ne ne]; exact h1, h2, by simp [h3, ne]⟩
  · rw [List.nodup_append]
    exact ⟨S.nd, by simp, fun a ha b hb => by simp at hb; subst hb; rintro rfl; exact na ha⟩
  · rcases List.mem_append.mp ha with ha | ha
    · obtain ⟨u, e⟩ := S.old a ha
      exact ⟨u, by rw [upd_ne (ne_of_none e hp)]; exact e⟩
    · simp at ha; subst ha; exact ⟨o, upd_same⟩
  · by_cases hi : i < as.length
    · rw [List.getElem?_append_left hi] at h1
      rw [List.getElem?_append_left (by rw [← S.len]; exact hi)] at h2
      obtain ⟨q1, u, q2, q3⟩ := S.mu i a m' h1 h2 h3
      exact ⟨q1, u, by rw [upd_ne (ne_of_none q2 hp)]; exact q2, q3⟩
    · have e1 : i = as.length := by
        have := (List.getElem?_eq_some_iff.mp h1).1
        simp at this; omega
      subst e1
      rw [List.getElem?_append_right (Nat.le_refl _)] at h1
      rw [S.len, List.getElem?_append_right (Nat.le_refl _)] at h2
      simp at h1 h2
      subst h1; subst h2
      exact ⟨nb, o, upd_same, r⟩
  · by_cases hi : i < as.length
    · rw [List.getElem?_append_left hi] at h1
      rw [List.getElem?_append_left (by rw [← S.len]; exact hi)] at h2
      exact S.gn i a h1 h2
    · have e1 : i = as.length := by
        have := (List.getElem?_eq_some_iff.mp h1).1
        simp at this; omega
      subst e1
      rw [S.len, List.getElem?_append_right (Nat.le_refl _)] at h2
      simp at h2
      exact absurd h2 hm
/-- a thing that may change changes -/
theorem Sat.write {m m' : MO} {a : Addr} (S : Sat K B as M F H) (ha : as[i]? = some a) (hm : M[i]? = some m) (hn : m ≠ .gone) (r : MRep K B o m') (hm' : m' ≠ .gone) : Sat K B as (M.set i m') F (upd H a o) := by
  obtain ⟨nb, u, hu, _⟩ := S.mu i a m ha hm hn
  have ma : a ∈ as := List.mem_of_getElem? ha
  refine ⟨S.ex.mut nb, fun b v e => ?_, by simp [S.len], S.nd, fun b hb => ?_, fun j b m2 h1 h2 h3 => ?_, fun j b h1 h2 => ?_, S.nt⟩
  · obtain ⟨h1, h2, h3⟩ := S.fr b v e
    have ne : b ≠ a := fun z => h3 (z ▸ ma)
    exact ⟨by rw [upd_ne ne]; exact h1, h2, h3⟩
  · by_cases z : b = a
    · subst z; exact ⟨o, upd_same⟩
    · obtain ⟨w, e⟩ := S.old b hb
      exact ⟨w, by rw [upd_ne z]; exact e⟩
  · by_cases hj : i = j
    · subst hj
      rw [ha] at h1; cases h1
      rw [List.getElem?_set_self (List.getElem?_eq_some_iff.mp hm).1] at h2; cases h2
      exact ⟨nb, o, upd_same, r⟩
    · rw [List.getElem?_set_ne hj] at h2
      have ne : b ≠ a := fun z => hj (by
        subst z
        have l1 := (List.getElem?_eq_some_iff.mp ha)
        have l2 := (List.getElem?_eq_some_iff.mp h1)
        exact (List.getElem_inj (h₀ := l1.1) (h₁ := l2.1) S.nd).mp (l1.2.trans l2.2.symm))
      obtain ⟨q1, w, q2, q3⟩ := S.mu j b m2 h1 h2 h3
      exact ⟨q1, w, by rw [upd_ne ne]; exact q2, q3⟩
  · by_cases hj : i = j
    · subst hj
      rw [List.getElem?_set_self (List.getElem?_eq_some_iff.mp hm).1] at h2
      exact absurd (Option.some.inj h2) hm'
    · rw [List.getElem?_set_ne hj] at h2
      exact S.gn j b h1 h2
/-- a thing that changed never changes again: it joins the ground -/
theorem Sat.freeze {a : Addr} (S : Sat K B as M F H) (ha : as[i]? = some a) (hu : H a = some o) (nb : B a = none) : Sat K (upd B a o) as (M.set i .gone) F H := by
  have ma : a ∈ as := List.mem_of_getElem? ha
  refine ⟨fun b u e => ?_, fun b v e => ?_, by simp [S.len], S.nd, S.old, fun j b m2 h1 h2 h3 => ?_, fun j b h1 h2 => ?_, S.nt⟩
  · by_cases z : b = a
    · subst z; rw [upd_same] at e; cases e; exact hu
    · rw [upd_ne z] at e; exact S.ex b u e
  · obtain ⟨h1, h2, h3⟩ := S.fr b v e
    have ne : b ≠ a := fun z => h3 (z ▸ ma)
    exact ⟨h1, by rw [upd_ne ne]; exact h2, h3⟩
  · by_cases hj : i = j
    · subst hj
      by_cases hl : i < M.length
      · rw [List.getElem?_set_self hl] at h2; cases h2; exact absurd rfl h3
      · rw [List.getElem?_eq_none (by simpa using hl)] at h2; cases h2
    · rw [List.getElem?_set_ne hj] at h2
      have ne : b ≠ a := fun z => hj (by
        subst z
        have l1 := (List.getElem?_eq_some_iff.mp ha)
        have l2 := (List.getElem?_eq_some_iff.mp h1)
        exact (List.getElem_inj (h₀ := l1.1) (h₁ := l2.1) S.nd).mp (l1.2.trans l2.2.symm))
      obtain ⟨q1, w, q2, q3⟩ := S.mu j b m2 h1 h2 h3
      exact ⟨by rw [upd_ne ne]; exact q1, w, q2, q3.up (Ex.new nb)⟩
  · by_cases hj : i = j
    · subst hj
      rw [ha] at h1; cases h1
      exact ⟨o, upd_same⟩
    · rw [List.getElem?_set_ne hj] at h2
      obtain ⟨o', q⟩ := S.gn j b h1 h2
      exact ⟨o', Ex.new nb b o' q⟩
/-- the last ones are let go -/
theorem Sat.take (S : Sat K B as M F H) (n : Nat) : Sat K B (as.take n) (M.take n) F H := by
  refine ⟨S.ex, fun a u e => ?_, by simp [S.len], S.nd.sublist (List.take_sublist n as), fun a ha => S.old a (List.mem_of_mem_take ha), fun i a m h1 h2 h3 => ?_, fun i a h1 h2 => ?_, S.nt⟩
  · obtain ⟨h1, h2, h3⟩ := S.fr a u e
    exact ⟨h1, h2, fun h => h3 (List.mem_of_mem_take h)⟩
  · rw [List.getElem?_take] at h1 h2
    by_cases hi : i < n
    · rw [if_pos hi] at h1 h2; exact S.mu i a m h1 h2 h3
    · rw [if_neg hi] at h1; cases h1
  · rw [List.getElem?_take] at h1 h2
    by_cases hi : i < n
    · rw [if_pos hi] at h1 h2; exact S.gn i a h1 h2
    · rw [if_neg hi] at h1; cases h1

/-- a tuple that stands joins the ground -/
theorem Sat.ground {b : Addr} {vs : List V} (S : Sat K B as M F H) (hb : H b = some (.tup vs)) (nb : B b = none) : Sat K (upd B b (.tup vs)) as M F H := by
  have notMu : ∀ (i : Nat) (m : MO) (o : HO), M[i]? = some m → m ≠ .gone → MRep K B o m → o ≠ .tup vs := fun i m o _ hg r z => by
    subst z
    cases m with
    | gone => exact hg rfl
    | lst xs => obtain ⟨_, e, _⟩ := r; cases e
    | ins C ns ds => obtain ⟨_, _, e, _⟩ := r; cases e
    | dic kvs => obtain ⟨_, e, _⟩ := r; cases e
  refine ⟨fun a u e => ?_, fun a u e => ?_, S.len, S.nd, S.old, fun i a m h1 h2 h3 => ?_, fun i a h1 h2 => ?_, S.nt⟩
  · by_cases z : a = b
    · subst z; rw [upd_same] at e; cases e; exact hb
    · rw [upd_ne z] at e; exact S.ex a u e
  · obtain ⟨h1, h2, h3⟩ := S.fr a u e
    have ne : a ≠ b := fun z => by
      subst z
      rw [hb] at h1; cases h1
      exact S.nt _ _ e
    exact ⟨h1, by rw [upd_ne ne]; exact h2, h3⟩
  · obtain ⟨q1, u, q2, q3⟩ := S.mu i a m h1 h2 h3
    have ne : a ≠ b := fun z => by
      subst z
      rw [hb] at q2; cases q2
      exact notMu i m _ h2 h3 q3 rfl
    exact ⟨by rw [upd_ne ne]; exact q1, u, q2, q3.up (Ex.new nb)⟩
  · obtain ⟨o', q⟩ := S.gn i a h1 h2
    exact ⟨o', Ex.new nb a o' q⟩
end
end Lw

set_option Elab.async false
set_option linter.all false
set_option maxRecDepth 100000
set_option maxHeartbeats 2000000
namespace Lw
open PySem L2

def del (H : Hp) (p : Addr) : Hp := fun a => if a = p then none else H a
theorem del_same {H : Hp} {p : Addr} : del H p p = none := if_pos rfl
theorem del_ne {H : Hp} {p a : Addr} (h : a ≠ p) : del H p a = H a := if_neg h
theorem upd_del {H : Hp} {p : Addr} {o : HO} (h : H p = some o) : upd (del H p) p o = H := by
  funext a
  by_cases z : a = p
  · subst z; rw [upd_same, h]
  · rw [upd_ne z, del_ne z]

inductive RepGs (K : PySem.W.Frag) (B : Hp) (as : List Addr) : List V → List G → Prop
  | nil : RepGs K B as [] []
  | cons {v : V} {vs : List V} {g : G} {gs : List G} : RepG K B as v g → RepGs K B as vs gs → RepGs K B as (v :: vs) (g :: gs)
section
variable {K : PySem.W.Frag} {B B' F H H' : Hp} {as bs : List Addr} {M M' : List MO} {vs : List V} {gs : List G} {ds : List D} {p : Addr} {o : HO}
theorem RepGs.up (h : RepGs K B as vs gs) (e : Ex B B') : RepGs K B' as vs gs := by
  induction h with
  | nil => exact .nil
  | cons r _ ih => exact .cons (r.up e) ih
theorem RepGs.len (h : RepGs K B as vs gs) : vs.length = gs.length := by
  induction h with
  | nil => rfl
  | cons r _ ih => rw [List.length_cons, List.length_cons, ih]
theorem RepGs.dats : ∀ {ds : List D} {vs : List V}, RepGs K B as vs (ds.map G.dat) → Reps K B vs ds
  | [], _, .nil => .nil
  | _ :: _, _, .cons r rs => .cons r rs.dats
theorem Sat.frame (S : Sat K B as M F H) (hp : H p = none) (ho : ∀ xs, o ≠ .tup xs := by intro _ z; cases z) : Sat K B as M (upd F p o) (upd H p o) := by
  have nb := S.nb hp
  refine ⟨S.ex.mut nb, fun a u e => ?_, S.len, S.nd, fun a ha => ?_, fun i a m h1 h2 h3 => ?_, S.gn, fun a xs e => ?_⟩
  · by_cases z : a = p
    · subst z; rw [upd_same] at e; cases e
      exact ⟨upd_same, nb, fun h => by obtain ⟨w, q⟩ := S.old a h; rw [hp] at q; cases q⟩
    · rw [upd_ne z] at e ⊢; exact S.fr a u e
  · obtain ⟨u, e⟩ := S.old a ha
    exact ⟨u, by rw [upd_ne (ne_of_none e hp)]; exact e⟩
  · obtain ⟨q1, u, q2, q3⟩ := S.mu i a m h1 h2 h3
    exact ⟨q1, u, by rw [upd_ne (ne_of_none q2 hp)]; exact q2, q3⟩
  · by_cases z : a = p
    · subst z; rw [upd_same] at e; exact ho xs (Option.some.inj e)
    · rw [upd_ne z] at e; exact S.nt a xs e
theorem Sat.unframe (S : Sat K B as M (upd F p o) H) (hf : F p = none) : Sat K B as M F (del H p) ∧ H p = some o ∧ B p = none := by
  obtain ⟨h1, h2, h3⟩ := S.fr p o upd_same
  refine ⟨⟨fun a u e => ?_, fun a u e => ?_, S.len, S.nd, fun a ha => ?_, fun i a m q1 q2 q3 => ?_, S.gn, fun a xs e => ?_⟩, h1, h2⟩
  · have ne : a ≠ p := ne_of_none e h2
    rw [del_ne ne]; exact S.ex a u e
  · have ne : a ≠ p := ne_of_none e hf
    rw [del_ne ne]; exact S.fr a u (by rw [upd_ne ne]; exact e)
  · have ne : a ≠ p := fun z => h3 (z ▸ ha)
    rw [del_ne ne]; exact S.old a ha
  · have ne : a ≠ p := fun z => h3 (z ▸ List.mem_of_getElem? q1)
    rw [del_ne ne]; exact S.mu i a m q1 q2 q3
  · by_cases z : a = p
    · subst z; rw [hf] at e; cases e
    · exact S.nt a xs (by rw [upd_ne z]; exact e)
end

/-! ## judgements -/
abbrev VK := L2.VK
def Ev (K : PySem.W.Frag) (te : TE) (Γ : List G) (M : List MO) (g : G) (M' : List MO) : Prop :=
  ∀ (B : Hp) (as : List Addr) (F : Hp) (σ : L2.St) (H : Hp), Sat K B as M F H → SOk K B as σ Γ → ∀ Q : L2.VK, (∀ v B' H', Ex B B' → Sat K B' as M' F H' → RepG K B' as v g → Q v H') → te σ H Q
def EvN (K : PySem.W.Frag) (te : TE) (Γ : List G) (M : List MO) (xs : List D) (M' : List MO) : Prop :=
  ∀ (B : Hp) (as : List Addr) (F : Hp) (σ : L2.St) (H : Hp), Sat K B as M F H → SOk K B as σ Γ → ∀ Q : L2.VK, (∀ p vs B' H', Ex B B' → Sat K B' as M' F H' → H' p = none → Reps K B' vs xs → Q (.ref p) (upd H' p (.lst vs))) → te σ H Q
def EvT (K : PySem.W.Frag) (tt : TT) (Γ : List G) (M : List MO) (b : Bool) (M' : List MO) : Prop :=
  ∀ (B : Hp) (as : List Addr) (F : Hp) (σ : L2.St) (H : Hp), Sat K B as M F H → SOk K B as σ Γ → ∀ Q : Bool → Hp → Prop, (∀ B' H', Ex B B' → Sat K B' as M' F H' → Q b H') → tt σ H Q
def EvA (K : PySem.W.Frag) (ta : TA) (Γ : List G) (M : List MO) (gs : List G) (M' : List MO) : Prop :=
  ∀ (B : Hp) (as : List Addr) (F : Hp) (σ : L2.St) (H : Hp), Sat K B as M F H → SOk K B as σ Γ → ∀ Q : List V → Hp → Prop, (∀ vs B' H', Ex B B' → Sat K B' as M' F H' → RepGs K B' as vs gs → Q vs H') → ta σ H Q
/-- operations on values -/
def RV (K : PySem.W.Frag) (r : R2) (g1 g2 : G) (M : List MO) (g : G) : Prop :=
  ∀ (B : Hp) (as : List Addr) (F : Hp) (H : Hp) (x y : V), Sat K B as M F H → RepG K B as x g1 → RepG K B as y g2 → ∀ Q : L2.VK, (∀ v B' H', Ex B B' → Sat K B' as M F H' → RepG K B' as v g → Q v H') → r x y H Q
def RVN (K : PySem.W.Frag) (r : R2) (g1 g2 : G) (M : List MO) (xs : List D) : Prop :=
  ∀ (B : Hp) (as : List Addr) (F : Hp) (H : Hp) (x y : V), Sat K B as M F H → RepG K B as x g1 → RepG K B as y g2 → ∀ Q : L2.VK, (∀ p vs B' H', Ex B B' → Sat K B' as M F H' → H' p = none → Reps K B' vs xs → Q (.ref p) (upd H' p (.lst vs))) → r x y H Q
def RU (K : PySem.W.Frag) (r : V → Hp → L2.VK → Prop) (g1 : G) (M : List MO) (g : G) : Prop :=
  ∀ (B : Hp) (as : List Addr) (F : Hp) (H : Hp) (x : V), Sat K B as M F H → RepG K B as x g1 → ∀ Q : L2.VK, (∀ v B' H', Ex B B' → Sat K B' as M F H' → RepG K B' as v g → Q v H') → r x H Q
def RC (K : PySem.W.Frag) (r : List V → Hp → L2.VK → Prop) (gs : List G) (M : List MO) (g : G) : Prop :=
  ∀ (B : Hp) (as : List Addr) (F : Hp) (H : Hp) (vs : List V), Sat K B as M F H → RepGs K B as vs gs → ∀ Q : L2.VK, (∀ v B' H', Ex B B' → Sat K B' as M F H' → RepG K B' as v g → Q v H') → r vs H Q
def RCN (K : PySem.W.Frag) (r : List V → Hp → L2.VK → Prop) (gs : List G) (M : List MO) (xs : List D) : Prop :=
  ∀ (B : Hp) (as : List Addr) (F : Hp) (H : Hp) (vs : List V), Sat K B as M F H → RepGs K B as vs gs → ∀ Q : L2.VK, (∀ p vs B' H', Ex B B' → Sat K B' as M F H' → H' p = none → Reps K B' vs xs → Q (.ref p) (upd H' p (.lst vs))) → r vs H Q

section
variable {K : PySem.W.Frag} {Γ Γ1 : List G} {M M1 M2 M3 : List MO} {g g1 g2 : G} {gs : List G} {te ta tb : TE} {tt tu : TT} {tA : TA} {d : D} {xs ds : List D} {r : R2}
theorem ev_var {i : Nat} (h : Γ[i]? = some g) (hn : g ≠ .no) : Ev K (tVar i) Γ M g M := fun B as F σ H S O Q q => by
  obtain ⟨v, e, r⟩ := O.at' i g h hn
  exact ⟨v, e, q v B H (Ex.refl B) S r⟩
theorem ev_d {i : Nat} (h : Γ[i]? = some (.dat d)) : Ev K (tVar i) Γ M (.dat d) M := ev_var h (by intro z; cases z)
theorem ev_m {i j : Nat} (h : Γ[i]? = some (.mr j)) : Ev K (tVar i) Γ M (.mr j) M := ev_var h (by intro z; cases z)
theorem ev_c {v : V} (h : ∀ B, Rep K B v d) : Ev K (tC v) Γ M (.dat d) M := fun B as F σ H S O Q q => q v B H (Ex.refl B) S (h B)
theorem ev_int {i : Int} : Ev K (tC (.int i)) Γ M (.dat (.int i)) M := ev_c fun _ => .int
theorem ev_bl {i : Bool} : Ev K (tC (.bl i)) Γ M (.dat (.bl i)) M := ev_c fun _ => .bl
theorem ev_str {i : Str} : Ev K (tC (.str i)) Γ M (.dat (.str i)) M := ev_c fun _ => .str
theorem ev_non : Ev K (tC .non) Γ M (.dat .non) M := ev_c fun _ => .non
theorem ev_new (h : EvN K te Γ M xs M1) : Ev K te Γ M (.dat (.lst xs)) M1 := fun B as F σ H S O Q q =>
  h B as F σ H S O Q fun p vs B' H' e S' hp r => q _ (upd B' p (.lst vs)) _ (e.trans (Ex.new (S'.nb hp))) (S'.new hp) (.lst upd_same (r.up (Ex.new (S'.nb hp))))
theorem ev_op (h1 : Ev K ta Γ M g1 M1) (h2 : Ev K tb Γ M1 g2 M2) (hr : RV K r g1 g2 M2 g) : Ev K (tOp r ta tb) Γ M g M2 := fun B as F σ H S O Q q =>
  h1 B as F σ H S O _ fun v B1 H1 e1 S1 r1 => h2 B1 as F σ H1 S1 (O.up e1) _ fun w B2 H2 e2 S2 r2 => hr B2 as F H2 v w S2 (r1.up e2) r2 Q fun u B3 H3 e3 S3 r3 => q u B3 H3 ((e1.trans e2).trans e3) S3 r3
theorem ev_opN (h1 : Ev K ta Γ M g1 M1) (h2 : Ev K tb Γ M1 g2 M2) (hr : RVN K r g1 g2 M2 xs) : EvN K (tOp r ta tb) Γ M xs M2 := fun B as F σ H S O Q q =>
  h1 B as F σ H S O _ fun v B1 H1 e1 S1 r1 => h2 B1 as F σ H1 S1 (O.up e1) _ fun w B2 H2 e2 S2 r2 => hr B2 as F H2 v w S2 (r1.up e2) r2 Q fun p vs B3 H3 e3 S3 hp r3 => q p vs B3 H3 ((e1.trans e2).trans e3) S3 hp r3
theorem ev_un {r : V → Hp → L2.VK → Prop} (h1 : Ev K ta Γ M g1 M1) (hr : RU K r g1 M1 g) : Ev K (tUn r ta) Γ M g M1 := fun B as F σ H S O Q q =>
  h1 B as F σ H S O _ fun v B1 H1 e1 S1 r1 => hr B1 as F H1 v S1 r1 Q fun u B3 H3 e3 S3 r3 => q u B3 H3 (e1.trans e3) S3 r3
theorem ea_nil : EvA K tNil Γ M [] M := fun B as F σ H S O Q q => q [] B H (Ex.refl B) S .nil
theorem ea_cons (h1 : Ev K ta Γ M g M1) (h2 : EvA K tA Γ M1 gs M2) : EvA K (tCons ta tA) Γ M (g :: gs) M2 := fun B as F σ H S O Q q =>
  h1 B as F σ H S O _ fun v B1 H1 e1 S1 r1 => h2 B1 as F σ H1 S1 (O.up e1) _ fun vs B2 H2 e2 S2 r2 => q _ B2 H2 (e1.trans e2) S2 (.cons (r1.up e2) r2)
theorem ev_cb {r : List V → Hp → L2.VK → Prop} (h : EvA K tA Γ M gs M1) (hr : RC K r gs M1 g) : Ev K (tCB r tA) Γ M g M1 := fun B as F σ H S O Q q =>
  h B as F σ H S O _ fun vs B1 H1 e1 S1 r1 => hr B1 as F H1 vs S1 r1 Q fun u B3 H3 e3 S3 r3 => q u B3 H3 (e1.trans e3) S3 r3
theorem ev_cbN {r : List V → Hp → L2.VK → Prop} (h : EvA K tA Γ M gs M1) (hr : RCN K r gs M1 xs) : EvN K (tCB r tA) Γ M xs M1 := fun B as F σ H S O Q q =>
  h B as F σ H S O _ fun vs B1 H1 e1 S1 r1 => hr B1 as F H1 vs S1 r1 Q fun p vs B3 H3 e3 S3 hp r3 => q p vs B3 H3 (e1.trans e3) S3 hp r3
theorem ev_tup (h : EvA K tA Γ M (ds.map G.dat) M1) (hz : ds.length ≤ sizeLine := by decide) : Ev K (tTup tA) Γ M (.dat (.tup ds)) M1 := fun B as F σ H S O Q q =>
  h B as F σ H S O _ fun vs B1 H1 e1 S1 r1 => ⟨by rw [r1.dats.len]; exact hz, fun p hp => q _ (upd B1 p (.tup vs)) _ (e1.trans (Ex.new (S1.nb hp))) (S1.new hp) (.tup upd_same (r1.dats.up (Ex.new (S1.nb hp))))⟩
theorem ev_lst (h : EvA K tA Γ M (ds.map G.dat) M1) (hz : ds.length ≤ sizeLine := by decide) : EvN K (tLst tA) Γ M ds M1 := fun B as F σ H S O Q q =>
  h B as F σ H S O _ fun vs B1 H1 e1 S1 r1 => ⟨by rw [r1.dats.len]; exact hz, fun p hp => q p vs B1 H1 e1 S1 hp r1.dats⟩
theorem ev_is {g' : G} (h : Ev K te Γ M g M1) (e : g = g') : Ev K te Γ M g' M1 := e ▸ h
/-! tests -/
theorem et_test {b : Bool} (h : Ev K te Γ M (.dat (.bl b)) M1) : EvT K (tTest te) Γ M b M1 := fun B as F σ H S O Q q =>
  h B as F σ H S O _ fun v B1 H1 e1 S1 r1 => by cases r1; exact ⟨b, rfl, q B1 H1 e1 S1⟩
theorem et_B {b : Bool} (h : Ev K te Γ M (.dat (.bl b)) M1) : EvT K (tB te) Γ M b M1 := fun B as F σ H S O Q q =>
  h B as F σ H S O _ fun v B1 H1 e1 S1 r1 => by cases r1; exact ⟨b, rfl, q B1 H1 e1 S1⟩
theorem et_not {b : Bool} (h : EvT K tt Γ M b M1) : EvT K (tNot tt) Γ M (!b) M1 := fun B as F σ H S O Q q =>
  h B as F σ H S O _ fun B1 H1 e1 S1 => q B1 H1 e1 S1
/-- and: the second is asked only if the first says yes; both leave M -/
theorem et_and {a b : Bool} (h1 : EvT K tt Γ M a M) (h2 : a = true → EvT K tu Γ M b M) : EvT K (tAnd tt tu) Γ M (a && b) M := fun B as F σ H S O Q q =>
  h1 B as F σ H S O _ fun B1 H1 e1 S1 => by
    cases a with
    | true => exact h2 rfl B1 as F σ H1 S1 (O.up e1) Q fun B2 H2 e2 S2 => q B2 H2 (e1.trans e2) S2
    | false => exact q B1 H1 e1 S1
theorem et_or {a b : Bool} (h1 : EvT K tt Γ M a M) (h2 : a = false → EvT K tu Γ M b M) : EvT K (tOr tt tu) Γ M (a || b) M := fun B as F σ H S O Q q =>
  h1 B as F σ H S O _ fun B1 H1 e1 S1 => by
    cases a with
    | false => exact h2 rfl B1 as F σ H1 S1 (O.up e1) Q fun B2 H2 e2 S2 => q B2 H2 (e1.trans e2) S2
    | true => exact q B1 H1 e1 S1
theorem et_and1 {b : Bool} (h1 : EvT K tt Γ M true M1) (h2 : EvT K tu Γ M1 b M2) : EvT K (tAnd tt tu) Γ M b M2 := fun B as F σ H S O Q q =>
  h1 B as F σ H S O _ fun B1 H1 e1 S1 => h2 B1 as F σ H1 S1 (O.up e1) Q fun B2 H2 e2 S2 => q B2 H2 (e1.trans e2) S2
theorem et_and0 (h1 : EvT K tt Γ M false M1) : EvT K (tAnd tt tu) Γ M false M1 := fun B as F σ H S O Q q =>
  h1 B as F σ H S O _ fun B1 H1 e1 S1 => q B1 H1 e1 S1
theorem et_or0 {b : Bool} (h1 : EvT K tt Γ M false M1) (h2 : EvT K tu Γ M1 b M2) : EvT K (tOr tt tu) Γ M b M2 := fun B as F σ H S O Q q =>
  h1 B as F σ H S O _ fun B1 H1 e1 S1 => h2 B1 as F σ H1 S1 (O.up e1) Q fun B2 H2 e2 S2 => q B2 H2 (e1.trans e2) S2
theorem et_or1 (h1 : EvT K tt Γ M true M1) : EvT K (tOr tt tu) Γ M true M1 := fun B as F σ H S O Q q =>
  h1 B as F σ H S O _ fun B1 H1 e1 S1 => q B1 H1 e1 S1
theorem et_is {a b : Bool} (h : EvT K tt Γ M a M1) (e : a = b) : EvT K tt Γ M b M1 := e ▸ h
/-! values of and, or, not, if -/
theorem ev_andV {a : Bool} {b : Bool} (h1 : Ev K ta Γ M (.dat (.bl a)) M) (h2 : a = true → Ev K tb Γ M (.dat (.bl b)) M) : Ev K (tAndV ta tb) Γ M (.dat (.bl (a && b))) M := fun B as F σ H S O Q q =>
  h1 B as F σ H S O _ fun v B1 H1 e1 S1 r1 => by
    cases r1
    refine ⟨a, rfl, ?_⟩
    cases a with
    | true => exact h2 rfl B1 as F σ H1 S1 (O.up e1) Q fun u B2 H2 e2 S2 r2 => q u B2 H2 (e1.trans e2) S2 r2
    | false => exact q _ B1 H1 e1 S1 .bl
theorem ev_orV {a : Bool} {b : Bool} (h1 : Ev K ta Γ M (.dat (.bl a)) M) (h2 : a = false → Ev K tb Γ M (.dat (.bl b)) M) : Ev K (tOrV ta tb) Γ M (.dat (.bl (a || b))) M := fun B as F σ H S O Q q =>
  h1 B as F σ H S O _ fun v B1 H1 e1 S1 r1 => by
    cases r1
    refine ⟨a, rfl, ?_⟩
    cases a with
    | false => exact h2 rfl B1 as F σ H1 S1 (O.up e1) Q fun u B2 H2 e2 S2 r2 => q u B2 H2 (e1.trans e2) S2 r2
    | true => exact q _ B1 H1 e1 S1 .bl
theorem ev_and1 (h1 : Ev K ta Γ M (.dat (.bl true)) M1) (h2 : Ev K tb Γ M1 g M2) : Ev K (tAndV ta tb) Γ M g M2 := fun B as F σ H S O Q q =>
  h1 B as F σ H S O _ fun v B1 H1 e1 S1 r1 => by
    cases r1
    exact ⟨true, rfl, h2 B1 as F σ H1 S1 (O.up e1) Q fun u B2 H2 e2 S2 r2 => q u B2 H2 (e1.trans e2) S2 r2⟩
theorem ev_and0 (h1 : Ev K ta Γ M (.dat (.bl false)) M1) : Ev K (tAndV ta tb) Γ M (.dat (.bl false)) M1 := fun B as F σ H S O Q q =>
  h1 B as F σ H S O _ fun v B1 H1 e1 S1 r1 => by
    cases r1
    exact ⟨false, rfl, q _ B1 H1 e1 S1 .bl⟩
theorem ev_notV {a : Bool} (h1 : Ev K ta Γ M (.dat (.bl a)) M1) : Ev K (tNotV ta) Γ M (.dat (.bl (!a))) M1 := fun B as F σ H S O Q q =>
  h1 B as F σ H S O _ fun v B1 H1 e1 S1 r1 => by
    cases r1
    exact ⟨a, rfl, q _ B1 H1 e1 S1 .bl⟩
theorem ev_if {b : Bool} (h : EvT K tt Γ M b M1) (h1 : b = true → Ev K ta Γ M1 g M2) (h2 : b = false → Ev K tb Γ M1 g M2) : Ev K (tIf tt ta tb) Γ M g M2 := fun B as F σ H S O Q q =>
  h B as F σ H S O _ fun B1 H1 e1 S1 => by
    cases b with
    | true => exact h1 rfl B1 as F σ H1 S1 (O.up e1) Q fun u B2 H2 e2 S2 r2 => q u B2 H2 (e1.trans e2) S2 r2
    | false => exact h2 rfl B1 as F σ H1 S1 (O.up e1) Q fun u B2 H2 e2 S2 r2 => q u B2 H2 (e1.trans e2) S2 r2

/-! operations -/
inductive Lit : V → D → Prop
  | non : Lit .non .non | bl {b : Bool} : Lit (.bl b) (.bl b) | int {i : Int} : Lit (.int i) (.int i) | str {s : Str} : Lit (.str s) (.str s)
theorem Lit.rep {v : V} {d : D} (h : Lit v d) {B : Hp} : Rep K B v d := by cases h <;> constructor
theorem Rep.lit {B : Hp} {v w : V} {d : D} (h : Rep K B v d) (l : Lit w d) : v = w := by cases l <;> cases h <;> rfl
theorem rv_I0 {f : Int → Int → V} {i j : Int} (l : Lit (f i j) d) : RV K (rI0 f) (.dat (.int i)) (.dat (.int j)) M (.dat d) := fun B as F H x y S r1 r2 Q q => by
  cases r1; cases r2
  exact ⟨i, j, rfl, rfl, q _ B H (Ex.refl B) S l.rep⟩
theorem rv_I {C : Int → Int → Prop} {f : Int → Int → V} {i j : Int} (l : Lit (f i j) d) (hc : C i j) : RV K (rI C f) (.dat (.int i)) (.dat (.int j)) M (.dat d) := fun B as F H x y S r1 r2 Q q => by
  cases r1; cases r2
  exact ⟨i, j, rfl, rfl, hc, q _ B H (Ex.refl B) S l.rep⟩
theorem ru_U {f : Int → V} {i : Int} (l : Lit (f i) d) : RU K (rU f) (.dat (.int i)) M (.dat d) := fun B as F H x S r1 Q q => by
  cases r1
  exact ⟨i, rfl, q _ B H (Ex.refl B) S l.rep⟩
def scalD : D → D → Bool
  | .non, .non => true | .non, .int _ => true | .int _, .non => true | .non, .bl _ => true | .bl _, .non => true | .non, .str _ => true | .str _, .non => true
  | .int _, .int _ => true | .bl _, .bl _ => true | .str _, .str _ => true
  | .int _, .str _ => true | .str _, .int _ => true | .bl _, .str _ => true | .str _, .bl _ => true
  | _, _ => false
def eqS : D → D → Bool
  | .non, .non => true
  | .int i, .int j => decide (i = j)
  | .bl i, .bl j => decide (i = j)
  | .str i, .str j => decide (i = j)
  | _, _ => false
theorem scal_eq {B : Hp} {x y : V} {a b : D} (ra : Rep K B x a) (rb : Rep K B y b) (h : scalD a b = true) : scal x y = true ∧ decide (x = y) = eqS a b := by
  cases a <;> cases b <;> first | (exact absurd h Bool.false_ne_true) | (cases ra; cases rb; exact ⟨rfl, by simp [eqS]⟩)
theorem rv_eq {a b : D} (h : scalD a b = true) : RV K rEq (.dat a) (.dat b) M (.dat (.bl (eqS a b))) := fun B as F H x y S r1 r2 Q q => by
  obtain ⟨h1, h2⟩ := scal_eq r1 r2 h
  exact ⟨h1, by rw [h2]; exact q _ B H (Ex.refl B) S .bl⟩
theorem rv_ne {a b : D} (h : scalD a b = true) : RV K rNe (.dat a) (.dat b) M (.dat (.bl (!eqS a b))) := fun B as F H x y S r1 r2 Q q => by
  obtain ⟨h1, h2⟩ := scal_eq r1 r2 h
  exact ⟨h1, by rw [h2]; exact q _ B H (Ex.refl B) S .bl⟩
def isNon : D → Bool
  | .non => true
  | _ => false
theorem isNon_eq {B : Hp} {x : V} {a : D} (r : Rep K B x a) : decide (x = .non) = isNon a := by
  cases r <;> simp [isNon]
/-- items -/
theorem len_eq {B : Hp} {vs : List V} (r : Reps K B vs ds) {i : Int} (h : atI ds i = some d) : ∃ v, atI vs i = some v ∧ Rep K B v d := by
  unfold atI at h ⊢
  rw [r.len]
  cases e : ixN ds.length i with
  | none => rw [e] at h; simp at h
  | some j => rw [e] at h; exact r.get h
theorem rv_ixT {i : Int} (h : atI ds i = some d) : RV K (rIxT K) (.dat (.tup ds)) (.dat (.int i)) M (.dat d) := fun B as F H x y S r1 r2 Q q => by
  cases r2
  cases r1 with
  | tup s r => obtain ⟨v, hv, rv⟩ := len_eq r h; exact ⟨_, _, i, v, rfl, rfl, sqt S.ex s, hv, q v B H (Ex.refl B) S rv⟩
theorem rv_ixL {i : Int} (h : atI ds i = some d) : RV K (rIxL K) (.dat (.lst ds)) (.dat (.int i)) M (.dat d) := fun B as F H x y S r1 r2 Q q => by
  cases r2
  cases r1 with
  | lst s r => obtain ⟨v, hv, rv⟩ := len_eq r h; exact ⟨_, _, i, v, rfl, rfl, Or.inl (Or.inl (S.ex _ _ s)), hv, q v B H (Ex.refl B) S rv⟩
theorem rv_ixM {i : Int} {j : Nat} (hm : M[j]? = some (.lst ds)) (h : atI ds i = some d) : RV K (rIxL K) (.mr j) (.dat (.int i)) M (.dat d) := fun B as F H x y S r1 r2 Q q => by
  cases r2
  obtain ⟨a, rfl, ha⟩ := r1
  obtain ⟨nb, o, ho, vs, rfl, r⟩ := S.mu j a _ ha hm (by intro z; cases z)
  obtain ⟨v, hv, rv⟩ := len_eq r h
  exact ⟨a, vs, i, v, rfl, rfl, Or.inl (Or.inl ho), hv, q v B H (Ex.refl B) S rv⟩
theorem rv_ixT' {i : Int} (h : atI ds i = some d) : RV K (rIx K) (.dat (.tup ds)) (.dat (.int i)) M (.dat d) := fun B as F H x y S r1 r2 Q q => Or.inr (Or.inl (rv_ixT h B as F H x y S r1 r2 Q q))
theorem rv_ixL' {i : Int} (h : atI ds i = some d) : RV K (rIx K) (.dat (.lst ds)) (.dat (.int i)) M (.dat d) := fun B as F H x y S r1 r2 Q q => Or.inl (rv_ixL h B as F H x y S r1 r2 Q q)
theorem rv_ixM' {i : Int} {j : Nat} (hm : M[j]? = some (.lst ds)) (h : atI ds i = some d) : RV K (rIx K) (.mr j) (.dat (.int i)) M (.dat d) := fun B as F H x y S r1 r2 Q q => Or.inl (rv_ixM hm h B as F H x y S r1 r2 Q q)
theorem atI_nat' {α : Type} {xs : List α} {i : Nat} {x : α} (h : xs[i]? = some x) : atI xs (i : Int) = some x := atI_nat h
/-- the length -/
def rLenS (K : PySem.W.Frag) : List V → Hp → L2.VK → Prop := fun xs H Q => ∃ p ys, xs = [.ref p] ∧ (SqL K H p ys ∨ SqT K H p ys) ∧ Q (.int ys.length) H
theorem rc_lenL : RC K (rLenS K) [.dat (.lst ds)] M (.dat (.int ds.length)) := fun B as F H vs S rs Q q => by
  cases rs with
  | cons r rs => cases rs; cases r with
    | lst s r => exact ⟨_, _, rfl, .inl (Or.inl (Or.inl (S.ex _ _ s))), by rw [r.len]; exact q _ B H (Ex.refl B) S .int⟩
theorem rc_lenF : RC K (rLenS K) [.dat (.fz ds)] M (.dat (.int ds.length)) := fun B as F H vs S rs Q q => by
  cases rs with
  | cons r rs => cases rs; cases r with
    | fz s r => exact ⟨_, _, rfl, .inl (ex_l S.ex s), by rw [r.len]; exact q _ B H (Ex.refl B) S .int⟩
theorem rv_ixF' {i : Int} (h : atI ds i = some d) : RV K (rIx K) (.dat (.fz ds)) (.dat (.int i)) M (.dat d) := fun B as F H x y S r1 r2 Q q => by
  cases r2
  cases r1 with
  | fz s r => obtain ⟨v, hv, rv⟩ := len_eq r h; exact Or.inl ⟨_, _, i, v, rfl, rfl, ex_l S.ex s, hv, q v B H (Ex.refl B) S rv⟩
theorem rc_lenT : RC K (rLenS K) [.dat (.tup ds)] M (.dat (.int ds.length)) := fun B as F H vs S rs Q q => by
  cases rs with
  | cons r rs => cases rs; cases r with
    | tup s r => exact ⟨_, _, rfl, .inr (sqt S.ex s), by rw [r.len]; exact q _ B H (Ex.refl B) S .int⟩
theorem rc_lenM {j : Nat} (hm : M[j]? = some (.lst ds)) : RC K (rLenS K) [.mr j] M (.dat (.int ds.length)) := fun B as F H vs S rs Q q => by
  cases rs with
  | cons r rs =>
    cases rs
    obtain ⟨a, rfl, ha⟩ := r
    obtain ⟨nb, o, ho, vs, rfl, r⟩ := S.mu j a _ ha hm (by intro z; cases z)
    exact ⟨_, _, rfl, .inl (Or.inl (Or.inl ho)), by rw [r.len]; exact q _ B H (Ex.refl B) S .int⟩
end
end Lw

set_option Elab.async false
set_option linter.all false
set_option maxRecDepth 100000
set_option maxHeartbeats 2000000
namespace Lw
open PySem L2

/-! ## promises -/
abbrev Flds := Option (List Str × List D)
inductive R1 where
  | ret (g : G) (M : List MO)
  | exc (C : Addr) (fs : Flds) (M : List MO)
abbrev Con := List G → List MO → R1 → Prop
def XRep (K : PySem.W.Frag) (B : Hp) (dd : Option Addr) : Flds → Prop
  | none => dd = none
  | some (ns, ds) => ∃ a vs, dd = some a ∧ B a = some (.xd (ns.zip vs)) ∧ ns.length = vs.length ∧ Reps K B vs ds
def Fin (K : PySem.W.Frag) (B : Hp) (as : List Addr) (F : Hp) (Q : L2.VK) (E : XK) : R1 → Prop
  | .ret g M' => ∀ v B' H', Ex B B' → Sat K B' as M' F H' → RepG K B' as v g → Q v H'
  | .exc C fs M' => ∀ dd B' H', Ex B B' → Sat K B' as M' F H' → XRep K B' dd fs → E (.ref C) dd H'
def spOf (K : PySem.W.Frag) (c : Con) : Sp := fun vs H Q E => ∃ gs B as M F r, c gs M r ∧ RepGs K B as vs gs ∧ Sat K B as M F H ∧ Fin K B as F Q E r

def EvX (K : PySem.W.Frag) (W : WX) (te : TE) (Γ : List G) (M : List MO) (C : Addr) (fs : Flds) (M' : List MO) : Prop :=
  ∀ (B : Hp) (as : List Addr) (F : Hp) (σ : L2.St) (H : Hp), Sat K B as M F H → SOk K B as σ Γ → ∀ Q : L2.VK, (∀ dd B' H', Ex B B' → Sat K B' as M' F H' → XRep K B' dd fs → W (.ref C) dd σ H') → te σ H Q

section
variable {K : PySem.W.Frag} {B B' F H H' : Hp} {as bs : List Addr} {M M' : List MO} {p a : Addr} {o : HO} {j : Nat} {m m' : MO}
/-- the other things that may change, as a frame -/
def hideF (B H F : Hp) (as : List Addr) (keep : Option Addr) : Hp := fun x => if x ∈ as ∧ B x = none ∧ some x ≠ keep then H x else F x
theorem hideF_in {keep : Option Addr} {x : Addr} (h : x ∈ as) (hb : B x = none) (hk : some x ≠ keep) : hideF B H F as keep x = H x := if_pos ⟨h, hb, hk⟩
theorem hideF_out {keep : Option Addr} {x : Addr} (h : x ∉ as) : hideF B H F as keep x = F x := if_neg fun z => h z.1
theorem hideF_fr {keep : Option Addr} (S : Sat K B as M F H) : ∀ x u, hideF B H F as keep x = some u → H x = some u ∧ B x = none ∧ some x ≠ keep ∨ (F x = some u ∧ x ∉ as) := fun x u e => by
  unfold hideF at e
  by_cases c : x ∈ as ∧ B x = none ∧ some x ≠ keep
  · rw [if_pos c] at e; exact .inl ⟨e, c.2.1, c.2.2⟩
  · rw [if_neg c] at e; exact .inr ⟨e, (S.fr x u e).2.2⟩
theorem Sat.noTup (S : Sat K B as M F H) {x : Addr} (hx : x ∈ as) (hb : B x = none) (xs : List V) : H x ≠ some (.tup xs) := fun e => by
  obtain ⟨i, hi⟩ := List.getElem?_of_mem hx
  have hl : i < M.length := by rw [← S.len]; exact (List.getElem?_eq_some_iff.mp hi).1
  have hm : M[i]? = some M[i] := List.getElem?_eq_getElem hl
  by_cases c : M[i] = .gone
  · rw [c] at hm
    obtain ⟨o, q⟩ := S.gn i x hi hm
    rw [hb] at q; cases q
  · obtain ⟨_, u, q1, q2⟩ := S.mu i x _ hi hm c
    rw [e] at q1; cases q1
    generalize M[i] = m at c q2
    cases m with
    | gone => exact c rfl
    | lst xs => obtain ⟨_, e, _⟩ := q2; cases e
    | ins C ns ds => obtain ⟨_, _, e, _⟩ := q2; cases e
    | dic kvs => obtain ⟨_, e, _⟩ := q2; cases e
theorem hideF_nt {keep : Option Addr} (S : Sat K B as M F H) (a : Addr) (xs : List V) : hideF B H F as keep a ≠ some (.tup xs) := fun e => by
  unfold hideF at e
  by_cases c : a ∈ as ∧ B a = none ∧ some a ≠ keep
  · rw [if_pos c] at e; exact S.noTup c.1 c.2.1 xs e
  · rw [if_neg c] at e; exact S.nt a xs e
theorem Sat.call0 (S : Sat K B as M F H) : Sat K B [] [] (hideF B H F as none) H := by
  refine ⟨S.ex, fun x u e => ?_, rfl, List.nodup_nil, fun x h => by simp at h, fun i x m h => by simp at h, fun i x h => by simp at h, hideF_nt S⟩
  rcases hideF_fr S x u e with ⟨h1, h2, _⟩ | ⟨h1, _⟩
  · exact ⟨h1, h2, by simp⟩
  · obtain ⟨q1, q2, _⟩ := S.fr x u h1
    exact ⟨q1, q2, by simp⟩
theorem Sat.back0 (S : Sat K B as M F H) (e : Ex B B') (T : Sat K B' [] [] (hideF B H F as none) H') : Sat K B' as M F H' := by
  refine ⟨T.ex, fun x u q => ?_, S.len, S.nd, fun x hx => ?_, fun i x m h1 h2 h3 => ?_, fun i x h1 h2 => ?_, S.nt⟩
  · have hn := (S.fr x u q).2.2
    obtain ⟨q1, q2, _⟩ := T.fr x u (by rw [hideF_out hn]; exact q)
    exact ⟨q1, q2, hn⟩
  · cases hb : B x with
    | some u => exact ⟨u, T.ex x u (e x u hb)⟩
    | none =>
      obtain ⟨u, hu⟩ := S.old x hx
      exact ⟨u, (T.fr x u (by rw [hideF_in hx hb (by simp)]; exact hu)).1⟩
  · obtain ⟨nb, u, hu, r⟩ := S.mu i x m h1 h2 h3
    obtain ⟨q1, q2, _⟩ := T.fr x u (by rw [hideF_in (List.mem_of_getElem? h1) nb (by simp)]; exact hu)
    exact ⟨q2, u, q1, r.up e⟩
  · obtain ⟨u, hu⟩ := S.gn i x h1 h2
    exact ⟨u, e x u hu⟩
theorem Sat.call1 (S : Sat K B as M F H) (ha : as[j]? = some a) (hm : M[j]? = some m) (hn : m ≠ .gone) : Sat K B [a] [m] (hideF B H F as (some a)) H := by
  have ma : a ∈ as := List.mem_of_getElem? ha
  obtain ⟨nb, u0, hu0, r0⟩ := S.mu j a m ha hm hn
  refine ⟨S.ex, fun x u e => ?_, rfl, by simp, fun x h => by simp at h; subst h; exact ⟨u0, hu0⟩, fun i x m2 h1 h2 h3 => ?_, fun i x h1 h2 => ?_, hideF_nt S⟩
  · rcases hideF_fr S x u e with ⟨h1, h2, h3⟩ | ⟨h1, h2⟩
    · exact ⟨h1, h2, by simp; rintro rfl; exact h3 rfl⟩
    · obtain ⟨q1, q2, _⟩ := S.fr x u h1
      exact ⟨q1, q2, by simp; rintro rfl; exact h2 ma⟩
  · cases i with
    | zero => simp at h1 h2; subst h1; subst h2; exact ⟨nb, u0, hu0, r0⟩
    | succ i => simp at h1
  · cases i with
    | zero => simp at h2; exact absurd h2 hn
    | succ i => simp at h1
theorem Sat.back1 (S : Sat K B as M F H) (ha : as[j]? = some a) (hm : M[j]? = some m) (hn : m ≠ .gone) (hn' : m' ≠ .gone) (e : Ex B B') (T : Sat K B' [a] [m'] (hideF B H F as (some a)) H') : Sat K B' as (M.set j m') F H' := by
  have ma : a ∈ as := List.mem_of_getElem? ha
  obtain ⟨nb0, o0, ho0, r0⟩ := T.mu 0 a m' rfl rfl hn'
  refine ⟨T.ex, fun x u q => ?_, by simp [S.len], S.nd, fun x hx => ?_, fun i x m2 h1 h2 h3 => ?_, fun i x h1 h2 => ?_, S.nt⟩
  · have hn := (S.fr x u q).2.2
    obtain ⟨q1, q2, _⟩ := T.fr x u (by rw [hideF_out hn]; exact q)
    exact ⟨q1, q2, hn⟩
  · by_cases z : x = a
    · subst z; exact ⟨o0, ho0⟩
    · cases hb : B x with
      | some u => exact ⟨u, T.ex x u (e x u hb)⟩
      | none =>
        obtain ⟨u, hu⟩ := S.old x hx
        exact ⟨u, (T.fr x u (by rw [hideF_in hx hb (fun q => z (Option.some.inj q))]; exact hu)).1⟩
  · by_cases hj : j = i
    · subst hj
      rw [ha] at h1; cases h1
      rw [List.getElem?_set_self (List.getElem?_eq_some_iff.mp hm).1] at h2; cases h2
      exact ⟨nb0, o0, ho0, r0⟩
    · rw [List.getElem?_set_ne hj] at h2
      have ne : x ≠ a := fun z => hj (by
        subst z
        have l1 := (List.getElem?_eq_some_iff.mp ha)
        have l2 := (List.getElem?_eq_some_iff.mp h1)
        exact (List.getElem_inj (h₀ := l1.1) (h₁ := l2.1) S.nd).mp (l1.2.trans l2.2.symm))
      obtain ⟨nb, u, hu, r⟩ := S.mu i x m2 h1 h2 h3
      obtain ⟨q1, q2, _⟩ := T.fr x u (by rw [hideF_in (List.mem_of_getElem? h1) nb (fun q => ne (Option.some.inj q))]; exact hu)
      exact ⟨q2, u, q1, r.up e⟩
  · by_cases hj : j = i
    · subst hj
      rw [List.getElem?_set_self (List.getElem?_eq_some_iff.mp hm).1] at h2
      exact absurd (Option.some.inj h2) hn'
    · rw [List.getElem?_set_ne hj] at h2
      obtain ⟨u, hu⟩ := S.gn i x h1 h2
      exact ⟨u, e x u hu⟩
end

section
variable {K : PySem.W.Frag} {Γ Γ1 : List G} {M M1 M2 M3 : List MO} {g g1 g2 : G} {gs : List G} {te ta tb : TE} {tt tu : TT} {tA : TA} {d : D} {xs ds : List D} {r : R2} {c : Con} {W : WX} {C : Addr} {fs : Flds} {j : Nat} {m m' : MO}
theorem RepGs.ofDats {B : Hp} {as bs : List Addr} : ∀ {ds : List D} {vs : List V}, RepGs K B as vs (ds.map G.dat) → RepGs K B bs vs (ds.map G.dat)
  | [], _, .nil => .nil
  | _ :: _, _, .cons r rs => .cons r rs.ofDats
/-- a call of a def that works on data alone -/
theorem ev_call0 {Es : L2.St → XK} (ha : EvA K tA Γ M (ds.map G.dat) M1) (hc : c (ds.map G.dat) [] (.ret (.dat d) [])) : Ev K (tCallS (spOf K c) Es tA) Γ M (.dat d) M1 := fun B as F σ H S O Q q =>
  ha B as F σ H S O _ fun vs B1 H1 e1 S1 r1 => ⟨_, B1, [], [], _, _, hc, r1.ofDats, S1.call0, fun v B2 H2 e2 S2 r2 => q v B2 H2 (e1.trans e2) (S1.back0 e2 S2) r2⟩
/-- a call of a def that changes the first argument -/
theorem ev_call1 {Es : L2.St → XK} (ha : EvA K tA Γ M (.mr j :: ds.map G.dat) M1) (hm : M1[j]? = some m) (hc : c (.mr 0 :: ds.map G.dat) [m] (.ret (.dat d) [m'])) (hn : m ≠ .gone) (hn' : m' ≠ .gone) :
    Ev K (tCallS (spOf K c) Es tA) Γ M (.dat d) (M1.set j m') := fun B as F σ H S O Q q =>
  ha B as F σ H S O _ fun vs B1 H1 e1 S1 r1 => by
    cases r1 with
    | cons r rs =>
      obtain ⟨a, rfl, hj⟩ := r
      exact ⟨_, B1, [a], [m], _, _, hc, .cons ⟨a, rfl, rfl⟩ rs.ofDats, S1.call1 hj hm hn, fun v B2 H2 e2 S2 r2 => q v B2 H2 (e1.trans e2) (S1.back1 hj hm hn hn' e2 S2) r2⟩
theorem evx_call0 {Es : L2.St → XK} (hE : ∀ σ cls dd H, W cls dd σ H → Es σ cls dd H) (ha : EvA K tA Γ M (ds.map G.dat) M1) (hc : c (ds.map G.dat) [] (.exc C fs [])) : EvX K W (tCallS (spOf K c) Es tA) Γ M C fs M1 := fun B as F σ H S O Q q =>
  ha B as F σ H S O _ fun vs B1 H1 e1 S1 r1 => ⟨_, B1, [], [], _, _, hc, r1.ofDats, S1.call0, fun dd B2 H2 e2 S2 r2 => hE _ _ _ _ (q dd B2 H2 (e1.trans e2) (S1.back0 e2 S2) r2)⟩
end

/-! ## statements -/
inductive R where
  | nx (Γ : List G) (M : List MO)
  | rt (g : G) (M : List MO)
  | bk (Γ : List G) (M : List MO)
  | ct (Γ : List G) (M : List MO)
  | ex (C : Addr) (fs : Flds) (Γ : List G) (M : List MO)
def Post (K : PySem.W.Frag) (W : WX) (E : Ends) (B : Hp) (as : List Addr) (F : Hp) : R → Prop
  | .nx Γ M => ∀ B' bs σ H, Ex B B' → Sat K B' (as ++ bs) M F H → SOk K B' (as ++ bs) σ Γ → E.nx σ H
  | .rt g M => ∀ v B' bs H, Ex B B' → Sat K B' (as ++ bs) M F H → RepG K B' (as ++ bs) v g → E.rt v H
  | .bk Γ M => ∀ B' bs σ H, Ex B B' → Sat K B' (as ++ bs) M F H → SOk K B' (as ++ bs) σ Γ → E.bk σ H
  | .ct Γ M => ∀ B' bs σ H, Ex B B' → Sat K B' (as ++ bs) M F H → SOk K B' (as ++ bs) σ Γ → E.ct σ H
  | .ex C fs Γ M => ∀ dd B' bs σ H, Ex B B' → Sat K B' (as ++ bs) M F H → SOk K B' (as ++ bs) σ Γ → XRep K B' dd fs → W (.ref C) dd σ H
def Does (K : PySem.W.Frag) (W : WX) (ts : TS) (Γ : List G) (M : List MO) (r : R) : Prop :=
  ∀ (B : Hp) (as : List Addr) (F : Hp) (σ : L2.St) (H : Hp) (E : Ends), Sat K B as M F H → SOk K B as σ Γ → Post K W E B as F r → ts E σ H
theorem Post.up {K : PySem.W.Frag} {W : WX} {E : Ends} {B B1 : Hp} {as bs : List Addr} {F : Hp} {r : R} (p : Post K W E B as F r) (e : Ex B B1) : Post K W E B1 (as ++ bs) F r := by
  cases r with
  | nx Γ M => exact fun B' cs σ H e2 S O => p B' (bs ++ cs) σ H (e.trans e2) (by rw [← List.append_assoc]; exact S) (by rw [← List.append_assoc]; exact O)
  | rt g M => exact fun v B' cs H e2 S O => p v B' (bs ++ cs) H (e.trans e2) (by rw [← List.append_assoc]; exact S) (by rw [← List.append_assoc]; exact O)
  | bk Γ M => exact fun B' cs σ H e2 S O => p B' (bs ++ cs) σ H (e.trans e2) (by rw [← List.append_assoc]; exact S) (by rw [← List.append_assoc]; exact O)
  | ct Γ M => exact fun B' cs σ H e2 S O => p B' (bs ++ cs) σ H (e.trans e2) (by rw [← List.append_assoc]; exact S) (by rw [← List.append_assoc]; exact O)
  | ex C fs Γ M => exact fun dd B' cs σ H e2 S O x => p dd B' (bs ++ cs) σ H (e.trans e2) (by rw [← List.append_assoc]; exact S) (by rw [← List.append_assoc]; exact O) x
theorem Post.up0 {K : PySem.W.Frag} {W : WX} {E : Ends} {B B1 : Hp} {as : List Addr} {F : Hp} {r : R} (p : Post K W E B as F r) (e : Ex B B1) : Post K W E B1 as F r := by
  have q := p.up (bs := []) e
  rw [List.append_nil] at q; exact q
section
variable {K : PySem.W.Frag} {W : WX} {Γ Γ1 Γ2 : List G} {M M1 M2 M3 : List MO} {g g1 g2 : G} {gs : List G} {te ta tb : TE} {tt : TT} {tu tw tz : TS} {tA : TA} {d : D} {xs ds : List D} {r : R} {i j : Nat} {tg : TG} {C : Addr} {fs : Flds}
theorem Post.nx0 {E : Ends} {B B1 : Hp} {as : List Addr} {F : Hp} {σ : L2.St} {H : Hp} (p : Post K W E B as F (.nx Γ M)) (e : Ex B B1) (S : Sat K B1 as M F H) (O : SOk K B1 as σ Γ) : E.nx σ H :=
  p B1 [] σ H e (by rw [List.append_nil]; exact S) (by rw [List.append_nil]; exact O)
theorem do_seq (h1 : Does K W tu Γ M (.nx Γ1 M1)) (h2 : Does K W tw Γ1 M1 r) : Does K W (tSeq tu tw) Γ M r := fun B as F σ H E S O p =>
  h1 B as F σ H _ S O fun B1 bs σ1 H1 e1 S1 O1 => h2 B1 (as ++ bs) F σ1 H1 E S1 O1 (p.up e1)
/-- the first part leaves the block -/
theorem do_rt (h1 : Does K W tu Γ M (.rt g M1)) : Does K W (tSeq tu tw) Γ M (.rt g M1) := fun B as F σ H E S O p => h1 B as F σ H _ S O p
theorem do_ex (h1 : Does K W tu Γ M (.ex C fs Γ1 M1)) : Does K W (tSeq tu tw) Γ M (.ex C fs Γ1 M1) := fun B as F σ H E S O p => h1 B as F σ H _ S O p
theorem do_ct (h1 : Does K W tu Γ M (.ct Γ1 M1)) : Does K W (tSeq tu tw) Γ M (.ct Γ1 M1) := fun B as F σ H E S O p => h1 B as F σ H _ S O p
theorem do_bk (h1 : Does K W tu Γ M (.bk Γ1 M1)) : Does K W (tSeq tu tw) Γ M (.bk Γ1 M1) := fun B as F σ H E S O p => h1 B as F σ H _ S O p
theorem do_next : Does K W tNext Γ M (.nx Γ M) := fun B as F σ H E S O p => p.nx0 (Ex.refl B) S O
theorem do_break : Does K W tBreak Γ M (.bk Γ M) := fun B as F σ H E S O p => p B [] σ H (Ex.refl B) (by rw [List.append_nil]; exact S) (by rw [List.append_nil]; exact O)
theorem do_cont : Does K W tCont Γ M (.ct Γ M) := fun B as F σ H E S O p => p B [] σ H (Ex.refl B) (by rw [List.append_nil]; exact S) (by rw [List.append_nil]; exact O)
theorem do_asg (h : Ev K te Γ M g M1) : Does K W (tAsg te (gName i)) Γ M (.nx (Γ.set i g) M1) := fun B as F σ H E S O p =>
  h B as F σ H S O _ fun v B1 H1 e1 S1 r1 => p.nx0 e1 S1 ((O.up e1).set r1 i)
theorem do_asgN (h : EvN K te Γ M xs M1) : Does K W (tAsg te (gName i)) Γ M (.nx (Γ.set i (.mr M1.length)) (M1 ++ [.lst xs])) := fun B as F σ H E S O p =>
  h B as F σ H S O _ fun a vs B1 H1 e1 S1 hp r1 => by
    refine p B1 [a] _ _ e1 (S1.newM hp ⟨vs, rfl, r1⟩ (by intro z; cases z)) (((O.up e1).more).set ?_ i)
    exact ⟨a, rfl, by rw [← S1.len, List.getElem?_append_right (Nat.le_refl _)]; simp⟩
theorem do_ret (h : Ev K te Γ M g M1) : Does K W (tRet te) Γ M (.rt g M1) := fun B as F σ H E S O p =>
  h B as F σ H S O _ fun v B1 H1 e1 S1 r1 => p v B1 [] H1 e1 (by rw [List.append_nil]; exact S1) (by rw [List.append_nil]; exact r1)
theorem do_retN : Does K W tRetN Γ M (.rt (.dat .non) M) := fun B as F σ H E S O p =>
  p .non B [] H (Ex.refl B) (by rw [List.append_nil]; exact S) Rep.non
theorem do_drop (h : Ev K te Γ M g M1) : Does K W (tDrop te) Γ M (.nx Γ M1) := fun B as F σ H E S O p =>
  h B as F σ H S O _ fun v B1 H1 e1 S1 r1 => p.nx0 e1 S1 (O.up e1)
theorem do_if {b : Bool} (h : EvT K tt Γ M b M1) (h1 : b = true → Does K W tu Γ M1 r) (h2 : b = false → Does K W tw Γ M1 r) : Does K W (tIfS tt tu tw) Γ M r := fun B as F σ H E S O p =>
  h B as F σ H S O _ fun B1 H1 e1 S1 => by
    cases b with
    | true => exact h1 rfl B1 as F σ H1 E S1 (O.up e1) (p.up0 e1)
    | false => exact h2 rfl B1 as F σ H1 E S1 (O.up e1) (p.up0 e1)
/-- an if with what follows: told apart at once -/
theorem do_ifs {b : Bool} (h : EvT K tt Γ M b M1) (h1 : b = true → Does K W (tSeq tu tz) Γ M1 r) (h2 : b = false → Does K W (tSeq tw tz) Γ M1 r) : Does K W (tSeq (tIfS tt tu tw) tz) Γ M r := fun B as F σ H E S O p =>
  h B as F σ H S O _ fun B1 H1 e1 S1 => by
    cases b with
    | true => exact h1 rfl B1 as F σ H1 E S1 (O.up e1) (p.up0 e1)
    | false => exact h2 rfl B1 as F σ H1 E S1 (O.up e1) (p.up0 e1)
theorem do_nextSeq (h : Does K W tu Γ M r) : Does K W (tSeq tNext tu) Γ M r := do_seq do_next h
theorem do_seqA {tv : TS} (h : Does K W (tSeq tu (tSeq tv tw)) Γ M r) : Does K W (tSeq (tSeq tu tv) tw) Γ M r := h
theorem do_asgX {tg : TG} (h : EvX K W te Γ M C fs M1) : Does K W (tAsg te tg) Γ M (.ex C fs Γ M1) := fun B as F σ H E S O p =>
  h B as F σ H S O _ fun dd B1 H1 e1 S1 x => p dd B1 [] σ H1 e1 (by rw [List.append_nil]; exact S1) (by rw [List.append_nil]; exact O.up e1) x
theorem do_retX (h : EvX K W te Γ M C fs M1) : Does K W (tRet te) Γ M (.ex C fs Γ M1) := fun B as F σ H E S O p =>
  h B as F σ H S O _ fun dd B1 H1 e1 S1 x => p dd B1 [] σ H1 e1 (by rw [List.append_nil]; exact S1) (by rw [List.append_nil]; exact O.up e1) x
theorem do_dropX (h : EvX K W te Γ M C fs M1) : Does K W (tDrop te) Γ M (.ex C fs Γ M1) := fun B as F σ H E S O p =>
  h B as F σ H S O _ fun dd B1 H1 e1 S1 x => p dd B1 [] σ H1 e1 (by rw [List.append_nil]; exact S1) (by rw [List.append_nil]; exact O.up e1) x
theorem do_is {r' : R} (h : Does K W tu Γ M r) (e : r = r') : Does K W tu Γ M r' := e ▸ h

/-! binding -/
/-- a target takes a thing apart; js: the slots it writes -/
def BG (K : PySem.W.Frag) (tg : TG) (d : D) (Γ : List G) (Γ' : List G) (js : List Nat) : Prop :=
  ∀ (B : Hp) (as : List Addr) (σ : L2.St) (H : Hp) (v : V), Ex B H → SOk K B as σ Γ → Rep K B v d → ∀ Q : L2.St → Hp → Prop, (∀ σ', SOk K B as σ' Γ' → σ'.length = σ.length → (∀ i, i ∉ js → σ'[i]? = σ[i]?) → Q σ' H) → tg v σ H Q
def BGs (K : PySem.W.Frag) (tg : TGs) (ds : List D) (Γ : List G) (Γ' : List G) (js : List Nat) : Prop :=
  ∀ (B : Hp) (as : List Addr) (σ : L2.St) (H : Hp) (vs : List V), Ex B H → SOk K B as σ Γ → Reps K B vs ds → ∀ Q : L2.St → Hp → Prop, (∀ σ', SOk K B as σ' Γ' → σ'.length = σ.length → (∀ i, i ∉ js → σ'[i]? = σ[i]?) → Q σ' H) → tg vs σ H Q
theorem bg_name : BG K (gName i) d Γ (Γ.set i (.dat d)) [i] := fun B as σ H v hx O r Q q => q _ (O.set (g := .dat d) r i) (by simp) fun k hk => List.getElem?_set_ne (by simp at hk; exact fun z => hk z.symm)
theorem bgs_nil : BGs K gNil [] Γ Γ [] := fun B as σ H vs hx O r Q q => by cases r; exact ⟨rfl, q σ O rfl fun _ _ => rfl⟩
theorem bgs_cons {tgs : TGs} {js ks : List Nat} (h1 : BG K tg d Γ Γ1 js) (h2 : BGs K tgs ds Γ1 Γ2 ks) : BGs K (gCons tg tgs) (d :: ds) Γ Γ2 (js ++ ks) := fun B as σ H vs hx O r Q q => by
  cases r with
  | cons r rs => exact ⟨_, _, rfl, h1 B as σ H _ hx O r _ fun σ1 O1 l1 n1 => h2 B as σ1 H _ hx O1 rs _ fun σ2 O2 l2 n2 => q σ2 O2 (l2.trans l1) fun k hk => by
      simp only [List.mem_append, not_or] at hk
      exact (n2 k hk.2).trans (n1 k hk.1)⟩
theorem bg_tup {tgs : TGs} {js : List Nat} (h : BGs K tgs ds Γ Γ1 js) : BG K (gTup K ds.length tgs) (.tup ds) Γ Γ1 js := fun B as σ H v hx O r Q q => by
  cases r with
  | tup s r => exact ⟨_, _, rfl, sqt hx s, r.len, h B as σ H _ hx O r _ q⟩
theorem do_asgT {js : List Nat} (h : Ev K te Γ M (.dat d) M1) (hb : BG K tg d Γ Γ1 js) : Does K W (tAsg te tg) Γ M (.nx Γ1 M1) := fun B as F σ H E S O p =>
  h B as F σ H S O _ fun v B1 H1 e1 S1 r1 => hb B1 as σ H1 v S1.ex (O.up e1) r1 _ fun σ1 O1 _ _ => p.nx0 e1 S1 O1

/-! things that may change -/
theorem do_app (ha : Ev K ta Γ M (.mr j) M1) (he : Ev K te Γ M1 (.dat d) M2) (hm : M2[j]? = some (.lst xs)) (hm1 : M1[j]? = some (.lst ds)) (hz : xs.length < sizeLine) :
    Does K W (tDrop (tBM K "list" rAppend ta (tCons te tNil))) Γ M (.nx Γ (M2.set j (.lst (xs ++ [d])))) := fun B as F σ H E S O p =>
  ha B as F σ H S O _ fun v B1 H1 e1 S1 r1 => by
    obtain ⟨a, rfl, hj⟩ := r1
    obtain ⟨nb, o, ho, vs, rfl, rr⟩ := S1.mu j a _ hj hm1 (by intro z; cases z)
    refine ⟨Or.inl ⟨rfl, vs, Or.inl (Or.inl ho)⟩, he B1 as F σ H1 S1 (O.up e1) _ fun w B2 H2 e2 S2 r2 => ?_⟩
    obtain ⟨nb2, o2, ho2, vs2, rfl, rr2⟩ := S2.mu j a _ hj hm (by intro z; cases z)
    refine ⟨a, vs2, w, rfl, rfl, ho2, by rw [rr2.len]; exact hz, ?_⟩
    exact p.nx0 (e1.trans e2) (S2.write hj hm (by intro z; cases z) ⟨_, rfl, rr2.append (.cons r2 .nil)⟩ (by intro z; cases z)) (O.up (e1.trans e2))
theorem ev_pop (ha : Ev K ta Γ M (.mr j) M1) (hm : M1[j]? = some (.lst (xs ++ [d]))) : Ev K (tBM0 K "list" rPop ta) Γ M (.dat d) (M1.set j (.lst xs)) := fun B as F σ H S O Q q =>
  ha B as F σ H S O _ fun v B1 H1 e1 S1 r1 => by
    obtain ⟨a, rfl, hj⟩ := r1
    obtain ⟨nb, o, ho, vs, rfl, rr⟩ := S1.mu j a _ hj hm (by intro z; cases z)
    have hl : vs.length = xs.length + 1 := by rw [rr.len]; simp
    obtain ⟨w, hw, rw'⟩ := rr.get (i := xs.length) (d := d) (by simp)
    refine ⟨Or.inl ⟨rfl, vs, Or.inl (Or.inl ho)⟩, a, vs, w, rfl, rfl, ho, by rw [hl]; exact hw, ?_⟩
    refine q w B1 _ e1 (S1.write hj hm (by intro z; cases z) ⟨_, rfl, ?_⟩ (by intro z; cases z)) rw'
    have t := rr.take xs.length
    rw [List.take_left] at t
    rw [List.dropLast_eq_take, hl]
    exact t
theorem do_rev (ha : Ev K ta Γ M (.mr j) M1) (hm : M1[j]? = some (.lst xs)) : Does K W (tDrop (tBM0 K "list" rReverse ta)) Γ M (.nx Γ (M1.set j (.lst xs.reverse))) := fun B as F σ H E S O p =>
  ha B as F σ H S O _ fun v B1 H1 e1 S1 r1 => by
    obtain ⟨a, rfl, hj⟩ := r1
    obtain ⟨nb, o, ho, vs, rfl, rr⟩ := S1.mu j a _ hj hm (by intro z; cases z)
    exact ⟨Or.inl ⟨rfl, vs, Or.inl (Or.inl ho)⟩, a, vs, rfl, rfl, ho, p.nx0 e1 (S1.write hj hm (by intro z; cases z) ⟨_, rfl, rr.reverse⟩ (by intro z; cases z)) (O.up e1)⟩
/-- xs[i] = e -/
theorem do_setL {k : Int} {n : Nat} (he : Ev K te Γ M (.dat d) M1) (ho : Ev K ta Γ M1 (.mr j) M2) (hi : Ev K tb Γ M2 (.dat (.int k)) M3) (hm : M3[j]? = some (.lst xs)) (hk : ixN xs.length k = some n) :
    Does K W (tAsg te (gSub ta tb rSetL)) Γ M (.nx Γ (M3.set j (.lst (xs.set n d)))) := fun B as F σ H E S O p =>
  he B as F σ H S O _ fun v B1 H1 e1 S1 r1 => ho B1 as F σ H1 S1 (O.up e1) _ fun w B2 H2 e2 S2 r2 => hi B2 as F σ H2 S2 (O.up (e1.trans e2)) _ fun u B3 H3 e3 S3 r3 => by
    obtain ⟨a, rfl, hj⟩ := r2
    cases r3
    obtain ⟨nb, o, hh, vs, rfl, rr⟩ := S3.mu j a _ hj hm (by intro z; cases z)
    refine ⟨a, vs, k, n, rfl, rfl, hh, by rw [rr.len]; exact hk, ?_⟩
    exact p.nx0 ((e1.trans e2).trans e3) (S3.write hj hm (by intro z; cases z) ⟨_, rfl, rr.set n (Rep.up r1 (e2.trans e3))⟩ (by intro z; cases z)) (O.up ((e1.trans e2).trans e3))
/-- x += e, ints -/
theorem do_aug {f : Int → Int → Int} {a b : Int} (hx : Γ[i]? = some (.dat (.int a))) (h : Ev K te Γ M (.dat (.int b)) M1) : Does K W (tAug i te (ipI f)) Γ M (.nx (Γ.set i (.dat (.int (f a b)))) M1) := fun B as F σ H E S O p => by
  obtain ⟨v, hv, rv⟩ := O.at' i _ hx (by intro z; cases z)
  cases rv
  exact ⟨_, hv, h B as F σ H S O _ fun w B1 H1 e1 S1 r1 => by
    cases r1
    exact ⟨a, b, rfl, rfl, p.nx0 e1 S1 ((O.up e1).set (g := .dat (.int (f a b))) Rep.int i)⟩⟩
/-- from here on x never changes -/
def frG (j : Nat) (d : D) : G → G
  | .mr i => if i = j then .dat d else .mr i
  | g => g
theorem do_freeze (hm : M[j]? = some (.lst xs)) (h : Does K W tu (Γ.map (frG j (.lst xs))) (M.set j .gone) r) : Does K W tu Γ M r := fun B as F σ H E S O p => by
  have hl := (List.getElem?_eq_some_iff.mp hm).1
  obtain ⟨a, hj⟩ : ∃ a, as[j]? = some a := ⟨as[j]'(by rw [S.len]; exact hl), by simp⟩
  obtain ⟨nb, o, ho, vs, rfl, rr⟩ := S.mu j a _ hj hm (by intro z; cases z)
  refine h (upd B a (.lst vs)) as F σ H E (S.freeze hj ho nb) ⟨by simpa using O.len, fun i g hg hn => ?_⟩ (p.up0 (Ex.new nb))
  rw [List.getElem?_map] at hg
  cases e : Γ[i]? with
  | none => rw [e] at hg; cases hg
  | some g0 =>
    rw [e] at hg
    have hg' : frG j (.lst xs) g0 = g := Option.some.inj hg
    have hn0 : g0 ≠ .no := by rintro rfl; exact hn hg'.symm
    obtain ⟨v, hv, rv⟩ := O.at' i g0 e hn0
    refine ⟨v, hv, ?_⟩
    subst hg'
    cases g0 with
    | no => exact absurd rfl hn0
    | dat d => exact Rep.up rv (Ex.new nb)
    | mr k =>
      by_cases hk : k = j
      · subst hk
        obtain ⟨b, rfl, hb⟩ := rv
        rw [hj] at hb; cases hb
        show RepG K _ as _ (if k = k then G.dat (D.lst xs) else G.mr k)
        rw [if_pos rfl]
        exact Rep.lst upd_same (rr.up (Ex.new nb))
      · show RepG K _ as _ (if k = j then G.dat (D.lst xs) else G.mr k)
        rw [if_neg hk]
        exact rv
/-- less is known -/
def lessG : G → G → Bool
  | _, .no => true
  | .mr i, .mr j => i == j
  | _, _ => false
theorem do_less (h : Does K W tu Γ M (.nx Γ1 M1)) (hl : Γ1.length = Γ2.length) (hg : ∀ (i : Nat) (g : G), Γ2[i]? = some g → g ≠ .no → Γ1[i]? = some g ∧ ∀ k, g = .mr k → k < M2.length) (hM : M1.take M2.length = M2) (hMl : M.length ≤ M2.length) : Does K W tu Γ M (.nx Γ2 M2) := fun B as F σ H E S O p =>
  h B as F σ H E S O fun B1 bs σ1 H1 e1 S1 O1 => by
    have S2 := S1.take M2.length
    rw [hM] at S2
    have ea : (as ++ bs).take M2.length = as ++ bs.take (M2.length - as.length) := by
      rw [List.take_append, List.take_of_length_le (by rw [S.len]; exact hMl)]
    rw [ea] at S2
    refine p B1 _ σ1 H1 e1 S2 ⟨by rw [O1.len, hl], fun i g h1 h2 => ?_⟩
    obtain ⟨q1, q2⟩ := hg i g h1 h2
    obtain ⟨v, hv, rv⟩ := O1.at' i g q1 h2
    refine ⟨v, hv, ?_⟩
    cases g with
    | no => trivial
    | dat d => exact rv
    | mr k =>
      obtain ⟨a, e, q⟩ := rv
      refine ⟨a, e, ?_⟩
      rw [← ea, List.getElem?_take, if_pos (q2 k rfl)]
      exact q
end

/-! ## a def keeps its promise -/
def WofE (E : XK) : WX := fun cls d _ H => E cls d H
def Done (K : PySem.W.Frag) (E : XK) (t : TS) (Γ : List G) (M : List MO) : R1 → Prop
  | .ret g M' => M'.length = M.length ∧ ∃ d M2, g = .dat d ∧ (Does K (WofE E) t Γ M (.rt (.dat d) (M' ++ M2)) ∨ (d = .non ∧ ∃ Γ', Does K (WofE E) t Γ M (.nx Γ' (M' ++ M2))))
  | .exc C fs M' => M'.length = M.length ∧ ∃ Γ' M2, Does K (WofE E) t Γ M (.ex C fs Γ' (M' ++ M2))
theorem SOk.start {K : PySem.W.Frag} {B : Hp} {as : List Addr} {vs : List V} {gs : List G} {N : List Str} (r : RepGs K B as vs gs) : SOk K B as (start N vs) (gs ++ List.replicate (N.length - gs.length) .no) := by
  refine ⟨by simp [L2.start, r.len], fun i g hg hn => ?_⟩
  have hi : i < gs.length := by
    by_cases h : i < gs.length
    · exact h
    · rw [List.getElem?_append_right (by omega), List.getElem?_replicate] at hg
      split at hg
      · cases hg; exact absurd rfl hn
      · cases hg
  rw [List.getElem?_append_left hi] at hg
  have key : ∀ {vs : List V} {gs : List G} {i : Nat} {g : G}, RepGs K B as vs gs → gs[i]? = some g → ∃ v, vs[i]? = some v ∧ RepG K B as v g := by
    intro vs gs i g r h
    induction r generalizing i with
    | nil => simp at h
    | cons r _ ih =>
      cases i with
      | zero => simp at h; subst h; exact ⟨_, rfl, r⟩
      | succ i => simp at h; obtain ⟨v, e, q⟩ := ih h; exact ⟨v, by simpa using e, q⟩
  obtain ⟨v, e, q⟩ := key r hg
  refine ⟨v, ?_, q⟩
  unfold L2.start
  rw [List.getElem?_append_left (by simp [r.len]; exact hi), List.getElem?_map, e]
  rfl
theorem done_run {K : PySem.W.Frag} {E : XK} {t : TS} {Γ : List G} {M : List MO} {r : R1} {B : Hp} {as : List Addr} {F : Hp} {σ : L2.St} {H : Hp} {Q : L2.VK} (h : Done K E t Γ M r) (S : Sat K B as M F H) (O : SOk K B as σ Γ)
    (q : Fin K B as F Q E r) : t { nx := fun _ H' => Q .non H', rt := Q } σ H := by
  have cut : ∀ {B' : Hp} {bs : List Addr} {M' M2 : List MO} {H' : Hp}, M'.length = M.length → Sat K B' (as ++ bs) (M' ++ M2) F H' → Sat K B' as M' F H' := fun {B' bs M' M2 H'} hl S' => by
    have z := S'.take M'.length
    rw [List.take_left, List.take_left' (by rw [hl, S.len])] at z
    exact z
  cases r with
  | ret g M' =>
    obtain ⟨hl, d, M2, rfl, h | ⟨rfl, Γ', h⟩⟩ := h
    · exact h B as F σ H _ S O fun v B' bs H' e S' r' => q v B' H' e (cut hl S') r'
    · exact h B as F σ H _ S O fun B' bs σ' H' e S' _ => q .non B' H' e (cut hl S') Rep.non
  | exc C fs M' =>
    obtain ⟨hl, Γ', M2, h⟩ := h
    exact h B as F σ H _ S O fun dd B' bs σ' H' e S' _ x => q dd B' H' e (cut hl S') x
section
variable {P : Program} {w : World} {K : PySem.W.Frag} {mg : Str → Option Value} {base : Heap}
open PyProof.Rows in
theorem def_ok {x qual : Str} {st : Stmt} {f : Addr} {fd : FuncData} {N ps : List Str} {k : Nat} {c : Con} (F : Fun K x qual st f fd) (S : FnScope N ps (defScope st)) (hl : ∀ gs M r, c gs M r → gs.length = ps.length)
    (hb : ∀ (cdv : Value) (A : Around) (outer : List Env) (s : Shared) (H : Hp) (E : XK), Room k (A.deeper (envOfC qual (defScope st) s.heap.objs.size f cdv)) →
      ∃ t, PSs (cxOf (L2.CX P w) P w K mg base N qual (defScope st) f cdv A outer s H E) (defBody st) t ∧ ∀ gs M r, c gs M r → Done K E t (gs ++ List.replicate (N.length - gs.length) .no) M r) :
    FnOk P w K mg base (L2.CX P w) (k + 1) f fd ps (spOf K c) := by
  refine F.okX S (fun vs H Q E h => ?_) (fun cdv A outer s H vs Q E hr h => ?_)
  · obtain ⟨gs, B, as, M, F', r, hc, rg, _⟩ := h
    rw [rg.len]; exact hl gs M r hc
  · obtain ⟨t, ht, hd⟩ := hb cdv A outer s H E hr
    obtain ⟨gs, B, as, M, F', r, hc, rg, S', q⟩ := h
    exact ⟨t, ht, done_run (hd gs M r hc) S' (SOk.start rg) q⟩
end
end Lw

set_option Elab.async false
set_option linter.all false
set_option maxRecDepth 100000
set_option maxHeartbeats 2000000
namespace Lw
open PySem L2

/-! ## what is walked -/
structure WalkD (K : PySem.W.Frag) (J : It) (B : Hp) (ds : List D) : Prop where
  goes : ∀ i H, i < ds.length → Ex B H → J.go i H
  stops : ∀ H, Ex B H → J.stop ds.length H
  yields : ∀ i H x H', i < ds.length → Ex B H → J.yld i H x H' → ∃ d, ds[i]? = some d ∧ ∀ (B2 : Hp) (as : List Addr) (M : List MO) (F : Hp), Ex B B2 → Sat K B2 as M F H → ∃ B3, Ex B2 B3 ∧ Sat K B3 as M F H' ∧ Rep K B3 x d
def EvI (K : PySem.W.Frag) (wi : TI) (Γ : List G) (M : List MO) (ds : List D) (M' : List MO) : Prop :=
  ∀ (B : Hp) (as : List Addr) (F : Hp) (σ : L2.St) (H : Hp), Sat K B as M F H → SOk K B as σ Γ → ∀ R : It → Hp → Prop, (∀ J B' H', Ex B B' → Sat K B' as M' F H' → WalkD K J B' ds → R J H') → wi σ H R
section
variable {K : PySem.W.Frag} {B B' F H H' : Hp} {Γ Γ1 : List G} {M M1 M2 : List MO} {a : Addr} {vs : List V} {ds es : List D} {te : TE} {tA : TA}
theorem walkD_list (s : SqL K B a vs) (r : Reps K B vs ds) : WalkD K (Itl K a) B ds := by
  refine ⟨fun i H hi e => ⟨vs, vs[i]'(by rw [r.len]; exact hi), ex_l e s, by simp⟩, fun H e => ⟨vs, ex_l e s, by rw [r.len]; exact Nat.le_refl _⟩, fun i H x H' hi e y => ?_⟩
  obtain ⟨rfl, hy⟩ := y
  obtain ⟨d, hd, rd⟩ := r.getV (hy vs (ex_l e s))
  exact ⟨d, hd, fun B2 as M F e2 S => ⟨B2, Ex.refl _, S, rd.up e2⟩⟩
theorem walkD_tup (s : SqT K B a vs) (r : Reps K B vs ds) : WalkD K (Itt K a) B ds := by
  refine ⟨fun i H hi e => ⟨vs, vs[i]'(by rw [r.len]; exact hi), ex_t e s, by simp⟩, fun H e => ⟨vs, ex_t e s, by rw [r.len]; exact Nat.le_refl _⟩, fun i H x H' hi e y => ?_⟩
  obtain ⟨rfl, hy⟩ := y
  obtain ⟨d, hd, rd⟩ := r.getV (hy vs (ex_t e s))
  exact ⟨d, hd, fun B2 as M F e2 S => ⟨B2, Ex.refl _, S, rd.up e2⟩⟩
theorem ei_list (h : Ev K te Γ M (.dat (.lst ds)) M1) : EvI K (iList K te) Γ M ds M1 := fun B as F σ H S O R q =>
  h B as F σ H S O _ fun v B1 H1 e1 S1 r1 => by
    cases r1 with
    | lst s r => exact ⟨_, rfl, ⟨_, Or.inl (Or.inl (S1.ex _ _ s))⟩, q _ B1 H1 e1 S1 (walkD_list (Or.inl (Or.inl s)) r)⟩
theorem ei_tup (h : Ev K te Γ M (.dat (.tup ds)) M1) : EvI K (iTup K te) Γ M ds M1 := fun B as F σ H S O R q =>
  h B as F σ H S O _ fun v B1 H1 e1 S1 r1 => by
    cases r1 with
    | tup s r => exact ⟨_, rfl, ⟨_, sqt S1.ex s⟩, q _ B1 H1 e1 S1 (walkD_tup (sqt (Ex.refl _) s) r)⟩
def rngD (lo : Int) (n : Nat) : List D := (List.range n).map fun i => .int (lo + (i : Nat))
theorem rngD_get {lo : Int} {n i : Nat} (h : i < n) : (rngD lo n)[i]? = some (.int (lo + (i : Nat))) := by
  unfold rngD
  rw [List.getElem?_map, List.getElem?_range h]
  rfl
theorem walkD_rng {lo : Int} {n : Nat} : WalkD K (Itr lo n) B (rngD lo n) := by
  have hl : (rngD lo n).length = n := by simp [rngD]
  refine ⟨fun i H hi e => by rw [hl] at hi; exact hi, fun H e => by rw [hl]; exact Nat.le_refl n, fun i H x H' hi e y => ?_⟩
  obtain ⟨rfl, rfl⟩ := y
  rw [hl] at hi
  exact ⟨_, rngD_get hi, fun B2 as M F e2 S => ⟨B2, Ex.refl _, S, .int⟩⟩
theorem ei_rng1 {n : Int} (h : EvA K tA Γ M [.dat (.int n)] M1) (hn : -(2 ^ 62) ≤ n ∧ n < 2 ^ 62) : EvI K (iRng1 tA) Γ M (rngD 0 n.toNat) M1 := fun B as F σ H S O R q =>
  h B as F σ H S O _ fun vs B1 H1 e1 S1 r1 => by
    cases r1 with
    | cons r rs => cases rs; cases r; exact ⟨n, rfl, hn.1, hn.2, q _ B1 H1 e1 S1 walkD_rng⟩
theorem ei_rng2 {m n : Int} (h : EvA K tA Γ M [.dat (.int m), .dat (.int n)] M1) (hm : -(2 ^ 62) ≤ m ∧ m < 2 ^ 62) (hn : -(2 ^ 62) ≤ n ∧ n < 2 ^ 62) : EvI K (iRng2 tA) Γ M (rngD m (n - m).toNat) M1 := fun B as F σ H S O R q =>
  h B as F σ H S O _ fun vs B1 H1 e1 S1 r1 => by
    cases r1 with
    | cons r rs => cases rs with
      | cons r' rs' => cases rs'; cases r; cases r'; exact ⟨m, n, rfl, ⟨hm.1, hm.2, hn.1, hn.2⟩, q _ B1 H1 e1 S1 walkD_rng⟩
def enumD (ds : List D) : List D := (List.range ds.length).map fun i => .tup [.int (i : Nat), ds.getD i .non]
theorem walkD_enum (s : SqL K B a vs) (r : Reps K B vs ds) : WalkD K (Ite K a) B (enumD ds) := by
  have hl : (enumD ds).length = ds.length := by simp [enumD]
  refine ⟨fun i H hi e => ⟨vs, vs[i]'(by rw [r.len, ← hl]; exact hi), ex_l e s, by simp⟩, fun H e => ⟨vs, ex_l e s, by rw [hl, r.len]; exact Nat.le_refl _⟩, fun i H x H' hi e y => ?_⟩
  obtain ⟨T, x', h1, h2, h3, h4⟩ := y
  rw [hl] at hi
  obtain ⟨d, hd, rd⟩ := r.getV (h4 vs (ex_l e s))
  refine ⟨.tup [.int (i : Nat), d], ?_, fun B2 as M F e2 S => ⟨upd B2 T (.tup [.int (i : Nat), x']), Ex.new (S.nb h2), ?_, ?_⟩⟩
  · unfold enumD
    rw [List.getElem?_map, List.getElem?_range hi]
    simp [List.getD, hd]
  · rw [h3]; exact S.new h2
  · rw [h1]
    exact .tup upd_same (.cons .int (.cons (rd.up (e2.trans (Ex.new (S.nb h2)))) .nil))
theorem ei_enum (h : EvA K tA Γ M [.dat (.lst ds)] M1) : EvI K (iEnum K tA) Γ M (enumD ds) M1 := fun B as F σ H S O R q =>
  h B as F σ H S O _ fun vs B1 H1 e1 S1 r1 => by
    cases r1 with
    | cons r rs => cases rs; cases r with
      | lst s r => exact ⟨_, _, rfl, Or.inl (Or.inl (S1.ex _ _ s)), q _ B1 H1 e1 S1 (walkD_enum (Or.inl (Or.inl s)) r)⟩
def zipD (ds es : List D) : List D := (ds.zip es).map fun p => .tup [p.1, p.2]
theorem walkD_zip {b : Addr} {ws : List V} (s : SqL K B a vs) (r : Reps K B vs ds) (s' : SqL K B b ws) (r' : Reps K B ws es) : WalkD K (Itz K a b) B (zipD ds es) := by
  have hl : (zipD ds es).length = min ds.length es.length := by simp [zipD]
  refine ⟨fun i H hi e => ?_, fun H e => ⟨vs, ws, ex_l e s, ex_l e s', by rw [hl, r.len, r'.len]; omega⟩, fun i H x H' hi e y => ?_⟩
  · rw [hl] at hi
    have h1 : i < vs.length := by rw [r.len]; omega
    have h2 : i < ws.length := by rw [r'.len]; omega
    exact ⟨vs, ws, vs[i], ws[i], ex_l e s, ex_l e s', by simp, by simp⟩
  · obtain ⟨T, x', y', h1, h2, h3, h4, h5⟩ := y
    rw [hl] at hi
    obtain ⟨d, hd, rd⟩ := r.getV (h4 vs (ex_l e s))
    obtain ⟨d', hd', rd'⟩ := r'.getV (h5 ws (ex_l e s'))
    refine ⟨.tup [d, d'], ?_, fun B2 as M F e2 S => ⟨upd B2 T (.tup [x', y']), Ex.new (S.nb h2), ?_, ?_⟩⟩
    · unfold zipD
      rw [List.getElem?_map, List.getElem?_zip_eq_some (z := (d, d')) |>.mpr ⟨hd, hd'⟩]
      rfl
    · rw [h3]; exact S.new h2
    · rw [h1]
      have u := e2.trans (Ex.new (o := .tup [x', y']) (S.nb h2))
      exact .tup upd_same (.cons (rd.up u) (.cons (rd'.up u) .nil))
theorem ei_zip (h : EvA K tA Γ M [.dat (.lst ds), .dat (.lst es)] M1) : EvI K (iZip K tA) Γ M (zipD ds es) M1 := fun B as F σ H S O R q =>
  h B as F σ H S O _ fun vs B1 H1 e1 S1 r1 => by
    cases r1 with
    | cons r rs => cases rs with
      | cons r' rs' =>
        cases rs'
        cases r with
        | lst s r => cases r' with
          | lst s' r' => exact ⟨_, _, _, _, rfl, Or.inl (Or.inl (S1.ex _ _ s)), Or.inl (Or.inl (S1.ex _ _ s')), q _ B1 H1 e1 S1 (walkD_zip (Or.inl (Or.inl s)) r (Or.inl (Or.inl s')) r')⟩
def strD (x : Str) : List D := x.cps.toList.map fun c => .str ⟨#[c]⟩
theorem walkD_str {x : Str} : WalkD K (Its x) B (strD x) := by
  have hl : (strD x).length = x.cps.size := by simp [strD]
  refine ⟨fun i H hi e => by rw [hl] at hi; exact hi, fun H e => by rw [hl]; exact Nat.le_refl x.cps.size, fun i H v H' hi e y => ?_⟩
  obtain ⟨rfl, c, hc, rfl⟩ := y
  refine ⟨.str ⟨#[c]⟩, ?_, fun B2 as M F e2 S => ⟨B2, Ex.refl _, S, .str⟩⟩
  unfold strD
  rw [List.getElem?_map, Array.getElem?_toList, hc]
  rfl
theorem ei_str {x : Str} (h : Ev K te Γ M (.dat (.str x)) M1) : EvI K (iStr te) Γ M (strD x) M1 := fun B as F σ H S O R q =>
  h B as F σ H S O _ fun v B1 H1 e1 S1 r1 => by
    cases r1
    exact ⟨x, rfl, q _ B1 H1 e1 S1 walkD_str⟩
theorem ei_is {wi : TI} (h : EvI K wi Γ M ds M1) (e : ds = es) : EvI K wi Γ M es M1 := e ▸ h
end

/-! ## for -/
section
variable {K : PySem.W.Frag} {W : WX} {Γ Γ1 : List G} {M M1 : List MO} {ds : List D} {wi : TI} {tg : TG} {tb : TS}
/-- the turns' ends: what comes of it if turn i leaves (ret, raise, break) -/
def unbk : R → R
  | .bk Γ M => .nx Γ M
  | r => r
def loopR (e : R) (out : Nat → Option R) (n : Nat) : R := match (List.range n).findSome? out with
  | some r => unbk r
  | none => e
theorem findSome_none {out : Nat → Option R} : ∀ {n : Nat}, (∀ i, i < n → out i = none) → (List.range n).findSome? out = none
  | 0, _ => rfl
  | n + 1, h => by
    rw [List.range_succ, List.findSome?_append, findSome_none fun i hi => h i (by omega)]
    simp [h n (by omega)]
theorem findSome_at {out : Nat → Option R} {r : R} {i : Nat} : ∀ {n : Nat}, i < n → (∀ j, j < i → out j = none) → out i = some r → (List.range n).findSome? out = some r
  | 0, h, _, _ => by omega
  | n + 1, h, h0, h1 => by
    rw [List.range_succ, List.findSome?_append]
    by_cases c : i < n
    · rw [findSome_at c h0 h1]; rfl
    · have e : i = n := by omega
      subst e
      rw [findSome_none h0]
      simp [h1]
/-- a loop: before turn i the slots are g i, the things that change m i; turn i goes on or leaves by out i -/
theorem do_forX (hi : EvI K wi Γ M ds M1) (g : Nat → List G) (m : Nat → List MO) (out : Nat → Option R) (hg : g 0 = Γ) (hm : m 0 = M1)
    (hb : ∀ i d, ds[i]? = some d → (∀ j, j < i → out j = none) → ∃ Γ1 js, BG K tg d (g i) Γ1 js ∧ ((out i = none ∧ (Does K W tb Γ1 (m i) (.nx (g (i + 1)) (m (i + 1))) ∨ Does K W tb Γ1 (m i) (.ct (g (i + 1)) (m (i + 1))))) ∨ ∃ r, out i = some r ∧ Does K W tb Γ1 (m i) r ∧ (∀ Γ M, r ≠ .nx Γ M) ∧ (∀ Γ M, r ≠ .ct Γ M))) :
    Does K W (tFor wi tg tb) Γ M (loopR (.nx (g ds.length) (m ds.length)) out ds.length) := by
  intro B as F σ H E S O p
  refine hi B as F σ H S O _ fun J B1 H1 e1 S1 wk => ?_
  refine ⟨fun i k σ' H' => k = ds.length - i ∧ i ≤ ds.length ∧ (∀ j, j < i → out j = none) ∧ ∃ B' bs, Ex B1 B' ∧ Sat K B' (as ++ bs) (m i) F H' ∧ SOk K B' (as ++ bs) σ' (g i),
    ⟨ds.length, by simp, Nat.zero_le _, fun j h => by omega, B1, [], Ex.refl _, by rw [List.append_nil, hm]; exact S1, by rw [List.append_nil, hg]; exact O.up e1⟩, ?_⟩
  rintro i k σ' H' ⟨rfl, hle, hno, B', bs, e', S', O'⟩
  by_cases hlt : i < ds.length
  · refine .inr ⟨wk.goes i H' hlt (e'.trans S'.ex), fun σ2 H2 => (∀ j, j < i + 1 → out j = none) ∧ ∃ B2 cs, Ex B1 B2 ∧ Sat K B2 (as ++ cs) (m (i + 1)) F H2 ∧ SOk K B2 (as ++ cs) σ2 (g (i + 1)), fun σ2 H2 q => ?_, fun x H2 y => ?_⟩
    · obtain ⟨q1, q2⟩ := q
      exact ⟨ds.length - (i + 1), by omega, rfl, hlt, q1, q2⟩
    · obtain ⟨d, hd, hy⟩ := wk.yields i H' x H2 hlt (e'.trans S'.ex) y
      obtain ⟨B3, e3, S3, r3⟩ := hy B' _ _ _ e' S'
      obtain ⟨Γ1, js, hbg, hcase⟩ := hb i d hd hno
      refine hbg B3 _ σ' H2 x S3.ex (O'.up e3) r3 _ fun σ3 O3 _ _ => ?_
      rcases hcase with ⟨hn, h | h⟩ | ⟨r, hr, h, hnx, hct⟩
      · refine h B3 _ F σ3 H2 _ S3 O3 fun B4 cs σ4 H4 e4 S4 O4 => ⟨fun j hj => ?_, B4, bs ++ cs, (e'.trans e3).trans e4, by rw [← List.append_assoc]; exact S4, by rw [← List.append_assoc]; exact O4⟩
        by_cases c : j = i
        · rw [c]; exact hn
        · exact hno j (by omega)
      · refine h B3 _ F σ3 H2 _ S3 O3 fun B4 cs σ4 H4 e4 S4 O4 => ⟨fun j hj => ?_, B4, bs ++ cs, (e'.trans e3).trans e4, by rw [← List.append_assoc]; exact S4, by rw [← List.append_assoc]; exact O4⟩
        by_cases c : j = i
        · rw [c]; exact hn
        · exact hno j (by omega)
      · have p2 : Post K W E B3 (as ++ bs) F (unbk r) := by
          unfold loopR at p
          rw [findSome_at hlt hno hr] at p
          exact p.up ((e1.trans e').trans e3)
        refine h B3 _ F σ3 H2 _ S3 O3 ?_
        cases r with
        | nx Γ M => exact absurd rfl (hnx Γ M)
        | ct Γ M => exact absurd rfl (hct Γ M)
        | bk Γ M => exact p2
        | rt g M => exact p2
        | ex C fs Γ M => exact p2
  · have ei : i = ds.length := by omega
    subst ei
    refine .inl ⟨wk.stops H' (e'.trans S'.ex), ?_⟩
    unfold loopR at p
    rw [findSome_none hno] at p
    exact p B' bs σ' H' (e1.trans e') S' O'
theorem loopR_none {e : R} {n : Nat} : loopR e (fun _ => none) n = e := by
  unfold loopR
  rw [findSome_none fun _ _ => rfl]
/-- a loop that goes through -/
theorem do_for (hi : EvI K wi Γ M ds M1) (g : Nat → List G) (m : Nat → List MO) (hg : g 0 = Γ) (hm : m 0 = M1)
    (hb : ∀ i d, ds[i]? = some d → ∃ Γ1 js, BG K tg d (g i) Γ1 js ∧ (Does K W tb Γ1 (m i) (.nx (g (i + 1)) (m (i + 1))) ∨ Does K W tb Γ1 (m i) (.ct (g (i + 1)) (m (i + 1))))) :
    Does K W (tFor wi tg tb) Γ M (.nx (g ds.length) (m ds.length)) := by
  have h := do_forX (W := W) (tb := tb) (tg := tg) hi g m (fun _ => none) hg hm fun i d hd _ => by
    obtain ⟨Γ1, js, q1, q2⟩ := hb i d hd
    exact ⟨Γ1, js, q1, .inl ⟨rfl, q2⟩⟩
  rw [loopR_none] at h
  exact h
/-- while: before round i the slots are g i, the things m i; the test says b i; n rounds in all -/
theorem do_while {tc : TT} (n : Nat) (g : Nat → List G) (m : Nat → List MO) (hg : g 0 = Γ) (hm : m 0 = M)
    (hb : ∀ i, i < n → ∃ M1, EvT K tc (g i) (m i) true M1 ∧ (Does K W tb (g i) M1 (.nx (g (i + 1)) (m (i + 1))) ∨ Does K W tb (g i) M1 (.ct (g (i + 1)) (m (i + 1))))) (he : EvT K tc (g n) (m n) false M1) :
    Does K W (tWhile tc tb) Γ M (.nx (g n) M1) := by
  intro B as F σ H E S O p
  refine ⟨fun k σ' H' => ∃ i, k = n - i ∧ i ≤ n ∧ ∃ B' bs, Ex B B' ∧ Sat K B' (as ++ bs) (m i) F H' ∧ SOk K B' (as ++ bs) σ' (g i), ⟨n, 0, by simp, Nat.zero_le _, B, [], Ex.refl _, by rw [List.append_nil, hm]; exact S, by rw [List.append_nil, hg]; exact O⟩, ?_⟩
  rintro k σ' H' ⟨i, rfl, hle, B', bs, e', S', O'⟩
  by_cases hlt : i < n
  · obtain ⟨M2, ht, hbody⟩ := hb i hlt
    refine ht B' _ F σ' H' S' O' _ fun B2 H2 e2 S2 => ?_
    refine ⟨fun σ3 H3 => ∃ B4 cs, Ex B B4 ∧ Sat K B4 (as ++ cs) (m (i + 1)) F H3 ∧ SOk K B4 (as ++ cs) σ3 (g (i + 1)), fun σ3 H3 q => ⟨n - (i + 1), by omega, i + 1, rfl, hlt, q⟩, ?_⟩
    rcases hbody with h | h
    · exact h B2 _ F σ' H2 _ S2 (O'.up e2) fun B4 cs σ4 H4 e4 S4 O4 => ⟨B4, bs ++ cs, (e'.trans e2).trans e4, by rw [← List.append_assoc]; exact S4, by rw [← List.append_assoc]; exact O4⟩
    · exact h B2 _ F σ' H2 _ S2 (O'.up e2) fun B4 cs σ4 H4 e4 S4 O4 => ⟨B4, bs ++ cs, (e'.trans e2).trans e4, by rw [← List.append_assoc]; exact S4, by rw [← List.append_assoc]; exact O4⟩
  · have ei : i = n := by omega
    subst ei
    exact he B' _ F σ' H' S' O' _ fun B2 H2 e2 S2 => p B2 bs σ' H2 (e'.trans e2) S2 (O'.up e2)
end

/-! ## comprehensions -/
def wipeG (Γ : List G) : List Nat → List G
  | [] => Γ
  | v :: vs => (wipeG Γ vs).set v .no
theorem wipeG_length (Γ : List G) : ∀ vs : List Nat, (wipeG Γ vs).length = Γ.length
  | [] => rfl
  | v :: vs => by unfold wipeG; rw [List.length_set, wipeG_length Γ vs]
theorem SOk.wipe {K : PySem.W.Frag} {B : Hp} {as : List Addr} {σ : L2.St} {Γ : List G} (O : SOk K B as σ Γ) : ∀ vs : List Nat, SOk K B as (L2.wipe σ vs) (wipeG Γ vs)
  | [] => O
  | v :: vs => by
    have O' := O.wipe vs
    refine ⟨by rw [L2.wipe_length, wipeG_length, O.len], fun i g hg hn => ?_⟩
    unfold wipeG at hg
    by_cases hi : v = i
    · subst hi
      by_cases hl : v < (wipeG Γ vs).length
      · rw [List.getElem?_set_self hl] at hg; cases hg; exact absurd rfl hn
      · rw [List.getElem?_eq_none (by simpa using hl)] at hg; cases hg
    · rw [List.getElem?_set_ne hi] at hg
      obtain ⟨v', q, r⟩ := O'.at' i g hg hn
      refine ⟨v', ?_, r⟩
      unfold L2.wipe
      rw [List.getElem?_set_ne hi]
      exact q
theorem wipe_get (σ : L2.St) : ∀ (vs : List Nat) (i : Nat), (L2.wipe σ vs)[i]? = if i ∈ vs then (if i < σ.length then some none else none) else σ[i]?
  | [], i => by simp [L2.wipe]
  | v :: vs, i => by
    unfold L2.wipe
    by_cases h : v = i
    · subst h
      by_cases hl : v < σ.length
      · rw [List.getElem?_set_self (by rw [L2.wipe_length]; exact hl)]; simp [hl]
      · rw [List.getElem?_eq_none (by simp [L2.wipe_length]; omega)]; simp [hl]
    · rw [List.getElem?_set_ne h, wipe_get σ vs i]
      have : ¬ i = v := fun z => h z.symm
      simp [this]
theorem wipe_ext {σ σ' : L2.St} {vs js : List Nat} (hl : σ'.length = σ.length) (h : ∀ i, i ∉ js → σ'[i]? = (L2.wipe σ vs)[i]?) (hj : ∀ i, i ∈ js → i ∈ vs) : L2.wipe σ' vs = L2.wipe σ vs := by
  apply List.ext_getElem?
  intro i
  rw [wipe_get σ' vs i, wipe_get σ vs i, hl]
  by_cases hi : i ∈ vs
  · simp [hi]
  · rw [if_neg hi, if_neg hi, h i (fun z => hi (hj i z)), wipe_get σ vs i, if_neg hi]
section
variable {K : PySem.W.Frag} {Γ Γ1 : List G} {M M1 : List MO} {ds : List D} {wi : TI} {tg : TG} {tt : TT} {te : TE} {vs : List Nat}
/-- ahead of turn i: what is made so far, outs i, and the things that change, m i -/
theorem ev_lc (hi : EvI K wi Γ M ds M1) (m : Nat → List MO) (outs : Nat → List D) (hm : m 0 = M1) (ho : outs 0 = []) (hz : ∀ i, i < ds.length → (outs i).length < sizeLine)
    (hb : ∀ i d, ds[i]? = some d → ∃ Γ1 js b M2, BG K tg d (wipeG Γ vs) Γ1 js ∧ (∀ i, i ∈ js → i ∈ vs) ∧ EvT K tt Γ1 (m i) b M2 ∧
      (b = true → ∃ y, Ev K te Γ1 M2 (.dat y) (m (i + 1)) ∧ outs (i + 1) = outs i ++ [y]) ∧ (b = false → M2 = m (i + 1) ∧ outs (i + 1) = outs i)) :
    EvN K (tLc wi tg tt te vs) Γ M (outs ds.length) (m ds.length) := by
  intro B as F σ H S O Q q
  refine hi B as F σ H S O _ fun J B1 H1 e1 S1 wk => ?_
  intro Dl hD
  have fD : F Dl = none := by
    cases e : F Dl with
    | none => rfl
    | some u => rw [(S1.fr Dl u e).1] at hD; cases hD
  refine ⟨fun i k H' => k = ds.length - i ∧ i ≤ ds.length ∧ ∃ B' ws, Ex B1 B' ∧ Sat K B' as (m i) (upd F Dl (.lst ws)) H' ∧ Reps K B' ws (outs i),
    ⟨ds.length, by simp, Nat.zero_le _, B1, [], Ex.refl _, by rw [hm]; exact S1.frame hD, by rw [ho]; exact .nil⟩, ?_⟩
  rintro i k H' ⟨rfl, hle, B', ws, e', S', rw'⟩
  by_cases hlt : i < ds.length
  · refine .inr ⟨wk.goes i H' hlt (e'.trans S'.ex), fun H2 => ∃ B2 ws, Ex B1 B2 ∧ Sat K B2 as (m (i + 1)) (upd F Dl (.lst ws)) H2 ∧ Reps K B2 ws (outs (i + 1)), fun H2 q2 => ⟨ds.length - (i + 1), by omega, rfl, hlt, q2⟩, fun x H2 y => ?_⟩
    obtain ⟨d, hd, hy⟩ := wk.yields i H' x H2 hlt (e'.trans S'.ex) y
    obtain ⟨B3, e3, S3, r3⟩ := hy B' _ _ _ e' S'
    obtain ⟨Γ1, js, b, M2, hbg, hjs, ht, hyes, hno⟩ := hb i d hd
    refine hbg B3 _ (L2.wipe σ vs) H2 x S3.ex (((O.up e1).wipe vs).up (e'.trans e3)) r3 _ fun σ3 O3 l3 n3 => ⟨wipe_ext (by rw [l3, L2.wipe_length]) n3 hjs, ?_⟩
    refine ht B3 as _ σ3 H2 S3 O3 _ fun B4 H4 e4 S4 => ?_
    cases b with
    | true =>
      obtain ⟨y', hy', ho'⟩ := hyes rfl
      refine hy' B4 as _ σ3 H4 S4 (O3.up e4) _ fun v B5 H5 e5 S5 r5 => ?_
      obtain ⟨T5, hD5, nB5⟩ := S5.unframe fD
      refine ⟨ws, hD5, by rw [rw'.len]; exact hz i hlt, B5, ws ++ [v], ((e'.trans e3).trans e4).trans e5, ?_, by rw [ho']; exact (rw'.up ((e3.trans e4).trans e5)).append (.cons r5 .nil)⟩
      have z := T5.frame (o := .lst (ws ++ [v])) del_same
      rw [show upd (del H5 Dl) Dl (.lst (ws ++ [v])) = upd H5 Dl (.lst (ws ++ [v])) from by
        rw [← upd_del hD5, upd_upd, upd_del hD5]] at z
      exact z
    | false =>
      obtain ⟨rfl, ho'⟩ := hno rfl
      exact ⟨B4, ws, (e'.trans e3).trans e4, S4, by rw [ho']; exact rw'.up (e3.trans e4)⟩
  · have ei : i = ds.length := by omega
    subst ei
    refine .inl ⟨wk.stops H' (e'.trans S'.ex), ?_⟩
    obtain ⟨T, hDl, nB⟩ := S'.unframe fD
    have z := q Dl ws B' (del H' Dl) (e1.trans e') T del_same rw'
    rw [upd_del hDl] at z
    exact z
theorem et_yes : EvT K tYes Γ M true M := fun B as F σ H S O Q q => q B H (Ex.refl B) S
/-- [f(x) for x in xs if c(x)], nothing changed on the way; xs told as a list of any kind -/
theorem ev_lcF {α : Type} {td : α → D} {ys : List α} (hi : EvI K wi Γ M (ys.map td) M1) (c : α → Bool) (f : α → D) (hz : ys.length < sizeLine)
    (hb : ∀ y, y ∈ ys → ∃ Γ1 js, BG K tg (td y) (wipeG Γ vs) Γ1 js ∧ (∀ i, i ∈ js → i ∈ vs) ∧ EvT K tt Γ1 M1 (c y) M1 ∧ (c y = true → Ev K te Γ1 M1 (.dat (f y)) M1)) :
    EvN K (tLc wi tg tt te vs) Γ M ((ys.filter c).map f) M1 := by
  have h := ev_lc (K := K) (tg := tg) (tt := tt) (te := te) (vs := vs) hi (fun _ => M1) (fun i => ((ys.take i).filter c).map f) rfl (by simp) (fun i hi' => by
      have q1 : ((ys.take i).filter c).length ≤ (ys.take i).length := List.length_filter_le _ _
      simp at hi' q1 ⊢
      omega) (fun i d hd => by
    rw [List.getElem?_map] at hd
    cases e : ys[i]? with
    | none => rw [e] at hd; cases hd
    | some y =>
      rw [e] at hd
      cases (show td y = d from Option.some.inj hd)
      obtain ⟨Γ1, js, q1, q2, q3, q4⟩ := hb y (List.mem_of_getElem? e)
      refine ⟨Γ1, js, c y, M1, q1, q2, q3, fun hc => ⟨f y, q4 hc, ?_⟩, fun hc => ⟨rfl, ?_⟩⟩
      · rw [List.take_add_one, e]
        simp [hc]
      · rw [List.take_add_one, e]
        simp [hc])
  simp only [List.length_map, List.take_length] at h
  exact h
end
end Lw

set_option Elab.async false
set_option linter.all false
set_option maxRecDepth 100000
set_option maxHeartbeats 2000000
namespace Lw
open PySem L2
section
variable {K : PySem.W.Frag} {Γ Γ1 : List G} {M M1 M2 M3 : List MO} {g g1 g2 : G} {gs : List G} {te ta tb tc : TE} {tt tu : TT} {tA : TA} {d d1 d2 : D} {xs ds es : List D} {r r' : R2} {j : Nat}
theorem ev_ty {n : String} : Ev K (tC (.ty n)) Γ M (.dat (.ty n)) M := ev_c fun _ => .ty
/-! calls of built-in functions -/
theorem rc_int1 {i : Int} : RC K (fun xs H Q => (∃ i, xs = [.int i] ∧ Q (.int i) H) ∨ ∃ k, xs = [.bl k] ∧ Q (.int (if k then 1 else 0)) H) [.dat (.int i)] M (.dat (.int i)) := fun B as F H vs S rs Q q => by
  cases rs with
  | cons r rs => cases rs; cases r; exact .inl ⟨i, rfl, q _ B H (Ex.refl B) S .int⟩
theorem rc_intB {b : Bool} : RC K (fun xs H Q => (∃ i, xs = [.int i] ∧ Q (.int i) H) ∨ ∃ k, xs = [.bl k] ∧ Q (.int (if k then 1 else 0)) H) [.dat (.bl b)] M (.dat (.int (if b then 1 else 0))) := fun B as F H vs S rs Q q => by
  cases rs with
  | cons r rs => cases rs; cases r; exact .inr ⟨b, rfl, q _ B H (Ex.refl B) S .int⟩
/-- a function of one int that gives an int -/
theorem rc_i1 {f : Int → Int} {i : Int} : RC K (fun xs H Q => ∃ i, xs = [.int i] ∧ Q (.int (f i)) H) [.dat (.int i)] M (.dat (.int (f i))) := fun B as F H vs S rs Q q => by
  cases rs with
  | cons r rs => cases rs; cases r; exact ⟨i, rfl, q _ B H (Ex.refl B) S .int⟩
theorem rc_i2 {f : Int → Int → Int} {i k : Int} : RC K (fun xs H Q => ∃ i j, xs = [.int i, .int j] ∧ Q (.int (f i j)) H) [.dat (.int i), .dat (.int k)] M (.dat (.int (f i k))) := fun B as F H vs S rs Q q => by
  cases rs with
  | cons r rs => cases rs with
    | cons r' rs => cases rs; cases r; cases r'; exact ⟨i, k, rfl, q _ B H (Ex.refl B) S .int⟩
theorem rc_abs {i : Int} : RC K (fun xs H Q => ∃ i, xs = [.int i] ∧ Q (.int (if i < 0 then -i else i)) H) [.dat (.int i)] M (.dat (.int (if i < 0 then -i else i))) := rc_i1 (f := fun i => if i < 0 then -i else i)
theorem rc_min {i k : Int} : RC K (fun xs H Q => ∃ i j, xs = [.int i, .int j] ∧ Q (.int (if j < i then j else i)) H) [.dat (.int i), .dat (.int k)] M (.dat (.int (if k < i then k else i))) := rc_i2 (f := fun i j => if j < i then j else i)
theorem rc_max {i k : Int} : RC K (fun xs H Q => ∃ i j, xs = [.int i, .int j] ∧ Q (.int (if j > i then j else i)) H) [.dat (.int i), .dat (.int k)] M (.dat (.int (if k > i then k else i))) := rc_i2 (f := fun i j => if j > i then j else i)
theorem rc_gcd {i k : Int} : RC K rGcd [.dat (.int i), .dat (.int k)] M (.dat (.int ((Nat.gcd i.natAbs k.natAbs : Nat) : Int))) := fun B as F H vs S rs Q q => by
  cases rs with
  | cons r rs => cases rs with
    | cons r' rs => cases rs; cases r; cases r'; exact ⟨i, k, rfl, q _ B H (Ex.refl B) S .int⟩
theorem rc_sum {ns : List Int} : RC K (rSum K) [.dat (.lst (ns.map D.int))] M (.dat (.int ns.sum)) := fun B as F H vs S rs Q q => by
  cases rs with
  | cons r rs => cases rs; cases r with
    | lst s r => exact ⟨_, ns, rfl, by rw [← r.ints]; exact Or.inl (Or.inl (S.ex _ _ s)), q _ B H (Ex.refl B) S .int⟩
theorem rc_all {bs : List Bool} : RC K (rAll K) [.dat (.lst (bs.map D.bl))] M (.dat (.bl (bs.all id))) := fun B as F H vs S rs Q q => by
  cases rs with
  | cons r rs => cases rs; cases r with
    | lst s r => exact ⟨_, bs, rfl, by rw [← r.bools]; exact Or.inl (Or.inl (S.ex _ _ s)), q _ B H (Ex.refl B) S .bl⟩
theorem rc_tupL : RC K (fun xs H Q => ∃ p ys, xs = [.ref p] ∧ ((SqL K H p ys ∧ ∀ l, H l = none → Q (.ref l) (upd H l (.tup ys))) ∨ (SqT K H p ys ∧ Q (.ref p) H))) [.dat (.lst ds)] M (.dat (.tup ds)) := fun B as F H vs S rs Q q => by
  cases rs with
  | cons r rs => cases rs; cases r with
    | lst s r => exact ⟨_, _, rfl, .inl ⟨Or.inl (Or.inl (S.ex _ _ s)), fun l hl => q _ _ _ (Ex.new (S.nb hl)) (S.new hl) (.tup upd_same (r.up (Ex.new (S.nb hl))))⟩⟩
theorem rc_tupM (hm : M[j]? = some (.lst ds)) : RC K (fun xs H Q => ∃ p ys, xs = [.ref p] ∧ ((SqL K H p ys ∧ ∀ l, H l = none → Q (.ref l) (upd H l (.tup ys))) ∨ (SqT K H p ys ∧ Q (.ref p) H))) [.mr j] M (.dat (.tup ds)) := fun B as F H vs S rs Q q => by
  cases rs with
  | cons r rs =>
    cases rs
    obtain ⟨a, rfl, ha⟩ := r
    obtain ⟨nb, o, ho, vs, rfl, r⟩ := S.mu j a _ ha hm (by intro z; cases z)
    exact ⟨_, _, rfl, .inl ⟨Or.inl (Or.inl ho), fun l hl => q _ _ _ (Ex.new (S.nb hl)) (S.new hl) (.tup upd_same (r.up (Ex.new (S.nb hl))))⟩⟩
theorem rc_tupT : RC K (fun xs H Q => ∃ p ys, xs = [.ref p] ∧ ((SqL K H p ys ∧ ∀ l, H l = none → Q (.ref l) (upd H l (.tup ys))) ∨ (SqT K H p ys ∧ Q (.ref p) H))) [.dat (.tup ds)] M (.dat (.tup ds)) := fun B as F H vs S rs Q q => by
  cases rs with
  | cons r rs => cases rs; cases r with
    | tup s r => exact ⟨_, _, rfl, .inr ⟨sqt S.ex s, q _ B H (Ex.refl B) S (.tup s r)⟩⟩
theorem rn_listT : RCN K (fun xs H Q => ∃ p ys, xs = [.ref p] ∧ (SqL K H p ys ∨ SqT K H p ys) ∧ ∀ l, H l = none → Q (.ref l) (upd H l (.lst ys))) [.dat (.tup ds)] M ds := fun B as F H vs S rs Q q => by
  cases rs with
  | cons r rs => cases rs; cases r with
    | tup s r => exact ⟨_, _, rfl, .inr (sqt S.ex s), fun l hl => q l _ B H (Ex.refl B) S hl r⟩
theorem rn_listL : RCN K (fun xs H Q => ∃ p ys, xs = [.ref p] ∧ (SqL K H p ys ∨ SqT K H p ys) ∧ ∀ l, H l = none → Q (.ref l) (upd H l (.lst ys))) [.dat (.lst ds)] M ds := fun B as F H vs S rs Q q => by
  cases rs with
  | cons r rs => cases rs; cases r with
    | lst s r => exact ⟨_, _, rfl, .inl (Or.inl (Or.inl (S.ex _ _ s))), fun l hl => q l _ B H (Ex.refl B) S hl r⟩
theorem rn_listM (hm : M[j]? = some (.lst ds)) : RCN K (fun xs H Q => ∃ p ys, xs = [.ref p] ∧ (SqL K H p ys ∨ SqT K H p ys) ∧ ∀ l, H l = none → Q (.ref l) (upd H l (.lst ys))) [.mr j] M ds := fun B as F H vs S rs Q q => by
  cases rs with
  | cons r rs =>
    cases rs
    obtain ⟨a, rfl, ha⟩ := r
    obtain ⟨nb, o, ho, vs, rfl, r⟩ := S.mu j a _ ha hm (by intro z; cases z)
    exact ⟨_, _, rfl, .inl (Or.inl (Or.inl ho)), fun l hl => q l _ B H (Ex.refl B) S hl r⟩
/-- sorted of ints: the one rising arrangement -/
def srt (ns : List Int) : List Int := ns.mergeSort (fun a b => decide (a ≤ b))
theorem srt_perm (ns : List Int) : (srt ns).Perm ns := List.mergeSort_perm ns _
theorem srt_le (ns : List Int) : (srt ns).Pairwise (· ≤ ·) := by
  have h := List.pairwise_mergeSort (le := fun a b : Int => decide (a ≤ b)) (fun a b c => by simp; omega) (fun a b => by simp; omega) ns
  exact h.imp fun {a b} h => by simpa using h
theorem srt_one {a b : List Int} (p : a.Perm b) (h : a.Pairwise (· ≤ ·)) (h' : b.Pairwise (· ≤ ·)) : a = b :=
  List.Perm.eq_of_pairwise (le := fun x y : Int => x ≤ y) (fun x y _ _ h1 h2 => Int.le_antisymm h1 h2) h h' p
theorem rn_sortedL {ns : List Int} : RCN K (rSortedI K) [.dat (.lst (ns.map D.int))] M ((srt ns).map D.int) := fun B as F H vs S rs Q q => by
  cases rs with
  | cons r rs => cases rs; cases r with
    | lst s r => exact ⟨_, ns, rfl, by rw [← r.ints]; exact Or.inl (Or.inl (S.ex _ _ s)), fun ns' p hp hs hn => by
        rw [srt_one (hp.trans (srt_perm ns).symm) hs (srt_le ns)]
        exact q p _ B H (Ex.refl B) S hn Reps.ofInts⟩
/-! isinstance -/
def kindD : D → Option String
  | .non => some "NoneType" | .bl _ => some "bool" | .int _ => some "int" | .str _ => some "str" | .tup _ => some "tuple" | .lst _ => some "list" | .fz _ => some "list"
  | _ => none
theorem ty_of {B H : Hp} {v : V} {k : String} (r : Rep K B v d) (e : Ex B H) (h : kindD d = some k) : TyX K H v (.type k) := by
  cases r with
  | non => cases h; exact .base .non
  | bl => cases h; exact .base (.bl _)
  | int => cases h; exact .base (.int _)
  | str => cases h; exact .base (.str _)
  | ty => cases h
  | cls => cases h
  | tup s _ => cases h; exact .base (.tup (e _ _ s))
  | lst s _ => cases h; exact .base (.lst (e _ _ s))
  | fz s _ =>
    cases h
    rcases s with (s | ⟨o, s⟩) | ⟨o, its, n, s, c, _⟩
    · exact .base (.lst (e _ _ s))
    · exact .base (.frz (e _ _ s))
    · exact .kList s c
  | obj _ _ _ => cases h
theorem rc_isi {k n : String} {b : Bool} (hk : kindD d = some k) (h : kitB k n = some b) : RC K (rIsi K) [.dat d, .dat (.ty n)] M (.dat (.bl b)) := fun B as F H vs S rs Q q => by
  cases rs with
  | cons r rs => cases rs with
    | cons r' rs => cases rs; cases r'; exact ⟨_, _, _, _, b, rfl, .ty n, ty_of r S.ex hk, kit_ty h, q _ B H (Ex.refl B) S .bl⟩
/-- isinstance(x, (C1, C2)) -/
theorem ev_isi2 {k n m : String} {a b : Bool} (h : Ev K ta Γ M (.dat d) M1) (hk : kindD d = some k) (h1 : kitB k n = some a) (h2 : kitB k m = some b) :
    Ev K (tCB (rIsiT K) (tCons ta (tCons (tTup (tCons (tC (.ty n)) (tCons (tC (.ty m)) tNil))) tNil))) Γ M (.dat (.bl (a || b))) M1 := fun B as F σ H S O Q q =>
  h B as F σ H S O _ fun v B1 H1 e1 S1 r1 => by
    refine ⟨by show 2 ≤ sizeLine; decide, fun p hp => ?_⟩
    have S2 := S1.new (o := .tup [.ty n, .ty m]) hp
    have u : Ex B1 (upd H1 p (.tup [.ty n, .ty m])) := S1.ex.trans (Ex.new hp)
    refine ⟨v, p, [.ty n, .ty m], _, [.type n, .type m], (a || b), rfl, upd_same, .cons (.ty n) (.cons (.ty m) .nil), ty_of r1 u hk, ?_, q _ _ _ (e1.trans (Ex.new (S1.nb hp))) S2 .bl⟩
    refine kitAny_cons (kit_ty h1) (fun ha => ?_) (fun ha => by rw [ha]; rfl)
    rw [ha]
    refine kitAny_cons (kit_ty h2) (fun hb => ?_) (fun hb => by rw [hb]; rfl)
    rw [hb]; exact kitAny_nil
/-! None, order, chains -/
theorem rv_isN : RV K (fun x y H Q => y = .non ∧ Q (.bl (decide (x = .non))) H) (.dat d) (.dat .non) M (.dat (.bl (isNon d))) := fun B as F H x y S r1 r2 Q q => by
  cases r2
  exact ⟨rfl, by rw [isNon_eq r1]; exact q _ B H (Ex.refl B) S .bl⟩
theorem rv_notN : RV K (fun x y H Q => y = .non ∧ Q (.bl (!decide (x = .non))) H) (.dat d) (.dat .non) M (.dat (.bl (!isNon d))) := fun B as F H x y S r1 r2 Q q => by
  cases r2
  exact ⟨rfl, by rw [isNon_eq r1]; exact q _ B H (Ex.refl B) S .bl⟩
/-! == of data -/
mutual
def toPy : D → Option PyData
  | .non => some .none | .bl b => some (.bool b) | .int i => some (.int i) | .str s => some (.str s)
  | .tup ds => (toPys ds).map .tuple | .lst ds => (toPys ds).map .list | .fz ds => (toPys ds).map .list
  | .ty _ => none | .cls _ => none | .obj _ _ _ => none
def toPys : List D → Option (List PyData)
  | [] => some []
  | d :: ds => match toPy d, toPys ds with
    | some x, some xs => some (x :: xs)
    | _, _ => none
end
mutual
theorem dp_of {B H : Hp} (e : Ex B H) : ∀ (d : D) (v : V) (p : PyData), Rep K B v d → toPy d = some p → Dp K H v p
  | .non, _, _, h, q => by cases h; cases q; exact .non
  | .bl _, _, _, h, q => by cases h; cases q; exact .bl _
  | .int _, _, _, h, q => by cases h; cases q; exact .int _
  | .str _, _, _, h, q => by cases h; cases q; exact .str _
  | .ty _, _, _, h, q => by cases q
  | .cls _, _, _, h, q => by cases q
  | .obj _ _ _, _, _, h, q => by cases q
  | .tup ds, _, _, h, q => by
    cases h with
    | tup s r =>
      unfold toPy at q
      cases z : toPys ds with
      | none => rw [z] at q; cases q
      | some ps => rw [z] at q; cases q; exact .tup (sqt e s) (dps_of e ds _ _ r z)
  | .lst ds, _, _, h, q => by
    cases h with
    | lst s r =>
      unfold toPy at q
      cases z : toPys ds with
      | none => rw [z] at q; cases q
      | some ps => rw [z] at q; cases q; exact .lst (Or.inl (Or.inl (e _ _ s))) (dps_of e ds _ _ r z)
  | .fz ds, _, _, h, q => by
    cases h with
    | fz s r =>
      unfold toPy at q
      cases z : toPys ds with
      | none => rw [z] at q; cases q
      | some ps => rw [z] at q; cases q; exact .lst (ex_l e s) (dps_of e ds _ _ r z)
theorem dps_of {B H : Hp} (e : Ex B H) : ∀ (ds : List D) (vs : List V) (ps : List PyData), Reps K B vs ds → toPys ds = some ps → DpAll K H vs ps
  | [], _, _, h, q => by cases h; cases q; exact .nil
  | d :: ds, _, _, h, q => by
    cases h with
    | cons r rs =>
      unfold toPys at q
      cases z : toPy d with
      | none => rw [z] at q; cases q
      | some p =>
        cases z' : toPys ds with
        | none => rw [z, z'] at q; cases q
        | some ps => rw [z, z'] at q; cases q; exact .cons (dp_of e d _ _ r z) (dps_of e ds _ _ rs z')
end
/-- == of two things told as data: b is their equality -/
theorem rv_eqD {p1 p2 : PyData} {b : Bool} (h1 : toPy d1 = some p1) (h2 : toPy d2 = some p2) (s1 : SeqAt.shaped p1 = true) (s2 : SeqAt.shaped p2 = true) (hb : PyData.eqv p1 p2 = b) : RV K (rEqD K) (.dat d1) (.dat d2) M (.dat (.bl b)) := fun B as F H x y S r1 r2 Q q =>
  ⟨p1, p2, dp_of S.ex d1 x p1 r1 h1, dp_of S.ex d2 y p2 r2 h2, s1, s2, by rw [hb]; exact q _ B H (Ex.refl B) S .bl⟩
theorem rv_neD {p1 p2 : PyData} {b : Bool} (h1 : toPy d1 = some p1) (h2 : toPy d2 = some p2) (s1 : SeqAt.shaped p1 = true) (s2 : SeqAt.shaped p2 = true) (hb : PyData.eqv p1 p2 = b) : RV K (rNeD K) (.dat d1) (.dat d2) M (.dat (.bl (!b))) := fun B as F H x y S r1 r2 Q q =>
  ⟨p1, p2, dp_of S.ex d1 x p1 r1 h1, dp_of S.ex d2 y p2 r2 h2, s1, s2, by rw [hb]; exact q _ B H (Ex.refl B) S .bl⟩
/-! slices, + of lists -/
def cutD (xs : List D) (lo hi : Option Int) : List D := (xs.drop (HT.sIx xs.length 0 lo)).take (HT.sIx xs.length xs.length hi - HT.sIx xs.length 0 lo)
theorem Reps.cut {B : Hp} {vs : List V} (r : Reps K B vs ds) (lo hi : Option Int) : Reps K B (cutV vs lo hi) (cutD ds lo hi) := by
  unfold cutV cutD
  rw [r.len]
  exact (r.drop _).take _
def EvO (K : PySem.W.Frag) (to : TO) (Γ : List G) (M : List MO) (o : Option Int) (M' : List MO) : Prop :=
  ∀ (B : Hp) (as : List Addr) (F : Hp) (σ : L2.St) (H : Hp), Sat K B as M F H → SOk K B as σ Γ → ∀ Q : Option Int → Hp → Prop, (∀ B' H', Ex B B' → Sat K B' as M' F H' → Q o H') → to σ H Q
theorem eo_none : EvO K tNoPart Γ M none M := fun B as F σ H S O Q q => q B H (Ex.refl B) S
theorem eo_some {i : Int} (h : Ev K te Γ M (.dat (.int i)) M1) : EvO K (tPart te) Γ M (some i) M1 := fun B as F σ H S O Q q =>
  h B as F σ H S O _ fun v B1 H1 e1 S1 r1 => by cases r1; exact ⟨i, rfl, q B1 H1 e1 S1⟩
theorem ev_slL {tl th : TO} {lo hi : Option Int} (h : Ev K te Γ M (.dat (.lst ds)) M1) (h1 : EvO K tl Γ M1 lo M2) (h2 : EvO K th Γ M2 hi M3) : EvN K (tSl (rSlL K) te tl th) Γ M (cutD ds lo hi) M3 := fun B as F σ H S O Q q =>
  h B as F σ H S O _ fun v B1 H1 e1 S1 r1 => h1 B1 as F σ H1 S1 (O.up e1) _ fun B2 H2 e2 S2 => h2 B2 as F σ H2 S2 (O.up (e1.trans e2)) _ fun B3 H3 e3 S3 => by
    cases r1 with
    | lst s r => exact ⟨_, _, rfl, Or.inl (Or.inl (S3.ex _ _ (e3 _ _ (e2 _ _ s)))), fun p hp => q p _ B3 H3 ((e1.trans e2).trans e3) S3 hp ((r.up (e2.trans e3)).cut lo hi)⟩
theorem ev_slM {tl th : TO} {lo hi : Option Int} (h : Ev K te Γ M (.mr j) M1) (h1 : EvO K tl Γ M1 lo M2) (h2 : EvO K th Γ M2 hi M3) (hm : M3[j]? = some (.lst ds)) : EvN K (tSl (rSlL K) te tl th) Γ M (cutD ds lo hi) M3 := fun B as F σ H S O Q q =>
  h B as F σ H S O _ fun v B1 H1 e1 S1 r1 => h1 B1 as F σ H1 S1 (O.up e1) _ fun B2 H2 e2 S2 => h2 B2 as F σ H2 S2 (O.up (e1.trans e2)) _ fun B3 H3 e3 S3 => by
    obtain ⟨a, rfl, ha⟩ := r1
    obtain ⟨nb, o, ho, vs, rfl, r⟩ := S3.mu j a _ ha hm (by intro z; cases z)
    exact ⟨_, _, rfl, Or.inl (Or.inl ho), fun p hp => q p _ B3 H3 ((e1.trans e2).trans e3) S3 hp (r.cut lo hi)⟩
theorem rn_cat (hz : ds.length + es.length ≤ sizeLine) : RVN K rCat (.dat (.lst ds)) (.dat (.lst es)) M (ds ++ es) := fun B as F H x y S r1 r2 Q q => by
  cases r1 with
  | lst s r => cases r2 with
    | lst s' r' => exact ⟨_, _, _, _, rfl, rfl, S.ex _ _ s, S.ex _ _ s', by rw [r.len, r'.len]; exact hz, fun p hp => q p _ B H (Ex.refl B) S hp (r.append r')⟩
end
end Lw

set_option Elab.async false
set_option linter.all false
set_option maxRecDepth 100000
set_option maxHeartbeats 2000000
namespace Lw
open PySem L2
/-! ## own errors -/
/-- an error class of the program over Exception that is raised without arguments -/
structure Er0 (K : PySem.W.Frag) (mg : Str → Option Value) (x : Str) (C : Addr) : Prop where
  gm : mg x = some (.ref C)
  ex : PySem.W.excIn K C [.type "Exception", .type "BaseException", .type "object"] "Exception.__new__" = true
  kp : PySem.W.keepIn K (.ref C) = true
  sb : PySem.W.subIn K (.ref C) (.type "BaseException") = some true
  ty : PySem.W.typeIn K (.ref C) = some (.type "type")
section
variable {X : Cx} {C : Addr} {x : Str} {p pos : Pos}
theorem pmk_own0 (T : Er0 X.K X.mg x C) (hg : Gl X x) (hdb : (x == ("__debug__" : Str)) = false := by decide) : PMk X (.Call (.Name x p) [] [] pos) (fun _ H Q => Q (.ref C) none H) := by
  intro pins s σ H Q I h
  refine wpAny_Call_Name_kw (ld_glob I hg T.gm ?_ hdb)
  refine PySem.W.callWith_K0 I.kIn T.kp ?_
  show wpAny _ _ (call (.ref C) []) _ _ _
  obtain ⟨bm, N, nm, qn, bs, hdct, sn, sub, ab, col, dd, k0, k1, k2, k3, k5, mN, hC, hN, hni, Tl⟩ := exc_obj I.kIn T.ex
  refine wpAny_call_exc_subT PySem.F.excBase_Exception Tl hC hN hni (fun h' e hm => ?_) (Nat.zero_le _)
  exact mk_of I hm (raises_own T.sb T.ty) h (I.hok.gone hm.new)
end
section
variable {K : PySem.W.Frag} {W : WX} {Γ Γ1 : List G} {M M1 : List MO} {C : Addr} {fs : Flds}
/-- raise X() -/
def tRaise0 (C : Addr) (W : WX) : TS := fun _ σ H => (fun (_ : L2.St) H (Q : XK) => Q (.ref C) none H) σ H fun cls d H' => W cls d σ H'
theorem do_raise0 : Does K W (fun _ σ H => (fun (_ : L2.St) (H : Hp) (Q : XK) => Q (.ref C) none H) σ H fun cls d H' => W cls d σ H') Γ M (.ex C none Γ M) := fun B as F σ H E S O p =>
  p none B [] σ H (Ex.refl B) (by rw [List.append_nil]; exact S) (by rw [List.append_nil]; exact O) rfl
end
end Lw

set_option Elab.async false
set_option linter.all false
set_option maxRecDepth 100000
set_option maxHeartbeats 4000000
namespace Lw
open PySem L2
/-! ## a comprehension whose element may raise: the exception is noted by the def's frame, the block is let go, it flies on -/
section
variable {X : Cx} {u : Value} {s' : Shared} {Eo : XK}
/-- an exception out of a call in the block Y -/
def FX (Y : Cx) (Eo : XK) (u : Value) (s' : Shared) : Prop :=
  ∃ (a : Addr) (G : Heap) (t : Shared) (pins : List (Addr × Obj)) (τ : L2.St) (H : Hp) (cls : Value) (d : Option Addr),
    u = .ref a ∧ Inv Y pins τ H t ∧ (∀ b o, t.heap.get? b = some o → b ∉ frs Y.stack → G.get? b = some o) ∧ t.heap.UpToSlots s'.heap ∧ HandSPX.FlyingZ G Y.stack a (Zc cls d) s'.heap ∧ H a = none ∧ s'.os = t.os ∧ PyProof.Rows.AllBare s'.gens ∧ Eo cls d H
theorem sky_flies {G G2 : Heap} {l : List Env} {a : Addr} {Z Z2 : Obj → Prop} {L : Addr} {h : Heap} (s : Sky G l a Z L h) (f : HandSPX.FlyingZ G2 l a Z2 h) : HandSPX.FlyingZ G l a Z h := by
  obtain ⟨_, _, _, oe, vs, T, oT, ts, he, _, hd, h1, _, _, hT, hdT, h3⟩ := f
  rcases s with ⟨_, _, _, oe', vs', he', _, hd', h1'⟩ | s | ⟨_, _, _, oe', vs', T', oT', ts', he', _, hd', h1', _, _, hT', hdT', h3'⟩
  · rw [he] at he'; cases he'
    rw [hd] at hd'; cases hd'
    rw [h1] at h1'; cases h1'
  · exact s
  · rw [he] at he'; cases he'
    rw [hd] at hd'; cases hd'
    rw [h1] at h1'; cases h1'
    rw [hT] at hT'; cases hT'
    rw [hdT] at hdT'; cases hdT'
    rw [h3] at h3'; cases h3'
/-- a call's exception is of that kind -/
theorem fx_pass {Y : Cx} {σ : L2.St} : PassesAt (L2.CX Y.prog Y.w) (Y.wish (FX Y Eo)) σ Eo := fun pins H s e s' I c => by
  have x := XE.of_call (X := Y) (W := fun cls d _ H => Eo cls d H) I.unwish (fun _ _ _ h => h) c
  obtain ⟨a, G, t, pins', τ, H', cls, d, rfl, J, nb, up, sky, na, os, ag, w⟩ := x
  obtain ⟨a2, G2, H2, cls2, d2, e2, fl, _⟩ := c
  cases e2
  exact ⟨a, G, t, pins', τ, H', cls, d, rfl, J, nb, up, sky_flies sky fl, na, os, ag, w⟩
/-- behind the block: the def's own air -/
theorem fx_lands {pins : List (Addr × Obj)} {σ : L2.St} {H3 : Hp} {s3 : Shared} {scope : Scope} {ce : Env} {fp : List Addr} {W : WX} {use : Option (Value → Sem Unit)} {Qf : Value → Shared → Prop} {acc : Value}
    (hst : X.stack = X.env :: X.outer) (hf : X.env.frame = some X.env.locals) (hcf : ce.frame = X.env.frame) (tk : Takes X W) (I3 : Inv X pins σ H3 s3) (hC : s3.heap.objs.size ≤ ce.locals)
    (hch : ∀ b ∈ fp, (b ∈ X.ex ∨ X.s_0.heap.objs.size ≤ b) ∧ b ≠ X.env.locals ∧ (∀ x c, X.env.cells.lookup x = some c → c ≠ b) ∧ ∀ p ∈ X.pn ++ pins, p.1 ≠ b)
    (x : FX (X.blk s3 H3 scope ce fp) (fun cls d H => W cls d σ H) u s') :
    notedBy (model X.prog X.w) X.A ce (fun v t => compEnds (model X.prog X.w) X.A X.xe use Qf acc ce (.error v) t) u s' := by
  obtain ⟨a, G, t, pins', τ, H', cls, d, rfl, J, nb, up, fl, na, os, ag, w⟩ := x
  have hfr : X.A.frames = some (X.env :: X.outer) := by rw [I3.ok.frames, hst]
  have fl : HandSPX.FlyingZ G (X.env :: X.outer) a (Zc cls d) s'.heap := by rw [← hst]; exact fl
  show wpAny (model X.prog X.w) X.A (noteFrame (.ref a) ce) _ _ s'
  rw [noteFrame_env _ hcf]
  refine HandSPX.looks_onZ Zc.steady hfr hf fl fun h1 hh up1 => ?_
  show CompFails (model X.prog X.w) X.A X.xe ce (.ref a) { s' with heap := h1 }
  obtain ⟨m, hn, _⟩ := J.loc
  have hn1 : h1.Ns ce.locals m := (Heap.Ns.upToSlots hn up).upToSlots up1
  refine ⟨m, hn1, fun h2 m2 hn2 sb => ?_⟩
  obtain ⟨k1, k2, k3, oe, vs, T, oT, ts, he, hz, hd, hv1, hT0, hTe, hT, hdT, hv3⟩ := hh
  have keep : ∀ b o, b ≠ ce.locals → h1.get? b = some o → h2.get? b = some o := fun b o ne e => (sb.2 b ne).trans e
  have isD : ∀ b o zs, h1.get? b = some o → o.data = .fields zs → b ≠ ce.locals := fun b o zs e q z => by
    obtain ⟨o', es, ep, e', q', _⟩ := hn1
    rw [← z, e] at e'
    cases e'
    rw [q] at q'
    cases q'
  have na' := isD a oe vs he hd
  have nT := isD T oT ts hT hdT
  -- the ground without the block
  have gr : ∀ b o, (PySem.W.hideAll G [ce.locals]).get? b = some o → b ≠ ce.locals ∧ G.get? b = some o := fun b o e =>
    ⟨fun z => (by
      rw [PySem.W.hideAll_none [ce.locals] (by simp [z])] at e
      cases e), PySem.W.of_hideAll _ e⟩
  have gn : ∀ b, G.get? b = none → (PySem.W.hideAll G [ce.locals]).get? b = none := fun b e => by
    cases q : (PySem.W.hideAll G [ce.locals]).get? b with
    | none => rfl
    | some o => rw [(gr b o q).2] at e; cases e
  have fr2 : h2.FunFrames (PySem.W.hideAll G [ce.locals]) (X.env :: X.outer) := funFrames_none (Heap.FunFrames.sameBut sb hn2 k3) fun L hL => gn L (k3.mem hL).1
  have held : HandSPX.HeldZ (PySem.W.hideAll G [ce.locals]) (X.env :: X.outer) a (Zc cls d) X.env.locals h2 :=
    ⟨fun b o e => keep b o (gr b o e).1 (k1 b o (gr b o e).2), gn a k2, fr2, oe, vs, T, oT, ts, keep a oe na' he, hz, hd, hv1, gn T hT0, hTe, keep T oT nT hT, hdT, hv3⟩
  unfold passOn
  refine wpAny_bind (wpAny_field (keep a oe na' he) hd hv1 ?_)
  rw [if_neg (show ¬ ((Value.ref T == Value.none) = true) from by simp), hcf, hf]
  refine wpAny_bind (HandSPX.setFlight_onZ held fun h3 hh3 up3 => wpAny_throw (tk _ _ ?_))
  -- the state without the block
  obtain ⟨G2, g1, g2⟩ := restrict t.heap fun b => decide (b ≠ ce.locals)
  have gk : ∀ b, b ≠ ce.locals → G2.get? b = t.heap.get? b := fun b hb => g1 b (decide_eq_true hb)
  have ge : G2.get? ce.locals = none := g2 _ (by simp)
  have old : ∀ b o, s3.heap.get? b = some o → b ≠ ce.locals := fun b o e => Nat.ne_of_lt (Nat.lt_of_lt_of_le (Heap.lt_size e) hC)
  have of2 : ∀ b o, G2.get? b = some o → b ≠ ce.locals ∧ t.heap.get? b = some o := fun b o e => by
    have ne : b ≠ ce.locals := fun z => by rw [z, ge] at e; cases e
    exact ⟨ne, (gk b ne).symm.trans e⟩
  have J2 : Inv X pins σ H' { t with heap := G2 } := by
    have ub := J.base
    refine I3.call' (ch := fp) J.os ⟨fun b o e n h1 h2 => ?_, fun b o e n h1 h2 => ?_, fun b o e n h => ub.free b o e n h, fun b o e h => ?_, ub.tups, ub.frzs, ub.tbls⟩ (fun b o e => ?_) J.bare hch
    · rw [gk b (old b o e)]; exact ub.keep b o e n h1 h2
    · rw [gk b (old b o e)]; exact ub.slot b o e n h1 h2
    · rw [gk b (old b o e)]; exact ub.there b o e h
    · refine (J.hok b o e).stay (fun c v hc q => ?_) (fun _ q => q) fun _ _ q => q
      have fc : H' ce.locals = none := J.free
      have ne : c ≠ ce.locals := fun z => by
        rcases hc with hc | hc
        · rw [← hc, z, fc] at e; cases e
        · rw [z, fc] at hc; cases hc
      rw [gk c ne]; exact q
  refine ⟨a, PySem.W.hideAll G [ce.locals], { t with heap := G2 }, pins, σ, H', cls, d, rfl, J2, fun b o e hb => ?_, fun b o e hnf => ?_, .inr (.inr (by rw [hst]; exact hh3)), na, os, ag, w⟩
  · obtain ⟨ne, q⟩ := of2 b o e
    exact PySem.W.hideAll_get _ (nb b o q hb) (by simp [ne])
  · obtain ⟨ne, q⟩ := of2 b o e
    obtain ⟨sl, q1⟩ := up b o q hnf
    obtain ⟨sl1, q2⟩ := up1 b _ q1 hnf
    obtain ⟨sl3, q3⟩ := up3 b { o with slots := sl1 } (keep b { o with slots := sl1 } ne q2) hnf
    exact ⟨sl3, q3⟩
end

section
variable {X : Cx}
/-- [elt for target in iter if ..], where elt may raise: W is wished of it at the def's slots -/
def tLcX (wi : TI) (g : TG) (tt : TT) (te : XK → TE) (vs : List Nat) (W : WX) : TE := fun σ H Q => tLc wi g tt (te fun cls d H' => W cls d σ H') vs σ H Q
theorem lcX_core {pins : List (Addr × Obj)} {s : Shared} {σ : L2.St} {H : Hp} {Q : L2.VK} {W : WX} {elt tg iter : Expr} {ifs : List Expr} {scope : Scope} {own : List (Str × Nat)} {pos pos' : Pos} {wi : TI} {g : TG} {tt : TT} {te : XK → TE} {use : Option (Value → Sem Unit)} {Qf : Value → Shared → Prop}
    (hst : X.stack = X.env :: X.outer) (hf : X.env.frame = some X.env.locals) (tk : Takes X W) (hc : X.calm = true) (hN : X.N.Nodup) (I : Inv X pins σ H s) (hi : PI X tg iter wi) (ok : BlkOk X.N X.env.scope scope own)
    (hg : ∀ (s : Shared) (H : Hp) (C : Addr) (cl : List (Str × Addr)) (fp : List Addr) (xe : Value → Shared → Prop), PG ((X.blk s H scope (compEnvC scope cl C X.env) fp).wish xe) tg g)
    (ht : ∀ (s : Shared) (H : Hp) (C : Addr) (cl : List (Str × Addr)) (fp : List Addr) (xe : Value → Shared → Prop), PTs ((X.blk s H scope (compEnvC scope cl C X.env) fp).wish xe) ifs tt)
    (he : ∀ (s : Shared) (H : Hp) (C : Addr) (cl : List (Str × Addr)) (fp : List Addr) (Eo : XK), PE ((X.blk s H scope (compEnvC scope cl C X.env) fp).wish (FX (X.blk s H scope (compEnvC scope cl C X.env) fp) Eo)) elt (te Eo))
    (hs : ∀ x, foldedSetIterable iter X.env x = pure x)
    (h : tLcX wi g tt te (own.map (·.2)) W σ H Q)
    (hRR : ∀ D C s' m H', Inv X pins σ H' s' → Q (.ref D) H' → s'.heap.Ns C m → FpOk X pins H' C → ∀ ce : Env, ce.locals = C → compEnds (model X.prog X.w) X.A X.xe use Qf (.ref D) ce (.ok .next) s') :
    wpAny (model X.prog X.w) X.A (comprehension (.ListComp elt [⟨tg, iter, ifs, 0⟩] scope pos) scope X.env pos' (newList []) false (eval iter X.env) use) Qf X.xe s := by
  have fr : ∀ y ∈ scope.names, y.2 = .free → ∃ c, X.env.cells.lookup y.1 = some c := fun y hy e => (ok.free y hy e).elim (fun k => I.ok.has _ (.inl k)) (fun k => I.ok.has _ (.inr k))
  refine comprehension_at (use := use) rfl hs (closure_ok fr) ok.kind (fun y hy e => by rw [ok.uniq y hy, e]) ?_
  refine thn (hi.run pins s σ H _ I h) fun xv s1 hx => thn hx fun itv s2 h2 => ?_
  obtain ⟨it, fp, tn, J, H2, rfl, I2, T, st2, f2, q⟩ := h2
  refine wpAny_newObj_type (newEnv_comp ?_) (by show 0 ≤ sizeLine; decide)
  have hDn : H2 s2.heap.objs.size = none := I2.hok.fresh (Nat.le_refl _)
  obtain ⟨Wl, ⟨m0, w0⟩, turn⟩ := q s2.heap.objs.size hDn
  generalize hs3 : ({ s2 with heap := s2.heap.push { cls := .type "list", data := .seq ([] : List Value).toArray } } : Shared) = s3
  have p3 : s3.heap = s2.heap.push { cls := .type "list", data := .seq ([] : List Value).toArray } := by rw [← hs3]
  have I3 : Inv X pins σ (upd H2 s2.heap.objs.size (.lst [])) s3 := by
    rw [← hs3]
    exact I2.laid (t' := s2.toks) (fun b o e => Heap.get?_push_of_some _ e) (Nat.le_refl _) ⟨Nat.zero_le _, [], 0, .nil, Heap.get?_push_size _ rfl⟩
  have f3 : ∀ b ∈ fp, FpOk X pins (upd H2 s2.heap.objs.size (.lst [])) b ∧ b < s3.heap.objs.size := fun b hb => by
    obtain ⟨o, e, _⟩ := T.obj _ _ st2 b hb
    have lt := Heap.lt_size e
    refine ⟨⟨?_, (f2 b hb).2⟩, by rw [p3, Heap.size_push]; exact Nat.lt_succ_of_lt lt⟩
    rw [upd_ne (Nat.ne_of_lt lt)]; exact (f2 b hb).1
  have st3 : tn 0 s3.heap := T.keep _ _ _ st2 fun b _ o e => by rw [p3]; exact Heap.get?_push_of_some _ e
  generalize hH3 : upd H2 s2.heap.objs.size (.lst []) = H3 at I3 f3 w0
  have I4 := block_start I3 ok hN f3
  generalize hcl : cellsFrom (s3.heap.objs.size + 1) scope.names (cloFrom X.env.cells scope.names []) = cl at I4
  have pg := hg s3 H3 s3.heap.objs.size cl fp
  have pt := ht s3 H3 s3.heap.objs.size cl fp
  have pe := he s3 H3 s3.heap.objs.size cl fp fun cls d H' => W cls d σ H'
  have hcf : (compEnvC scope cl s3.heap.objs.size X.env).frame = X.env.frame := rfl
  have cL : (compEnvC scope cl s3.heap.objs.size X.env).locals = s3.heap.objs.size := rfl
  show codeAny _ _ (.compStart (.ListComp elt [⟨tg, iter, ifs, 0⟩] scope pos) 0 (.ref it) (.ref s2.heap.objs.size) (compEnvC scope cl s3.heap.objs.size X.env)) (compEnds (model X.prog X.w) X.A X.xe use Qf (.ref s2.heap.objs.size) (compEnvC scope cl s3.heap.objs.size X.env)) { s3 with heap := pushCells (s3.heap.push { cls := .type "dict", data := .dict #[] }) scope.names }
  generalize hce : compEnvC scope cl s3.heap.objs.size X.env = ce at I4 pg pt pe hcf cL ⊢
  generalize hs4 : ({ s3 with heap := pushCells (s3.heap.push { cls := .type "dict", data := .dict #[] }) scope.names } : Shared) = s4 at I4 ⊢
  have st4 : tn 0 s4.heap := T.keep _ _ _ st3 fun b _ o e => by rw [← hs4]; exact pushCells_keeps _ _ _ _ (Heap.get?_push_of_some _ e)
  have chk : ∀ b ∈ fp, (b ∈ X.ex ∨ X.s_0.heap.objs.size ≤ b) ∧ b ≠ X.env.locals ∧ (∀ x c, X.env.cells.lookup x = some c → c ≠ b) ∧ ∀ p ∈ X.pn ++ pins, p.1 ≠ b := fun b hb => ⟨(f3 b hb).1.2.2.2.1, (f3 b hb).1.2.1, (f3 b hb).1.2.2.2.2.1, (f3 b hb).1.2.2.2.2.2⟩
  -- the block's contexts: Y lets nothing out, Z lets out what is wished
  have lands : ∀ v t, FX (X.blk s3 H3 scope ce fp) (fun cls d H => W cls d σ H) v t → notedBy (model X.prog X.w) X.A ce (fun v t => compEnds (model X.prog X.w) X.A X.xe use Qf (.ref s2.heap.objs.size) ce (.error v) t) v t := fun v t x =>
    fx_lands hst hf hcf tk I3 (Nat.le_of_eq cL.symm) chk x
  have stat : ∀ {σ' : L2.St} {H' : Hp} {s' : Shared}, Inv (X.blk s3 H3 scope ce fp) [] σ' H' s' → (∀ b ∈ fp, H' b = none) → ∀ b ∈ fp, FpOk (X.blk s3 H3 scope ce fp) [] H' b := fun {σ' H' s'} I' hn b hb =>
    ⟨hn b hb, (I'.ok.exf b hb).1, I'.ok.exfs b hb, .inl hb, fun x c e => (I'.ok.exf b hb).2 x c e, fun p hp => absurd (show p ∈ ([] : List (Addr × Obj)) ++ [] from hp) (by simp)⟩
  have loop : codeAny (model X.prog X.w) X.A (.compLoop (.ListComp elt [⟨tg, iter, ifs, 0⟩] scope pos) 0 (.ref it) (.ref s2.heap.objs.size) ce) (compEnds (model X.prog X.w) X.A X.xe use Qf (.ref s2.heap.objs.size) ce) s4 := by
    refine compLoop_any (fun n s' => ∃ i H', Inv (X.blk s3 H3 scope ce fp) [] (L2.wipe σ (own.map (·.2))) H' s' ∧ tn i s'.heap ∧ (∀ b ∈ fp, H' b = none) ∧ Wl i n H') ?_ m0 ⟨0, H3, I4, st4, fun b hb => (f3 b hb).1.1, w0⟩
    rintro n s5 ⟨i, H5, I5, st5, n5, w5⟩
    rcases turn i n H5 w5 with ⟨stop, qq⟩ | ⟨go, Nx, hNx, step⟩
    · refine thnF (T.done (X.blk s3 H3 scope ce fp) rfl rfl rfl hc i [] s5 _ H5 (fun _ _ => False) I5 (stat I5 n5) st5 stop) fun r s6 ⟨hr, I6⟩ => ?_
      subst hr
      have I7 : Inv X pins σ H5 s6 := I3.call' (ch := fp) I6.os I6.base I6.hok I6.bare chk
      have nC : H5 s3.heap.objs.size = none := by
        have z : H5 ce.locals = none := I6.free
        rw [cL] at z; exact z
      obtain ⟨m, hn, _⟩ := I6.loc
      have hn : s6.heap.Ns ce.locals m := hn
      rw [cL] at hn
      exact hRR _ s3.heap.objs.size s6 m H5 I7 qq hn (I3.fpOk (Nat.le_refl _) nC) ce cL
    · refine thnF (T.item (X.blk s3 H3 scope ce fp) rfl rfl rfl hc i [] s5 _ H5 (fun _ _ => False) I5 (stat I5 n5) st5 go) fun r s6 ⟨u, hr, h6⟩ => ?_
      subst hr
      refine thnF h6 fun _ s7 ⟨x, H7, I7, r7, y7, st7, n7⟩ => ?_
      have I7' := I7.pinned (stat I7 n7) (T.obj _ _ st7)
      refine wpAny_mono ((pg _).run _ s7 _ H7 x u _ (I7'.wish (FX (X.blk s3 H3 scope ce fp) (fun cls d H => W cls d σ H))) r7 (step x H7 y7)) (fun _ s8 ⟨σ8, H8, I8, hw8, q8⟩ => ?_) fun v t => lands v t
      refine wpAny_mono ((pt _).run _ s8 σ8 H8 _ I8 q8) (fun b s9 ⟨H9, I9, q9⟩ => ?_) fun v t => lands v t
      have fin : ∀ {s' : Shared} {H' : Hp}, Inv (X.blk s3 H3 scope ce fp) ([] ++ pinsAt fp s7.heap) σ8 H' s' → Nx H' → ∃ m, m < n ∧ ∃ i H', Inv (X.blk s3 H3 scope ce fp) [] (L2.wipe σ (own.map (·.2))) H' s' ∧ tn i s'.heap ∧ (∀ b ∈ fp, H' b = none) ∧ Wl i m H' := fun {s' H'} I' nx => by
        obtain ⟨m', hm, w'⟩ := hNx H' nx
        have pin' : ∀ b ∈ fp, ∀ o, s7.heap.get? b = some o → s'.heap.get? b = some o ∧ H' b = none := fun b hb o e => by
          have z := I'.pin (b, o) (List.mem_append_right _ (List.mem_append_right _ (mem_pinsAt hb e)))
          exact ⟨z.1, z.2.1⟩
        refine ⟨m', hm, i + 1, H', (I'.unpinned (pins := [])).weak (by rw [← hw8, L2.wipe_length]) (fun j v e => ?_), T.keep _ _ _ st7 fun b hb o e => (pin' b hb o e).1, fun b hb => ?_, w'⟩
        · rw [← hw8] at e
          exact (wipe_some e).1
        · obtain ⟨o, e, _⟩ := T.obj _ _ st7 b hb
          exact (pin' b hb o e).2
      cases b with
      | false =>
        simp only [Bool.false_eq_true, if_false] at q9 ⊢
        exact fin I9.unwish q9
      | true =>
        simp only [if_true] at q9 ⊢
        refine wpAny_mono (pe.run _ s9 σ8 H9 _ I9 q9) (fun z s10 ⟨yv, H10, I10, r10, acc, hD10, hz10, nx⟩ => ?_) fun v t => lands v t
        exact app_ok (X := X.blk s3 H3 scope ce fp) I10.unwish hD10 hz10 r10 fun s11 I11 => fin I11 nx
  exact codeAny_compStart_list loop (T.self X.A 0 _ _ _ st4 loop)
theorem pe_lcX {W : WX} {elt tg iter : Expr} {ifs : List Expr} {scope : Scope} {own : List (Str × Nat)} {pos : Pos} {wi : TI} {g : TG} {tt : TT} {te : XK → TE} (hst : X.stack = X.env :: X.outer) (hf : X.env.frame = some X.env.locals) (tk : Takes X W) (hc : X.calm = true) (hN : X.N.Nodup) (hi : PI X tg iter wi) (ok : BlkOk X.N X.env.scope scope own)
    (hg : ∀ (s : Shared) (H : Hp) (C : Addr) (cl : List (Str × Addr)) (fp : List Addr) (xe : Value → Shared → Prop), PG ((X.blk s H scope (compEnvC scope cl C X.env) fp).wish xe) tg g)
    (ht : ∀ (s : Shared) (H : Hp) (C : Addr) (cl : List (Str × Addr)) (fp : List Addr) (xe : Value → Shared → Prop), PTs ((X.blk s H scope (compEnvC scope cl C X.env) fp).wish xe) ifs tt)
    (he : ∀ (s : Shared) (H : Hp) (C : Addr) (cl : List (Str × Addr)) (fp : List Addr) (Eo : XK), PE ((X.blk s H scope (compEnvC scope cl C X.env) fp).wish (FX (X.blk s H scope (compEnvC scope cl C X.env) fp) Eo)) elt (te Eo))
    (hs : ∀ x, foldedSetIterable iter X.env x = pure x := by intro _; rfl) :
    PE X (.ListComp elt [⟨tg, iter, ifs, 0⟩] scope pos) (tLcX wi g tt te (own.map (·.2)) W) := by
  refine ⟨fun pins s σ H Q I h => ?_⟩
  rw [eval_ListComp]
  refine lcX_core hst hf tk hc hN I hi ok hg ht he hs h fun D C s' m H' I' q hn f ce hC => ⟨m, by rw [hC]; exact hn, fun h'' sb => ?_⟩
  obtain ⟨f0, f1, f2, f3, f4, f5⟩ := f
  rw [hC] at sb
  exact ⟨.ref D, H', I'.turned (t' := s'.toks) (fun b o hb e => (sb.2 b hb).trans e) f0 f1 f3 f4 f5, rfl, q⟩
end
end Lw

set_option Elab.async false
set_option linter.all false
set_option maxRecDepth 100000
set_option maxHeartbeats 4000000
namespace Lw
open PySem L2
section
variable {X : Cx}
/-- y = [..] where an element may raise -/
theorem ps_setLcX {W : WX} {i : Nat} {y : Str} {py : Pos} {elt tg iter : Expr} {ifs : List Expr} {scope : Scope} {own : List (Str × Nat)} {pos spos : Pos} {wi : TI} {g : TG} {tt : TT} {te : XK → TE} (hst : X.stack = X.env :: X.outer) (hf : X.env.frame = some X.env.locals) (tk : Takes X W) (hc : X.calm = true) (hN : X.N.Nodup) (hy : X.N[i]? = some y) (hyl : X.env.scope.names.lookup y = some .local)
    (hsw : swapsWith (.ListComp elt [⟨tg, iter, ifs, 0⟩] scope pos) (some (.Name y py)) spos.line X.env = pure true) (hi : PI X tg iter wi) (ok : BlkOk X.N X.env.scope scope own)
    (hg : ∀ (s : Shared) (H : Hp) (C : Addr) (cl : List (Str × Addr)) (fp : List Addr) (xe : Value → Shared → Prop), PG ((X.blk s H scope (compEnvC scope cl C X.env) fp).wish xe) tg g)
    (ht : ∀ (s : Shared) (H : Hp) (C : Addr) (cl : List (Str × Addr)) (fp : List Addr) (xe : Value → Shared → Prop), PTs ((X.blk s H scope (compEnvC scope cl C X.env) fp).wish xe) ifs tt)
    (he : ∀ (s : Shared) (H : Hp) (C : Addr) (cl : List (Str × Addr)) (fp : List Addr) (Eo : XK), PE ((X.blk s H scope (compEnvC scope cl C X.env) fp).wish (FX (X.blk s H scope (compEnvC scope cl C X.env) fp) Eo)) elt (te Eo))
    (hs : ∀ x, foldedSetIterable iter X.env x = pure x := by intro _; rfl) :
    PS X (.Assign [.Name y py] (.ListComp elt [⟨tg, iter, ifs, 0⟩] scope pos) spos) (tAsg (tLcX wi g tt te (own.map (·.2)) W) (gName i)) := by
  refine ⟨fun pins s σ H D I h => ?_⟩
  rw [exec_Assign_Name_used _ _ _ _ hsw]
  refine wpAny_bind (wpAny_standAt (wpAny_bind ?_))
  show wpAny _ X.A (do let _ ← comprehension (.ListComp elt [⟨tg, iter, ifs, 0⟩] scope pos) scope X.env (firstIterPos [⟨tg, iter, ifs, 0⟩] pos) (newList []) false (eval iter X.env) (some (assign (.Name y py) X.env))) _ _ s
  have h : tLcX wi g tt te (own.map (·.2)) W σ H (fun x H1 => gName i x σ H1 D.nx) := h
  refine wpAny_bind (thn (lcX_core (Qf := fun _ s' => SP X pins D .next s') hst hf tk hc hN I hi ok hg ht he hs h fun L C s' m H' I' q hn f ce hC => ?_) fun _ s' hq => wpAny_pure (wpAny_pure hq))
  show wpAny _ _ (assign (.Name y py) X.env (.ref L)) _ _ _
  refine wpAny_assign_Name (store_ok2 (v := V.ref L) I' hN hy (.inl hyl) rfl (fun s2 I2 ⟨a, sb, ha⟩ => ?_) (.inr hyl))
  obtain ⟨f0, f1, f2, f3, f4, f5⟩ := f
  have neC : C ≠ a := fun z => by
    rcases ha with q | q
    · exact f1 (z.trans q)
    · exact f4 y a q z.symm
  refine ⟨m, by rw [hC]; exact hn.sameBut sb neC, fun h3 sb3 => ?_⟩
  rw [hC] at sb3
  exact ⟨_, H', I2.turned (t' := s2.toks) (fun b o hb e => (sb3.2 b hb).trans e) f0 f1 f3 f4 f5, q⟩
end

section
variable {K : PySem.W.Frag} {B F H : Hp} {as : List Addr} {p : Addr} {o : HO} {Γ Γ1 : List G} {M M1 M2 M3 : List MO} {ds xs es : List D} {d : D} {wi wi1 : TI} {tg tg1 : TG} {tt tt1 : TT} {te ta : TE} {vs vs1 : List Nat} {W : WX} {C : Addr} {fs : Flds} {tu : TS} {tA : TA} {gs : List G} {g : G} {c : Con}
theorem Sat.lessF (S : Sat K B as M (upd F p o) H) (hf : F p = none) : Sat K B as M F H := by
  refine ⟨S.ex, fun a u e => ?_, S.len, S.nd, S.old, S.mu, S.gn, fun a xs e => ?_⟩
  · have ne : a ≠ p := ne_of_none e hf
    exact S.fr a u (by rw [upd_ne ne]; exact e)
  · have ne : a ≠ p := ne_of_none e hf
    exact S.nt a xs (by rw [upd_ne ne]; exact e)
theorem ev_lcX {te : XK → TE} (h : ∀ Eo : XK, EvN K (tLc wi tg tt (te Eo) vs) Γ M xs M1) : EvN K (tLcX wi tg tt te vs W) Γ M xs M1 := fun B as F σ H S O Q q => h _ B as F σ H S O Q q
def WofE' (E : XK) : WX := fun cls d _ H => E cls d H
/-- turn n raises, the turns ahead of it go through -/
theorem evx_lcX {te : XK → TE} (hi : EvI K wi Γ M ds M1) (n : Nat) (hn : n < ds.length) (m : Nat → List MO) (outs : Nat → List D) (hm : m 0 = M1) (ho : outs 0 = []) (hz : ∀ i, i < ds.length → (outs i).length < sizeLine)
    (hb : ∀ (Eo : XK) i d, i < n → ds[i]? = some d → ∃ Γ1 js b M2, BG K tg d (wipeG Γ vs) Γ1 js ∧ (∀ i, i ∈ js → i ∈ vs) ∧ EvT K tt Γ1 (m i) b M2 ∧
      (b = true → ∃ y, Ev K (te Eo) Γ1 M2 (.dat y) (m (i + 1)) ∧ outs (i + 1) = outs i ++ [y]) ∧ (b = false → M2 = m (i + 1) ∧ outs (i + 1) = outs i))
    (hx : ∀ (Eo : XK) d, ds[n]? = some d → ∃ Γ1 js M2, BG K tg d (wipeG Γ vs) Γ1 js ∧ (∀ i, i ∈ js → i ∈ vs) ∧ EvT K tt Γ1 (m n) true M2 ∧ EvX K (WofE' Eo) (te Eo) Γ1 M2 C fs M3) :
    EvX K W (tLcX wi tg tt te vs W) Γ M C fs M3 := by
  intro B as F σ H S O Q q
  refine hi B as F σ H S O _ fun J B1 H1 e1 S1 wk => ?_
  intro Dl hD
  have fD : F Dl = none := by
    cases e : F Dl with
    | none => rfl
    | some u => rw [(S1.fr Dl u e).1] at hD; cases hD
  refine ⟨fun i k H' => k = n - i ∧ i ≤ n ∧ ∃ B' ws, Ex B1 B' ∧ Sat K B' as (m i) (upd F Dl (.lst ws)) H' ∧ Reps K B' ws (outs i),
    ⟨n, by simp, Nat.zero_le _, B1, [], Ex.refl _, by rw [hm]; exact S1.frame hD, by rw [ho]; exact .nil⟩, ?_⟩
  rintro i k H' ⟨rfl, hle, B', ws, e', S', rw'⟩
  have hlt : i < ds.length := Nat.lt_of_le_of_lt hle hn
  refine .inr ⟨wk.goes i H' hlt (e'.trans S'.ex), fun H2 => i < n ∧ ∃ B2 ws, Ex B1 B2 ∧ Sat K B2 as (m (i + 1)) (upd F Dl (.lst ws)) H2 ∧ Reps K B2 ws (outs (i + 1)), fun H2 q2 => ⟨n - (i + 1), by omega, rfl, q2.1, q2.2⟩, fun x H2 y => ?_⟩
  obtain ⟨d, hd, hy⟩ := wk.yields i H' x H2 hlt (e'.trans S'.ex) y
  obtain ⟨B3, e3, S3, r3⟩ := hy B' _ _ _ e' S'
  by_cases hin : i < n
  · obtain ⟨Γ1, js, b, M2, hbg, hjs, ht, hyes, hno⟩ := hb (fun cls d H' => W cls d σ H') i d hin hd
    refine hbg B3 _ (L2.wipe σ vs) H2 x S3.ex (((O.up e1).wipe vs).up (e'.trans e3)) r3 _ fun σ3 O3 l3 n3 => ⟨wipe_ext (by rw [l3, L2.wipe_length]) n3 hjs, ?_⟩
    refine ht B3 as _ σ3 H2 S3 O3 _ fun B4 H4 e4 S4 => ?_
    cases b with
    | true =>
      obtain ⟨y', hy', ho'⟩ := hyes rfl
      refine hy' B4 as _ σ3 H4 S4 (O3.up e4) _ fun v B5 H5 e5 S5 r5 => ?_
      obtain ⟨T5, hD5, nB5⟩ := S5.unframe fD
      refine ⟨ws, hD5, by rw [rw'.len]; exact hz i hlt, hin, B5, ws ++ [v], ((e'.trans e3).trans e4).trans e5, ?_, by rw [ho']; exact (rw'.up ((e3.trans e4).trans e5)).append (.cons r5 .nil)⟩
      have z := T5.frame (o := .lst (ws ++ [v])) del_same
      rw [show upd (del H5 Dl) Dl (.lst (ws ++ [v])) = upd H5 Dl (.lst (ws ++ [v])) from by
        rw [← upd_del hD5, upd_upd, upd_del hD5]] at z
      exact z
    | false =>
      obtain ⟨rfl, ho'⟩ := hno rfl
      exact ⟨hin, B4, ws, (e'.trans e3).trans e4, S4, by rw [ho']; exact rw'.up (e3.trans e4)⟩
  · have ei : i = n := by omega
    subst ei
    obtain ⟨Γ1, js, M2, hbg, hjs, ht, hev⟩ := hx (fun cls d H' => W cls d σ H') d hd
    refine hbg B3 _ (L2.wipe σ vs) H2 x S3.ex (((O.up e1).wipe vs).up (e'.trans e3)) r3 _ fun σ3 O3 l3 n3 => ⟨wipe_ext (by rw [l3, L2.wipe_length]) n3 hjs, ?_⟩
    refine ht B3 as _ σ3 H2 S3 O3 _ fun B4 H4 e4 S4 => ?_
    exact hev B4 as _ σ3 H4 S4 (O3.up e4) _ fun dd B5 H5 e5 S5 x5 => q dd B5 H5 ((((e1.trans e').trans e3).trans e4).trans e5) (S5.lessF fD) x5
/-- [f y z for y in ys for z in zs y], nothing changed on the way -/
theorem ev_lc2F {α β : Type} {td : α → D} {ue : β → D} {ys : List α} {zs : α → List β} (f : α → β → D) (hi : EvI K wi Γ M (ys.map td) M1) (hz : (ys.flatMap fun y => (zs y).map (f y)).length < sizeLine)
    (hb : ∀ y, y ∈ ys → ∃ Γ1 js, BG K tg (td y) (wipeG Γ vs) Γ1 js ∧ (∀ i, i ∈ js → i ∈ vs) ∧ EvI K wi1 Γ1 M1 ((zs y).map ue) M1 ∧
      ∀ z, z ∈ zs y → ∃ Γ2 ks, BG K tg1 (ue z) (wipeG Γ1 vs1) Γ2 ks ∧ (∀ i, i ∈ ks → i ∈ vs1) ∧ Ev K te Γ2 M1 (.dat (f y z)) M1) :
    EvN K (tLc2 wi tg tYes wi1 tg1 tYes te vs vs1) Γ M (ys.flatMap fun y => (zs y).map (f y)) M1 := by
  intro B as F σ H S O Q q
  refine hi B as F σ H S O _ fun J B1 H1 e1 S1 wk => ?_
  intro Dl hD
  have fD : F Dl = none := by
    cases e : F Dl with
    | none => rfl
    | some u => rw [(S1.fr Dl u e).1] at hD; cases hD
  have pre : ∀ i, (ys.take i).flatMap (fun y => (zs y).map (f y)) <+: ys.flatMap (fun y => (zs y).map (f y)) := fun i => by
    have e : ys = ys.take i ++ ys.drop i := (List.take_append_drop i ys).symm
    exact ⟨(ys.drop i).flatMap (fun y => (zs y).map (f y)), by rw [← List.flatMap_append, List.take_append_drop]⟩
  refine ⟨fun i k H' => k = ys.length - i ∧ i ≤ ys.length ∧ ∃ B' ws, Ex B1 B' ∧ Sat K B' as M1 (upd F Dl (.lst ws)) H' ∧ Reps K B' ws ((ys.take i).flatMap fun y => (zs y).map (f y)),
    ⟨ys.length, by simp, Nat.zero_le _, B1, [], Ex.refl _, S1.frame hD, .nil⟩, ?_⟩
  rintro i k H' ⟨rfl, hle, B', ws, e', S', rw'⟩
  by_cases hlt : i < ys.length
  · refine .inr ⟨wk.goes i H' (by simpa using hlt) (e'.trans S'.ex), fun H2 => ∃ B2 ws, Ex B1 B2 ∧ Sat K B2 as M1 (upd F Dl (.lst ws)) H2 ∧ Reps K B2 ws ((ys.take (i + 1)).flatMap fun y => (zs y).map (f y)), fun H2 q2 => ⟨ys.length - (i + 1), by omega, rfl, hlt, q2⟩, fun x H2 y => ?_⟩
    obtain ⟨d, hd, hy⟩ := wk.yields i H' x H2 (by simpa using hlt) (e'.trans S'.ex) y
    obtain ⟨B3, e3, S3, r3⟩ := hy B' _ _ _ e' S'
    rw [List.getElem?_map, List.getElem?_eq_getElem hlt] at hd
    cases (show td ys[i] = d from Option.some.inj hd)
    obtain ⟨Γ1, js, hbg, hjs, hin, hel⟩ := hb ys[i] (List.getElem_mem hlt)
    refine hbg B3 _ (L2.wipe σ vs) H2 x S3.ex (((O.up e1).wipe vs).up (e'.trans e3)) r3 _ fun σ3 O3 l3 n3 => ⟨wipe_ext (by rw [l3, L2.wipe_length]) n3 hjs, ?_⟩
    show wi1 σ3 H2 _
    refine hin B3 as _ σ3 H2 S3 O3 _ fun J1 B4 H4 e4 S4 wk1 => ?_
    refine ⟨fun j k H' => k = (zs ys[i]).length - j ∧ j ≤ (zs ys[i]).length ∧ ∃ B' ws', Ex B4 B' ∧ Sat K B' as M1 (upd F Dl (.lst ws')) H' ∧ Reps K B' ws' (((ys.take i).flatMap fun y => (zs y).map (f y)) ++ ((zs ys[i]).take j).map (f ys[i])),
      ⟨(zs ys[i]).length, by simp, Nat.zero_le _, B4, ws, Ex.refl _, S4, by simpa using rw'.up (e3.trans e4)⟩, ?_⟩
    rintro j k H5 ⟨rfl, hjl, B5, ws5, e5, S5, rw5⟩
    have whole : ((ys.take (i + 1)).flatMap fun y => (zs y).map (f y)) = ((ys.take i).flatMap fun y => (zs y).map (f y)) ++ (zs ys[i]).map (f ys[i]) := by
      rw [List.take_add_one, List.getElem?_eq_getElem hlt, List.flatMap_append]
      simp only [Option.toList_some, List.flatMap_cons, List.flatMap_nil, List.append_nil]
    by_cases hjt : j < (zs ys[i]).length
    · refine .inr ⟨wk1.goes j H5 (by simpa using hjt) (e5.trans S5.ex), fun H6 => ∃ B2 ws', Ex B4 B2 ∧ Sat K B2 as M1 (upd F Dl (.lst ws')) H6 ∧ Reps K B2 ws' (((ys.take i).flatMap fun y => (zs y).map (f y)) ++ ((zs ys[i]).take (j + 1)).map (f ys[i])), fun H6 q2 => ⟨(zs ys[i]).length - (j + 1), by omega, rfl, hjt, q2⟩, fun x' H6 y' => ?_⟩
      obtain ⟨d', hd', hy'⟩ := wk1.yields j H5 x' H6 (by simpa using hjt) (e5.trans S5.ex) y'
      obtain ⟨B6, e6, S6, r6⟩ := hy' B5 _ _ _ e5 S5
      rw [List.getElem?_map, List.getElem?_eq_getElem hjt] at hd'
      cases (show ue (zs ys[i])[j] = d' from Option.some.inj hd')
      obtain ⟨Γ2, ks, hbg2, hks, hev⟩ := hel (zs ys[i])[j] (List.getElem_mem hjt)
      refine hbg2 B6 _ (L2.wipe σ3 vs1) H6 x' S6.ex ((((O3.up e4).wipe vs1).up e5).up e6) r6 _ fun σ7 O7 l7 n7 => ⟨wipe_ext (by rw [l7, L2.wipe_length]) n7 hks, ?_⟩
      show te σ7 H6 _
      refine hev B6 as _ σ7 H6 S6 O7 _ fun v B8 H8 e8 S8 r8 => ?_
      obtain ⟨T8, hD8, nB8⟩ := S8.unframe fD
      refine ⟨ws5, hD8, ?_, B8, ws5 ++ [v], (e5.trans e6).trans e8, ?_, ?_⟩
      · rw [rw5.len]
        have p1 := (pre (i + 1)).length_le
        rw [whole] at p1
        simp only [List.length_append, List.length_map, List.length_take] at p1 ⊢
        omega
      · have z := T8.frame (o := .lst (ws5 ++ [v])) del_same
        rw [show upd (del H8 Dl) Dl (.lst (ws5 ++ [v])) = upd H8 Dl (.lst (ws5 ++ [v])) from by
          rw [← upd_del hD8, upd_upd, upd_del hD8]] at z
        exact z
      · rw [List.take_add_one, List.getElem?_eq_getElem hjt]
        simp only [Option.toList_some, List.map_append, List.map_cons, List.map_nil]
        rw [← List.append_assoc]
        exact (rw5.up (e6.trans e8)).append (.cons r8 .nil)
    · have ej : j = (zs ys[i]).length := by omega
      subst ej
      refine .inl ⟨by have z := wk1.stops H5 (e5.trans S5.ex); simpa using z, B5, ws5, ((e'.trans e3).trans e4).trans e5, S5, ?_⟩
      rw [whole]
      simpa using rw5
  · have ei : i = ys.length := by omega
    subst ei
    refine .inl ⟨by have z := wk.stops H' (e'.trans S'.ex); simpa using z, ?_⟩
    obtain ⟨T, hDl, nB⟩ := S'.unframe fD
    have z := q Dl ws B' (del H' Dl) (e1.trans e') T del_same (by simpa using rw')
    rw [upd_del hDl] at z
    exact z

/-! ## instances -/
theorem lookup_zip {B : Hp} {f : Str} {d : D} : ∀ {ns : List Str} {vs : List V} {ds : List D}, ns.length = vs.length → Reps K B vs ds → (ns.zip ds).lookup f = some d → ∃ v, (ns.zip vs).lookup f = some v ∧ Rep K B v d
  | [], _, _, _, _, h => by simp at h
  | n :: ns, v :: vs, d' :: ds, hl, .cons r rs, h => by
    simp only [List.zip_cons_cons, List.lookup_cons] at h ⊢
    cases e : f == n with
    | true =>
      simp only [e] at h
      cases h
      exact ⟨v, by simp, r⟩
    | false =>
      simp only [e] at h
      obtain ⟨w, q1, q2⟩ := lookup_zip (by simpa using hl) rs h
      exact ⟨w, by simpa using q1, q2⟩
  | _ :: _, [], _, hl, _, _ => by simp at hl
  | _ :: _, _ :: _, [], _, r, _ => by cases r
theorem ev_fld {C : Addr} {ns : List Str} {f : Str} (h : Ev K ta Γ M (.dat (.obj C ns ds)) M1) (cl : Cls K C) (na : NoAttr K C f) (hf : (ns.zip ds).lookup f = some d) : Ev K (tFld K ta f) Γ M (.dat d) M1 := fun B as F σ H S O Q q =>
  h B as F σ H S O _ fun v B1 H1 e1 S1 r1 => by
    cases r1 with
    | obj hb hl rs =>
      obtain ⟨v, q1, q2⟩ := lookup_zip hl rs hf
      exact ⟨_, C, _, _, v, rfl, S1.ex _ _ hb, cl, na, q1, q v B1 H1 e1 S1 q2⟩
theorem ev_fldM {C : Addr} {ns : List Str} {f : Str} {j : Nat} (h : Ev K ta Γ M (.mr j) M1) (hm : M1[j]? = some (.ins C ns ds)) (cl : Cls K C) (na : NoAttr K C f) (hf : (ns.zip ds).lookup f = some d) : Ev K (tFld K ta f) Γ M (.dat d) M1 := fun B as F σ H S O Q q =>
  h B as F σ H S O _ fun v B1 H1 e1 S1 r1 => by
    obtain ⟨a, rfl, ha⟩ := r1
    obtain ⟨nb, o, ho, dx, vs, rfl, hl, rs⟩ := S1.mu j a _ ha hm (by intro z; cases z)
    obtain ⟨v, q1, q2⟩ := lookup_zip hl rs hf
    exact ⟨_, C, _, _, v, rfl, ho, cl, na, q1, q v B1 H1 e1 S1 q2⟩
/-- self.f = e, f new -/
theorem putF_new {f : Str} {y : V} : ∀ {ns : List Str} {vs : List V}, ns.length = vs.length → f ∉ ns → putF f y (ns.zip vs) = (ns ++ [f]).zip (vs ++ [y])
  | [], [], _, _ => by simp [putF]
  | n :: ns, v :: vs, hl, hn => by
    have ne : n ≠ f := fun z => hn (by simp [z])
    have ih := putF_new (f := f) (y := y) (ns := ns) (vs := vs) (by simpa using hl) (fun z => hn (by simp [z]))
    simp only [List.zip_cons_cons, List.cons_append]
    unfold putF
    rw [if_neg ne, ih]
  | [], _ :: _, hl, _ => by simp at hl
  | _ :: _, [], hl, _ => by simp at hl
end
end Lw

set_option Elab.async false
set_option linter.all false
set_option maxRecDepth 100000
set_option maxHeartbeats 4000000
namespace Lw
open PySem L2
/-! ## new instances -/
/-- C(e, ..): what its __init__ raises is wished for at the caller's slots -/
def tMakeS (C : Addr) (sp : Sp) (Es : L2.St → XK) (t : TA) : TE := fun σ H Q => t σ H fun vs H1 => ∀ x dx, H1 x = none → H1 dx = none → dx ≠ x →
  sp (.ref x :: vs) (upd (upd H1 dx (.own x)) x (.ins C dx [])) (fun v H2 => v = .non ∧ Q (.ref x) H2) (Es σ)
section
variable {X : Cx} {CX : CXT} {k i : Nat} {f C : Addr} {fd : FuncData} {ps : List Str} {sp : Sp} {Es : L2.St → XK} {x : Str} {p pos : Pos} {e : Expr} {es : List Expr} {t : TA}
/-- a call's exception passes although a new thing was laid ahead of it -/
def PassesNew (CX : CXT) (X : Cx) (σ : L2.St) (E : XK) : Prop := ∀ (pins : List (Addr × Obj)) (H : Hp) (s : Shared) (e : Value) (s' : Shared), Inv X pins σ H s → CX X.stack H s E e s' → X.xe e s'
theorem run_makeS {pins : List (Addr × Obj)} {σ : L2.St} {H : Hp} {s : Shared} {Q : L2.VK} {us : List Value} {vs : List V} (M : Mk X.K C f) (F : FnOk X.prog X.w X.K X.mg X.base CX k f fd ps sp) (hr : Room (k + 1) X.A) (hb : Binds X.K fd ps [])
    (hx : PassesAt CX X σ (Es σ)) (I : Inv X pins σ H s) (r : Vals vs us)
    (h : ∀ x dx, H x = none → H dx = none → dx ≠ x → sp (.ref x :: vs) (upd (upd H dx (.own x)) x (.ins C dx [])) (fun v H2 => v = .non ∧ Q (.ref x) H2) (Es σ)) :
    wpAny (model X.prog X.w) X.A (call (.ref C) us) (EP X pins σ Q) X.xe s := by
  have hq := h (s.heap.objs.size + 1) s.heap.objs.size (I.hok.fresh (Nat.le_succ _)) (I.hok.fresh (Nat.le_refl _)) (Nat.ne_of_lt (Nat.lt_succ_self _))
  have J := Inv.made (C := C) I
  have r2 : Vals (V.ref (s.heap.objs.size + 1) :: vs) (Value.ref (s.heap.objs.size + 1) :: us) := .cons rfl r
  have hl : (Value.ref (s.heap.objs.size + 1) :: us).length = ps.length := by
    rw [← F.len _ _ _ _ hq]
    exact r2.length.symm
  have bd := hb _ (Value.ref (s.heap.objs.size + 1) :: us) J.kIn (by rw [List.append_nil]; exact hl)
  rw [List.append_nil] at bd
  refine wpAny_call (make_map (f := f) I.kIn M.makes M.init (beq_iff_eq.mp M.fn) (codeAny_mono (F.run _ X.stack _ _ ⟨Value.ref (s.heap.objs.size + 1) :: us, []⟩ _ _ _ (Es σ) (hr.make C us []) (J.env0.make C us []) bd r2 hq) fun z s' hz => ?_))
  rcases z with z | fl
  · exact hx pins _ _ z s' J hz
  · cases fl with
    | ret u =>
      obtain ⟨v, H', I3, rv, ev, q3⟩ := J.after hz
      subst ev
      exact ⟨rv, ⟨V.ref (s.heap.objs.size + 1), H', I3, rfl, q3⟩⟩
    | next => exact False.elim hz
    | brk => exact False.elim hz
    | cont => exact False.elim hz
theorem pe_makeS (M : Mk X.K C f) (F : FnOk X.prog X.w X.K X.mg X.base CX k f fd ps sp) (hr : Room (k + 1) X.A) (hg : Gl X x) (hm : X.mg x = some (.ref C)) (hb : Binds X.K fd ps []) (hx : ∀ σ, PassesAt CX X σ (Es σ))
    (ha : PA X (e :: es) t) (hdb : (x == ("__debug__" : Str)) = false := by decide) (he : starEach (e :: es) X.env = (false, eval e X.env) :: starEach es X.env := by rfl) (hpl : (backTo pos (starEach es X.env)).any (·.1) = false := by rfl) :
    PE X (.Call (.Name x p) (e :: es) [] pos) (tMakeS C sp Es t) := by
  refine ⟨fun pins s σ H Q I h => wpAny_Call_Name_kw (ld_glob I hg hm ?_ hdb)⟩
  exact PySem.W.callWith_K (h₀ := X.base) I.ok.mod.kin M.kp (thn (ha.run pos pins s σ H _ I h) fun us s1 ⟨vs, H1, I1, r, q⟩ => ⟨I1.kIn, run_makeS M F hr hb (hx σ) I1 r q⟩) he hpl
/-- .. where the class is what a local name holds -/
def tMakeL (j : Nat) (C : Addr) (sp : Sp) (Es : L2.St → XK) (t : TA) : TE := fun σ H Q => σ[j]? = some (some (.ref C)) ∧ tMakeS C sp Es t σ H Q
theorem pe_makeL (M : Mk X.K C f) (F : FnOk X.prog X.w X.K X.mg X.base CX k f fd ps sp) (hr : Room (k + 1) X.A) (hN : X.N[i]? = some x) (hv : Vis X.env.scope x) (hb : Binds X.K fd ps []) (hx : ∀ σ, PassesAt CX X σ (Es σ))
    (ha : PA X (e :: es) t) (hdb : (x == ("__debug__" : Str)) = false := by decide) (hcd : (x == ("__classdict__" : Str)) = false := by decide) (he : starEach (e :: es) X.env = (false, eval e X.env) :: starEach es X.env := by rfl) (hpl : (backTo pos (starEach es X.env)).any (·.1) = false := by rfl) :
    PE X (.Call (.Name x p) (e :: es) [] pos) (tMakeL i C sp Es t) := by
  refine ⟨fun pins s σ H Q I h => ?_⟩
  obtain ⟨hs, ht⟩ := h
  refine wpAny_Call_Name_kw (thn ((pe_var (pos := p) hN hv hdb hcd).run pins s σ H (fun v H1 => v = .ref C ∧ H1 = H) I ⟨.ref C, hs, rfl, rfl⟩) fun u s1 ⟨v, H1, I1, r1, q1⟩ => ?_)
  obtain ⟨rfl, rfl⟩ := q1
  cases r1
  exact PySem.W.callWith_K (h₀ := X.base) I.ok.mod.kin M.kp (thn (ha.run pos pins s1 σ _ _ I1 ht) fun us s2 ⟨vs, H2, I2, r, q⟩ => ⟨I2.kIn, run_makeS M F hr hb (hx σ) I2 r q⟩) he hpl
end
section
variable {K : PySem.W.Frag} {B F H : Hp} {as : List Addr} {Γ Γ1 : List G} {M M1 M2 M3 : List MO} {ds xs es : List D} {d : D} {te ta tv : TE} {W : WX} {C C' : Addr} {fs : Flds} {tA : TA} {gs : List G} {g : G} {c : Con} {ns : List Str} {f : Str} {j i : Nat}
theorem append_at {α : Type} {l : List α} {x : α} : (l ++ [x])[l.length]? = some x := by simp
theorem ev_makeS {Es : L2.St → XK} (ha : EvA K tA Γ M (ds.map G.dat) M1) (hc : c (.mr 0 :: ds.map G.dat) [.ins C [] []] (.ret (.dat .non) [.ins C ns es])) : Ev K (tMakeS C (spOf K c) Es tA) Γ M (.dat (.obj C ns es)) M1 := fun B as F σ H S O Q q =>
  ha B as F σ H S O _ fun vs B1 H1 e1 S1 r1 => by
    intro x dx hx hdx ne
    have S2 := S1.new (o := .own x) hdx
    have e2 : Ex B1 (upd B1 dx (.own x)) := Ex.new (S1.nb hdx)
    have hx2 : (upd H1 dx (.own x)) x = none := by rw [upd_ne (Ne.symm ne)]; exact hx
    have S3 := S2.newM (m := .ins C [] []) (o := .ins C dx []) hx2 ⟨dx, [], rfl, rfl, .nil⟩ (by intro z; cases z)
    have ha' : (as ++ [x])[as.length]? = some x := append_at
    have hm' : (M1 ++ [MO.ins C [] []])[as.length]? = some (.ins C [] []) := by rw [S1.len]; exact append_at
    refine ⟨.mr 0 :: ds.map G.dat, _, [x], [.ins C [] []], _, _, hc, .cons ⟨x, rfl, rfl⟩ (r1.up e2).ofDats, S3.call1 ha' hm' (by intro z; cases z), fun v B3 H3 e3 S4 r3 => ?_⟩
    cases r3
    refine ⟨rfl, ?_⟩
    have S5 := S3.back1 ha' hm' (by intro z; cases z) (by intro z; cases z) e3 S4
    have hl : as.length < (M1 ++ [MO.ins C [] []]).length := by rw [S1.len]; simp
    obtain ⟨nb, o, ho, dx', vs', rfl, hlen, rr⟩ := S5.mu as.length x (.ins C ns es) ha' (by rw [List.getElem?_set_self hl]) (by intro z; cases z)
    have S6 := (S5.freeze ha' ho nb).take as.length
    rw [List.take_left] at S6
    have hM : (((M1 ++ [MO.ins C [] []]).set as.length (.ins C ns es)).set as.length .gone).take as.length = M1 := by
      rw [List.set_set, S1.len]
      simp
    rw [hM] at S6
    exact q _ _ H3 (((e1.trans e2).trans e3).trans (Ex.new nb)) S6 (Rep.obj upd_same hlen (rr.up (Ex.new nb)))
theorem ev_makeL {Es : L2.St → XK} (hi : Γ[i]? = some (.dat (.cls C))) (h : Ev K (tMakeS C (spOf K c) Es tA) Γ M g M1) : Ev K (tMakeL i C (spOf K c) Es tA) Γ M g M1 := fun B as F σ H S O Q q => by
  obtain ⟨v, e, r⟩ := O.at' i _ hi (by intro z; cases z)
  cases r
  exact ⟨e, h B as F σ H S O Q q⟩
theorem evx_makeS {Es : L2.St → XK} {m' : MO} (hE : ∀ σ cls dd H, W cls dd σ H → Es σ cls dd H) (ha : EvA K tA Γ M (ds.map G.dat) M1) (hc : c (.mr 0 :: ds.map G.dat) [.ins C [] []] (.exc C' fs [m'])) (hn : m' ≠ .gone) : EvX K W (tMakeS C (spOf K c) Es tA) Γ M C' fs M1 := fun B as F σ H S O Q q =>
  ha B as F σ H S O _ fun vs B1 H1 e1 S1 r1 => by
    intro x dx hx hdx ne
    have S2 := S1.new (o := .own x) hdx
    have e2 : Ex B1 (upd B1 dx (.own x)) := Ex.new (S1.nb hdx)
    have hx2 : (upd H1 dx (.own x)) x = none := by rw [upd_ne (Ne.symm ne)]; exact hx
    have S3 := S2.newM (m := .ins C [] []) (o := .ins C dx []) hx2 ⟨dx, [], rfl, rfl, .nil⟩ (by intro z; cases z)
    have ha' : (as ++ [x])[as.length]? = some x := append_at
    have hm' : (M1 ++ [MO.ins C [] []])[as.length]? = some (.ins C [] []) := by rw [S1.len]; exact append_at
    refine ⟨.mr 0 :: ds.map G.dat, _, [x], [.ins C [] []], _, _, hc, .cons ⟨x, rfl, rfl⟩ (r1.up e2).ofDats, S3.call1 ha' hm' (by intro z; cases z), fun dd B3 H3 e3 S4 x3 => hE _ _ _ _ ?_⟩
    have S5 := (S3.back1 ha' hm' (by intro z; cases z) hn e3 S4).take as.length
    rw [List.take_left] at S5
    have hM : ((M1 ++ [MO.ins C [] []]).set as.length m').take as.length = M1 := by
      rw [S1.len]
      simp
    rw [hM] at S5
    exact q dd B3 H3 ((e1.trans e2).trans e3) S5 x3
/-- self.f = e in __init__ -/
theorem do_fld (hv : Ev K tv Γ M (.dat d) M1) (ha : Ev K ta Γ M1 (.mr j) M2) (hm : M2[j]? = some (.ins C ns ds)) (cl : Cls K C) (na : NoAttr K C f) (hf : f ∉ ns) (hz : ns.length < 1000) :
    Does K W (sFld K ta tv f) Γ M (.nx Γ (M2.set j (.ins C (ns ++ [f]) (ds ++ [d])))) := fun B as F σ H E S O p =>
  hv B as F σ H S O _ fun v B1 H1 e1 S1 r1 => ha B1 as F σ H1 S1 (O.up e1) _ fun u B2 H2 e2 S2 r2 => by
    obtain ⟨a, rfl, hj⟩ := r2
    obtain ⟨nb, o, ho, dx, vs, rfl, hl, rr⟩ := S2.mu j a _ hj hm (by intro z; cases z)
    refine ⟨a, C, dx, _, rfl, ho, cl, na, by rw [List.length_zip]; omega, ?_⟩
    rw [putF_new hl hf]
    exact p.nx0 (e1.trans e2) (S2.write hj hm (by intro z; cases z) ⟨dx, vs ++ [v], rfl, by simp [hl], rr.append (.cons (Rep.up r1 e2) .nil)⟩ (by intro z; cases z)) (O.up (e1.trans e2))
theorem lookup_none {α : Type} {f : Str} : ∀ {ns : List Str} {vs : List α}, f ∉ ns → (ns.zip vs).lookup f = none
  | [], _, _ => rfl
  | _ :: _, [], _ => rfl
  | n :: ns, v :: vs, h => by
    have ne : ¬ f = n := fun z => h (by simp [z])
    simp only [List.zip_cons_cons, List.lookup_cons]
    rw [beq_eq_false_iff_ne.mpr ne]
    exact lookup_none fun z => h (by simp [z])
/-- a constant of the class -/
theorem ev_conM {v : V} {u : Value} (ha : Ev K ta Γ M (.mr j) M1) (hm : M1[j]? = some (.ins C ns ds)) (cl : Cls K C) (k : L2.Con K C f v u) (hf : f ∉ ns) (l : Lit v d) : Ev K (tCon K ta f) Γ M (.dat d) M1 := fun B as F σ H S O Q q =>
  ha B as F σ H S O _ fun w B1 H1 e1 S1 r1 => by
    obtain ⟨a, rfl, hj⟩ := r1
    obtain ⟨nb, o, ho, dx, vs, rfl, hl, rr⟩ := S1.mu j a _ hj hm (by intro z; cases z)
    exact ⟨a, C, dx, _, v, u, rfl, ho, cl, k, lookup_none hf, q v B1 H1 e1 S1 l.rep⟩
/-- o.m(e, ..), o an instance that stays as it is -/
theorem ev_meth {m : Str} {E : XK} (ho : Ev K ta Γ M (.dat (.obj C ns es)) M1) (hm : m ∉ ns) (ha : EvA K tA Γ M1 (ds.map G.dat) M2) (hc : c (.dat (.obj C ns es) :: ds.map G.dat) [] (.ret (.dat d) [])) : Ev K (tMeth C m (spOf K c) [] E ta tA) Γ M (.dat d) M2 := fun B as F σ H S O Q q =>
  ho B as F σ H S O _ fun v B1 H1 e1 S1 r1 => by
    have r0 := r1
    cases r1 with
    | obj hb hl rs =>
      refine ⟨_, _, _, rfl, S1.ex _ _ hb, lookup_none hm, ha B1 as F σ H1 S1 (O.up e1) _ fun vs B2 H2 e2 S2 r2 => ?_⟩
      rw [List.append_nil]
      exact ⟨_, B2, [], [], _, _, hc, .cons (Rep.up r0 e2) r2.ofDats, S2.call0, fun v B3 H3 e3 S3 r3 => q v B3 H3 ((e1.trans e2).trans e3) (S2.back0 e3 S3) r3⟩
end
end Lw

set_option Elab.async false
set_option linter.all false
set_option maxRecDepth 100000
set_option maxHeartbeats 4000000
namespace Lw
open PySem L2
/-! ## isinstance against built-in types, told by the data -/
def plainD (d : D) : Bool := (kindD d).isSome
def isIB : D → Bool
  | .int _ => true | .bl _ => true | _ => false
def isBl : D → Bool
  | .bl _ => true | _ => false
def isI : D → Bool
  | .int _ => true | _ => false
def isTup : D → Bool
  | .tup _ => true | _ => false
def isLst : D → Bool
  | .lst _ => true | .fz _ => true | _ => false
def isStr : D → Bool
  | .str _ => true | _ => false
theorem kit_int : kitB "NoneType" "int" = some false ∧ kitB "bool" "int" = some true ∧ kitB "int" "int" = some true ∧ kitB "str" "int" = some false ∧ kitB "tuple" "int" = some false ∧ kitB "list" "int" = some false := by decide +kernel
theorem kit_bool : kitB "NoneType" "bool" = some false ∧ kitB "bool" "bool" = some true ∧ kitB "int" "bool" = some false ∧ kitB "str" "bool" = some false ∧ kitB "tuple" "bool" = some false ∧ kitB "list" "bool" = some false := by decide +kernel
theorem kit_tuple : kitB "NoneType" "tuple" = some false ∧ kitB "bool" "tuple" = some false ∧ kitB "int" "tuple" = some false ∧ kitB "str" "tuple" = some false ∧ kitB "tuple" "tuple" = some true ∧ kitB "list" "tuple" = some false := by decide +kernel
theorem kit_list : kitB "NoneType" "list" = some false ∧ kitB "bool" "list" = some false ∧ kitB "int" "list" = some false ∧ kitB "str" "list" = some false ∧ kitB "tuple" "list" = some false ∧ kitB "list" "list" = some true := by decide +kernel
theorem kit_str : kitB "NoneType" "str" = some false ∧ kitB "bool" "str" = some false ∧ kitB "int" "str" = some false ∧ kitB "str" "str" = some true ∧ kitB "tuple" "str" = some false ∧ kitB "list" "str" = some false := by decide +kernel
section
variable {K : PySem.W.Frag} {Γ : List G} {M M1 : List MO} {d : D} {ta : TE}
theorem rc_isInt (h : plainD d = true) : RC K (rIsi K) [.dat d, .dat (.ty "int")] M (.dat (.bl (isIB d))) := by
  obtain ⟨a, b, c, d', e, f⟩ := kit_int
  cases d <;> first | exact rc_isi rfl a | exact rc_isi rfl b | exact rc_isi rfl c | exact rc_isi rfl d' | exact rc_isi rfl e | exact rc_isi rfl f | cases h
theorem rc_isBool (h : plainD d = true) : RC K (rIsi K) [.dat d, .dat (.ty "bool")] M (.dat (.bl (isBl d))) := by
  obtain ⟨a, b, c, d', e, f⟩ := kit_bool
  cases d <;> first | exact rc_isi rfl a | exact rc_isi rfl b | exact rc_isi rfl c | exact rc_isi rfl d' | exact rc_isi rfl e | exact rc_isi rfl f | cases h
theorem rc_isTuple (h : plainD d = true) : RC K (rIsi K) [.dat d, .dat (.ty "tuple")] M (.dat (.bl (isTup d))) := by
  obtain ⟨a, b, c, d', e, f⟩ := kit_tuple
  cases d <;> first | exact rc_isi rfl a | exact rc_isi rfl b | exact rc_isi rfl c | exact rc_isi rfl d' | exact rc_isi rfl e | exact rc_isi rfl f | cases h
theorem rc_isList (h : plainD d = true) : RC K (rIsi K) [.dat d, .dat (.ty "list")] M (.dat (.bl (isLst d))) := by
  obtain ⟨a, b, c, d', e, f⟩ := kit_list
  cases d <;> first | exact rc_isi rfl a | exact rc_isi rfl b | exact rc_isi rfl c | exact rc_isi rfl d' | exact rc_isi rfl e | exact rc_isi rfl f | cases h
theorem rc_isStr (h : plainD d = true) : RC K (rIsi K) [.dat d, .dat (.ty "str")] M (.dat (.bl (isStr d))) := by
  obtain ⟨a, b, c, d', e, f⟩ := kit_str
  cases d <;> first | exact rc_isi rfl a | exact rc_isi rfl b | exact rc_isi rfl c | exact rc_isi rfl d' | exact rc_isi rfl e | exact rc_isi rfl f | cases h
def isRow : D → Bool
  | .tup _ => true | .lst _ => true | .fz _ => true | _ => false
theorem ev_isRow (h : Ev K ta Γ M (.dat d) M1) (hd : plainD d = true) : Ev K (tCB (rIsiT K) (tCons ta (tCons (tTup (tCons (tC (.ty "tuple")) (tCons (tC (.ty "list")) tNil))) tNil))) Γ M (.dat (.bl (isRow d))) M1 := by
  obtain ⟨a, b, c, d', e, f⟩ := kit_tuple
  obtain ⟨a2, b2, c2, d2, e2, f2⟩ := kit_list
  cases d <;> first | exact ev_isi2 h rfl a a2 | exact ev_isi2 h rfl b b2 | exact ev_isi2 h rfl c c2 | exact ev_isi2 h rfl d' d2 | exact ev_isi2 h rfl e e2 | exact ev_isi2 h rfl f f2 | cases hd
/-- len of a row -/
def rowD : D → List D
  | .tup xs => xs | .lst xs => xs | .fz xs => xs | _ => []
theorem rc_lenRow (h : isRow d = true) : RC K (rLenS K) [.dat d] M (.dat (.int (rowD d).length)) := by
  cases d <;> first | exact rc_lenT | exact rc_lenL | exact rc_lenF | cases h
theorem rv_ixRow {i : Int} {x : D} (h : isRow d = true) (hx : atI (rowD d) i = some x) : RV K (rIx K) (.dat d) (.dat (.int i)) M (.dat x) := by
  cases d <;> first | exact rv_ixT' hx | exact rv_ixL' hx | exact rv_ixF' hx | cases h
end
end Lw

set_option Elab.async false
set_option linter.all false
set_option maxRecDepth 100000
set_option maxHeartbeats 4000000
namespace Lw
open PySem L2
theorem bt_int : bootBuiltins "int" = some (.type "int") := by rfl
theorem bt_bool : bootBuiltins "bool" = some (.type "bool") := by rfl
theorem bt_str : bootBuiltins "str" = some (.type "str") := by rfl
theorem bt_tuple : bootBuiltins "tuple" = some (.type "tuple") := by rfl
theorem bt_list : bootBuiltins "list" = some (.type "list") := by rfl
section
variable {P : Program} {w : World} {K : PySem.W.Frag} {mg : Str → Option Value} {base : Heap}
open PyProof.Rows in
theorem def_okT {x qual : Str} {st : Stmt} {f : Addr} {fd : FuncData} {N ps : List Str} {k : Nat} {c : Con} (F : Fun K x qual st f fd) (S : FnScope N ps (defScope st)) (hl : ∀ gs M r, c gs M r → gs.length = ps.length)
    (hb : ∀ (cdv : Value) (A : Around) (outer : List Env) (s : Shared) (H : Hp) (E : XK), Room k (A.deeper (envOfC qual (defScope st) s.heap.objs.size f cdv)) → Takes (cxOf (L2.CX P w) P w K mg base N qual (defScope st) f cdv A outer s H E) (WofE E) →
      ∃ t, PSs (cxOf (L2.CX P w) P w K mg base N qual (defScope st) f cdv A outer s H E) (defBody st) t ∧ ∀ gs M r, c gs M r → Done K E t (gs ++ List.replicate (N.length - gs.length) .no) M r) :
    FnOk P w K mg base (L2.CX P w) (k + 1) f fd ps (spOf K c) :=
  def_ok F S hl fun cdv A outer s H E hr => hb cdv A outer s H E hr (takes_of rfl rfl rfl rfl)
theorem done_ret0 {E : XK} {t : TS} {Γ : List G} {d d' : D} {M2 : List MO} (h : Does K (WofE E) t Γ [] (.rt (.dat d') M2)) (e : d' = d) : Done K E t Γ [] (.ret (.dat d) []) := ⟨rfl, d, _, rfl, .inl (e ▸ h)⟩
theorem done_exc0 {E : XK} {t : TS} {Γ Γ' : List G} {C : Addr} {fs : Flds} {M2 : List MO} (h : Does K (WofE E) t Γ [] (.ex C fs Γ' M2)) : Done K E t Γ [] (.exc C fs []) := ⟨rfl, Γ', _, h⟩
end
/-! ## promises of defs on data alone -/
def cF (n : Nat) (p : List D → Prop) (f : List D → D) : Con := fun gs M r => ∃ ds, ds.length = n ∧ p ds ∧ gs = ds.map G.dat ∧ M = [] ∧ r = .ret (.dat (f ds)) []
theorem cF_len {n : Nat} {p : List D → Prop} {f : List D → D} {gs : List G} {M : List MO} {r : R1} (h : cF n p f gs M r) : gs.length = n := by
  obtain ⟨d, rfl, _, rfl, _⟩ := h; simp
theorem cF_at {n : Nat} {p : List D → Prop} {f : List D → D} {ds : List D} (h : p ds) (hl : ds.length = n) : cF n p f (ds.map G.dat) [] (.ret (.dat (f ds)) []) := ⟨ds, hl, h, rfl, rfl, rfl⟩
end Lw
namespace Lw
open PySem L2
def c1 (p : D → Prop) (f : D → D) : Con := fun gs M r => ∃ d, p d ∧ gs = [.dat d] ∧ M = [] ∧ r = .ret (.dat (f d)) []
theorem c1_len {p : D → Prop} {f : D → D} {gs : List G} {M : List MO} {r : R1} (h : c1 p f gs M r) : gs.length = 1 := by
  obtain ⟨d, _, rfl, _⟩ := h; rfl
theorem c1_at {p : D → Prop} {f : D → D} {d : D} (h : p d) : c1 p f ([d].map G.dat) [] (.ret (.dat (f d)) []) := ⟨d, h, rfl, rfl, rfl⟩
def c2 (p : D → D → Prop) (f : D → D → D) : Con := fun gs M r => ∃ d e, p d e ∧ gs = [.dat d, .dat e] ∧ M = [] ∧ r = .ret (.dat (f d e)) []
theorem c2_len {p : D → D → Prop} {f : D → D → D} {gs : List G} {M : List MO} {r : R1} (h : c2 p f gs M r) : gs.length = 2 := by
  obtain ⟨d, e, _, rfl, _⟩ := h; rfl
theorem c2_at {p : D → D → Prop} {f : D → D → D} {d e : D} (h : p d e) : c2 p f ([d, e].map G.dat) [] (.ret (.dat (f d e)) []) := ⟨d, e, h, rfl, rfl, rfl⟩
/-- two ints -/
def ci2 (p : Int → Int → Prop) (f : Int → Int → D) : Con := fun gs M r => ∃ a b, p a b ∧ gs = [.dat (.int a), .dat (.int b)] ∧ M = [] ∧ r = .ret (.dat (f a b)) []
theorem ci2_len {p : Int → Int → Prop} {f : Int → Int → D} {gs : List G} {M : List MO} {r : R1} (h : ci2 p f gs M r) : gs.length = 2 := by
  obtain ⟨d, e, _, rfl, _⟩ := h; rfl
theorem ci2_at {p : Int → Int → Prop} {f : Int → Int → D} {a b : Int} (h : p a b) : ci2 p f ([D.int a, D.int b].map G.dat) [] (.ret (.dat (f a b)) []) := ⟨a, b, h, rfl, rfl, rfl⟩
/-- what a def gives back or raises -/
inductive Ou where
  | ok (d : D)
  | er (C : Addr) (fs : Flds)
def Ou.r : Ou → R1
  | .ok d => .ret (.dat d) []
  | .er C fs => .exc C fs []
def cx1 (p : D → Prop) (f : D → Ou) : Con := fun gs M r => ∃ d, p d ∧ gs = [.dat d] ∧ M = [] ∧ r = (f d).r
theorem cx1_len {p : D → Prop} {f : D → Ou} {gs : List G} {M : List MO} {r : R1} (h : cx1 p f gs M r) : gs.length = 1 := by
  obtain ⟨d, _, rfl, _⟩ := h; rfl
theorem cx1_ok {p : D → Prop} {f : D → Ou} {d e : D} (h : p d) (q : f d = .ok e) : cx1 p f ([d].map G.dat) [] (.ret (.dat e) []) := ⟨d, h, rfl, rfl, by rw [q]; rfl⟩
theorem cx1_er {p : D → Prop} {f : D → Ou} {d : D} {C : Addr} {fs : Flds} (h : p d) (q : f d = .er C fs) : cx1 p f ([d].map G.dat) [] (.exc C fs []) := ⟨d, h, rfl, rfl, by rw [q]; rfl⟩
def cx2 (p : D → D → Prop) (f : D → D → Ou) : Con := fun gs M r => ∃ d e, p d e ∧ gs = [.dat d, .dat e] ∧ M = [] ∧ r = (f d e).r
theorem cx2_len {p : D → D → Prop} {f : D → D → Ou} {gs : List G} {M : List MO} {r : R1} (h : cx2 p f gs M r) : gs.length = 2 := by
  obtain ⟨d, e, _, rfl, _⟩ := h; rfl
theorem cx2_ok {p : D → D → Prop} {f : D → D → Ou} {d e g : D} (h : p d e) (q : f d e = .ok g) : cx2 p f ([d, e].map G.dat) [] (.ret (.dat g) []) := ⟨d, e, h, rfl, rfl, by rw [q]; rfl⟩
theorem cx2_er {p : D → D → Prop} {f : D → D → Ou} {d e : D} {C : Addr} {fs : Flds} (h : p d e) (q : f d e = .er C fs) : cx2 p f ([d, e].map G.dat) [] (.exc C fs []) := ⟨d, e, h, rfl, rfl, by rw [q]; rfl⟩
/-! ## ratios -/
def low (p q : Int) : Int × Int := (p / ((Nat.gcd p.natAbs q.natAbs : Nat) : Int), q / ((Nat.gcd p.natAbs q.natAbs : Nat) : Int))
abbrev rD (x : Int × Int) : D := .tup [.int x.1, .int x.2]
/-- the ratio that an argument tells -/
def ratRow : List D → Option (Int × Int)
  | [.int p, .int q] => if 1 ≤ q then some (low p q) else none
  | _ => none
def ratD : D → Option (Int × Int)
  | .int i => some (i, 1)
  | .tup xs => ratRow xs
  | .lst xs => ratRow xs
  | .fz xs => ratRow xs
  | _ => none
def plain1 (d : D) : Bool := plainD d && (rowD d).all plainD
theorem plain1_d {d : D} (h : plain1 d = true) : plainD d = true := by unfold plain1 at h; simp at h; exact h.1
theorem ratD_row {d : D} (h : isRow d = true) : ratD d = ratRow (rowD d) := by cases d <;> first | rfl | cases h
theorem isI_eq (d : D) : (isIB d && !isBl d) = isI d := by cases d <;> rfl
end Lw
namespace Lw
open PySem L2
section
variable {K : PySem.W.Frag} {Γ Γ1 : List G} {M M1 M2 M3 : List MO} {g g1 g2 : G} {gs : List G} {te ta tb : TE} {tt tu : TT} {tA : TA} {d : D} {xs ds : List D} {c : Con} {W : WX} {C : Addr} {fs : Flds} {j : Nat} {m m' : MO}
def EvDs (K : PySem.W.Frag) (tA : TA) (Γ : List G) (M : List MO) (ds : List D) (M1 : List MO) : Prop := EvA K tA Γ M (ds.map G.dat) M1
theorem ed_nil : EvDs K tNil Γ M [] M := ea_nil
theorem ed_cons (h : Ev K te Γ M (.dat d) M1) (hs : EvDs K tA Γ M1 ds M2) : EvDs K (tCons te tA) Γ M (d :: ds) M2 := ea_cons h hs
theorem ev_tupD (h : EvDs K tA Γ M ds M1) (hz : ds.length ≤ sizeLine := by decide) : Ev K (tTup tA) Γ M (.dat (.tup ds)) M1 := ev_tup h hz
theorem ev_lstD (h : EvDs K tA Γ M ds M1) (hz : ds.length ≤ sizeLine := by decide) : EvN K (tLst tA) Γ M ds M1 := ev_lst h hz
theorem ev_call {Es : L2.St → XK} (ha : EvDs K tA Γ M ds M1) (hc : c (ds.map G.dat) [] (.ret (.dat d) [])) : Ev K (tCallS (spOf K c) Es tA) Γ M (.dat d) M1 := ev_call0 ha hc
theorem evx_call {Es : L2.St → XK} (hE : ∀ σ cls dd H, W cls dd σ H → Es σ cls dd H) (ha : EvDs K tA Γ M ds M1) (hc : c (ds.map G.dat) [] (.exc C fs [])) : EvX K W (tCallS (spOf K c) Es tA) Γ M C fs M1 := evx_call0 hE ha hc
theorem ev_callM {Es : L2.St → XK} (h0 : Ev K te Γ M (.mr j) M1) (ha : EvDs K tA Γ M1 ds M2) (hm : M2[j]? = some m) (hc : c (.mr 0 :: ds.map G.dat) [m] (.ret (.dat d) [m'])) (hn : m ≠ .gone) (hn' : m' ≠ .gone) :
    Ev K (tCallS (spOf K c) Es (tCons te tA)) Γ M (.dat d) (M2.set j m') := ev_call1 (ea_cons h0 ha) hm hc hn hn'
/-- len, sum and the like of data -/
theorem ev_cbD {r : List V → Hp → L2.VK → Prop} (h : EvDs K tA Γ M ds M1) (hr : RC K r (ds.map G.dat) M1 g) : Ev K (tCB r tA) Γ M g M1 := ev_cb h hr
end
end Lw
namespace Lw
open PySem L2
/-! ## what a block gives in the end -/
def Ou.w (M : List MO) : Ou → R1
  | .ok d => .ret (.dat d) M
  | .er C fs => .exc C fs M
def Re (K : PySem.W.Frag) (W : WX) (t : TS) (Γ : List G) (M : List MO) (M' : List MO) : Ou → Prop
  | .ok d => ∃ M2, Does K W t Γ M (.rt (.dat d) (M' ++ M2))
  | .er C fs => ∃ Γ' M2, Does K W t Γ M (.ex C fs Γ' (M' ++ M2))
section
variable {K : PySem.W.Frag} {W : WX} {Γ Γ1 Γ2 : List G} {M M1 M2 M3 M' : List MO} {g : G} {te ta tb : TE} {tt : TT} {tu tw tz : TS} {d : D} {o o' : Ou} {C : Addr} {fs : Flds}
theorem re_done {E : XK} (h : Re K (WofE E) tu Γ M M' o) (hl : M'.length = M.length) : Done K E tu Γ M (o.w M') := by
  cases o with
  | ok d => obtain ⟨M2, h⟩ := h; exact ⟨hl, d, M2, rfl, .inl h⟩
  | er C fs => obtain ⟨Γ', M2, h⟩ := h; exact ⟨hl, Γ', M2, h⟩
theorem re_done0 {E : XK} (h : Re K (WofE E) tu Γ [] [] o) : Done K E tu Γ [] o.r := by
  have := re_done h rfl
  cases o <;> exact this
theorem re_doneR {E : XK} (h : Re K (WofE E) tu Γ [] [] (.ok d)) : Done K E tu Γ [] (.ret (.dat d) []) := re_done0 h
theorem re_is (h : Re K W tu Γ M M' o) (e : o = o') : Re K W tu Γ M M' o' := e ▸ h
theorem re_seq (h1 : Does K W tu Γ M (.nx Γ1 M1)) (h2 : Re K W tw Γ1 M1 M' o) : Re K W (tSeq tu tw) Γ M M' o := by
  cases o with
  | ok d => obtain ⟨M2, h⟩ := h2; exact ⟨M2, do_seq h1 h⟩
  | er C fs => obtain ⟨Γ', M2, h⟩ := h2; exact ⟨Γ', M2, do_seq h1 h⟩
theorem re_cut (h1 : Re K W tu Γ M M' o) : Re K W (tSeq tu tw) Γ M M' o := by
  cases o with
  | ok d => obtain ⟨M2, h⟩ := h1; exact ⟨M2, do_rt h⟩
  | er C fs => obtain ⟨Γ', M2, h⟩ := h1; exact ⟨Γ', M2, do_ex h⟩
theorem re_next (h : Re K W tu Γ M M' o) : Re K W (tSeq tNext tu) Γ M M' o := re_seq do_next h
theorem re_if {b : Bool} (h : EvT K tt Γ M b M1) (h1 : b = true → Re K W tu Γ M1 M' o) (h2 : b = false → Re K W tw Γ M1 M' o) : Re K W (tIfS tt tu tw) Γ M M' o := by
  cases b with
  | true => cases o with
    | ok d => obtain ⟨M2, h1⟩ := h1 rfl; exact ⟨M2, do_if h (fun _ => h1) (fun z => by cases z)⟩
    | er C fs => obtain ⟨Γ', M2, h1⟩ := h1 rfl; exact ⟨Γ', M2, do_if h (fun _ => h1) (fun z => by cases z)⟩
  | false => cases o with
    | ok d => obtain ⟨M2, h1⟩ := h2 rfl; exact ⟨M2, do_if h (fun z => by cases z) (fun _ => h1)⟩
    | er C fs => obtain ⟨Γ', M2, h1⟩ := h2 rfl; exact ⟨Γ', M2, do_if h (fun z => by cases z) (fun _ => h1)⟩
/-- if: leave .., then the rest -/
theorem re_ifs {b : Bool} (h : EvT K tt Γ M b M1) (h1 : b = true → Re K W (tSeq tu tz) Γ M1 M' o) (h2 : b = false → Re K W (tSeq tw tz) Γ M1 M' o) : Re K W (tSeq (tIfS tt tu tw) tz) Γ M M' o := by
  cases b with
  | true => cases o with
    | ok d => obtain ⟨M2, h1⟩ := h1 rfl; exact ⟨M2, do_ifs h (fun _ => h1) (fun z => by cases z)⟩
    | er C fs => obtain ⟨Γ', M2, h1⟩ := h1 rfl; exact ⟨Γ', M2, do_ifs h (fun _ => h1) (fun z => by cases z)⟩
  | false => cases o with
    | ok d => obtain ⟨M2, h1⟩ := h2 rfl; exact ⟨M2, do_ifs h (fun z => by cases z) (fun _ => h1)⟩
    | er C fs => obtain ⟨Γ', M2, h1⟩ := h2 rfl; exact ⟨Γ', M2, do_ifs h (fun z => by cases z) (fun _ => h1)⟩
/-- the common form: if: leave, else go on -/
theorem re_ifq {b : Bool} (h : EvT K tt Γ M b M1) (h1 : b = true → Re K W tu Γ M1 M' o) (h2 : b = false → Re K W tz Γ M1 M' o) : Re K W (tSeq (tIfS tt tu tNext) tz) Γ M M' o :=
  re_ifs h (fun e => re_cut (h1 e)) (fun e => re_next (h2 e))
theorem re_ret (h : Ev K te Γ M (.dat d) M1) : Re K W (tRet te) Γ M [] (.ok d) := ⟨M1, do_ret h⟩
theorem re_retM (h : Ev K te Γ M (.dat d) (M' ++ M2)) : Re K W (tRet te) Γ M M' (.ok d) := ⟨M2, do_ret h⟩
theorem re_retN : Re K W tRetN Γ M [] (.ok .non) := ⟨M, do_retN⟩
theorem re_raise0 : Re K W (fun _ σ H => (fun (_ : L2.St) (H : Hp) (Q : XK) => Q (.ref C) none H) σ H fun cls d H' => W cls d σ H') Γ M [] (.er C none) := ⟨_, _, do_raise0⟩
theorem re_retX (h : EvX K W te Γ M C fs M1) : Re K W (tRet te) Γ M [] (.er C fs) := ⟨_, _, do_retX h⟩
theorem re_asgX {tg : TG} (h : EvX K W te Γ M C fs M1) : Re K W (tSeq (tAsg te tg) tw) Γ M [] (.er C fs) := ⟨_, _, do_ex (do_asgX h)⟩
theorem re_exc (h : Does K W tu Γ M (.ex C fs Γ1 M1)) : Re K W tu Γ M [] (.er C fs) := ⟨_, _, h⟩
end
end Lw
namespace Lw
open PySem L2
theorem row2 {xs : List D} (h : xs.length = 2) : ∃ a b, xs = [a, b] := by
  match xs, h with
  | [a, b], _ => exact ⟨a, b, rfl⟩
theorem isI_int {d : D} (h : isI d = true) : ∃ i, d = .int i := by cases d <;> first | exact ⟨_, rfl⟩ | cases h
theorem ratRow_none {xs : List D} (h : xs.length ≠ 2) : ratRow xs = none := by
  unfold ratRow
  split
  · exact absurd rfl h
  · rfl
theorem ratRow_0 {a b : D} (h : isI a = false ∨ isI b = false) : ratRow [a, b] = none := by
  unfold ratRow
  split
  · rename_i e; simp at e; obtain ⟨rfl, rfl⟩ := e; rcases h with h | h <;> cases h
  · rfl
theorem ratD_none {d : D} (h : isI d = false) (h' : isRow d = false) : ratD d = none := by cases d <;> first | rfl | (cases h; done) | (cases h'; done)
theorem plain1_row {d : D} (h : plain1 d = true) : ∀ x ∈ rowD d, plainD x = true := by unfold plain1 at h; simp at h; exact h.2
end Lw

namespace Lw
open PySem L2
def sm (n : Nat) (x : Int) : Prop := x.natAbs < 2 ^ n
theorem sm_up {a b : Nat} {x : Int} (h : sm a x) (l : a ≤ b) : sm b x := Nat.lt_of_lt_of_le h (Nat.pow_le_pow_right (by omega) l)
theorem sm_mul {a b : Nat} {x y : Int} (h : sm a x) (h' : sm b y) : sm (a + b) (x * y) := wide_lt h h'
theorem sm_neg {a : Nat} {x : Int} (h : sm a x) : sm a (-x) := by unfold sm at *; rw [Int.natAbs_neg]; exact h
theorem sm_add {a : Nat} {x y : Int} (h : sm a x) (h' : sm a y) : sm (a + 1) (x + y) := by
  unfold sm at *
  have := Int.natAbs_add_le x y
  rw [Nat.pow_succ]; omega
theorem sm_sub {a : Nat} {x y : Int} (h : sm a x) (h' : sm a y) : sm (a + 1) (x - y) := by
  rw [Int.sub_eq_add_neg]; exact sm_add h (sm_neg h')
theorem sm_div {a : Nat} {x y : Int} (h : sm a x) (hy : 0 ≤ y) : sm a (x / y) := by
  unfold sm at *
  exact Nat.lt_of_le_of_lt (Int.natAbs_ediv_le_natAbs x y) h
theorem mulW {a b : Nat} {x y : Int} (h : sm a x) (h' : sm b y) (h0 : 0 < a) (h1 : 0 < b) (hab : a + b ≤ 1000000) : CMulW x y := wide_mul h h' h0 h1 hab
theorem mulW4 {x y : Int} (h : sm 4000 x) (h' : sm 4000 y) : CMulW x y := mulW h h' (by decide) (by decide) (by decide)
theorem gcd_pos {a b : Int} (h : 1 ≤ b) : 0 < ((Nat.gcd a.natAbs b.natAbs : Nat) : Int) := by
  have := Nat.gcd_pos_of_pos_right a.natAbs (show 0 < b.natAbs by omega)
  omega
theorem divW {a b : Int} (h : 1 ≤ b) (hs : sm 9000 b) : CDivW a ((Nat.gcd a.natAbs b.natAbs : Nat) : Int) ∧ CDivW b ((Nat.gcd a.natAbs b.natAbs : Nat) : Int) := by
  have l := Nat.le_of_dvd (show 0 < b.natAbs by omega) (Nat.gcd_dvd_right a.natAbs b.natAbs)
  have z : CDivW a ((Nat.gcd a.natAbs b.natAbs : Nat) : Int) := wide_div (gcd_pos h) (b := 9000) (by unfold sm at hs; omega) (by decide) (by decide)
  exact ⟨z, z⟩
theorem low_pos {p q : Int} (h : 1 ≤ q) : 1 ≤ (low p q).2 := by
  have g := gcd_pos (a := p) h
  have d : ((Nat.gcd p.natAbs q.natAbs : Nat) : Int) ∣ q := PySem.W.mg_dvd_right p q
  show 1 ≤ q / _
  exact Int.le_ediv_of_mul_le g (by have := Int.le_of_dvd (by omega) d; omega)
theorem low_mul {p q : Int} (h : 1 ≤ q) : (low p q).1 * q = p * (low p q).2 := by
  have g := gcd_pos (a := p) h
  have d : ((Nat.gcd p.natAbs q.natAbs : Nat) : Int) ∣ q := PySem.W.mg_dvd_right p q
  have d' : ((Nat.gcd p.natAbs q.natAbs : Nat) : Int) ∣ p := PySem.W.mg_dvd_left p q
  obtain ⟨x, hx⟩ := d
  obtain ⟨y, hy⟩ := d'
  show p / _ * q = p * (q / _)
  generalize ((Nat.gcd p.natAbs q.natAbs : Nat) : Int) = g0 at *
  subst hx; subst hy
  rw [Int.mul_ediv_cancel_left _ (by omega), Int.mul_ediv_cancel_left _ (by omega)]
  grind
/-- in lowest terms -/
def Lowest (x : Int × Int) : Prop := 1 ≤ x.2 ∧ Nat.gcd x.1.natAbs x.2.natAbs = 1
theorem low_lowest {p q : Int} (h : 1 ≤ q) : Lowest (low p q) := by
  refine ⟨low_pos h, ?_⟩
  have g := gcd_pos (a := p) h
  show Nat.gcd (p / _).natAbs (q / _).natAbs = 1
  have g' : 0 < Nat.gcd p.natAbs q.natAbs := by omega
  rw [Int.natAbs_ediv_of_dvd (PySem.W.mg_dvd_left p q), Int.natAbs_ediv_of_dvd (PySem.W.mg_dvd_right p q), Int.natAbs_natCast, Nat.gcd_div (Nat.gcd_dvd_left _ _) (Nat.gcd_dvd_right _ _)]
  exact Nat.div_self g'
theorem low_id {x : Int × Int} (h : Lowest x) : low x.1 x.2 = x := by
  unfold low
  rw [h.2]
  simp
theorem ratD_rD {x : Int × Int} (h : Lowest x) : ratD (rD x) = some x := by
  show ratRow [.int x.1, .int x.2] = some x
  unfold ratRow
  simp only []
  rw [if_pos h.1, low_id h]
/-- small enough to work with -/
def okR (d : D) : Prop := plain1 d = true ∧ (∀ i, .int i ∈ rowD d → sm 4000 i) ∧ (∀ i, d = .int i → sm 4000 i)
theorem sm_low {n : Nat} {p q : Int} (h : sm n p) (h' : sm n q) : sm n (low p q).1 ∧ sm n (low p q).2 := ⟨sm_div h (by omega), sm_div h' (by omega)⟩
theorem ratRow_two {xs : List D} {x : Int × Int} (h : ratRow xs = some x) : ∃ p q, xs = [.int p, .int q] ∧ 1 ≤ q ∧ x = low p q := by
  unfold ratRow at h
  split at h
  · rename_i p q
    by_cases c : 1 ≤ q
    · rw [if_pos c] at h; exact ⟨p, q, rfl, c, (Option.some.inj h).symm⟩
    · rw [if_neg c] at h; cases h
  · cases h
theorem okR_sm {d : D} {x : Int × Int} (h : okR d) (e : ratD d = some x) : sm 4000 x.1 ∧ sm 4000 x.2 ∧ Lowest x := by
  obtain ⟨h1, h2, h3⟩ := h
  have row : ∀ xs : List D, (∀ i, .int i ∈ xs → sm 4000 i) → ratRow xs = some x → sm 4000 x.1 ∧ sm 4000 x.2 ∧ Lowest x := fun xs hs e => by
    obtain ⟨p, q, rfl, hq, rfl⟩ := ratRow_two e
    have := sm_low (hs p (by simp)) (hs q (by simp))
    exact ⟨this.1, this.2, low_lowest hq⟩
  cases d <;> first | cases e; done | skip
  · rename_i i
    have e : some (i, 1) = some x := e
    cases e
    exact ⟨h3 i rfl, Nat.one_lt_two_pow (n := 4000) (by decide), by show (1:Int) ≤ 1; decide, by show Nat.gcd _ 1 = 1; simp⟩
  · exact row _ h2 e
  · exact row _ h2 e
  · exact row _ h2 e
end Lw
namespace Lw
open PySem L2
section
variable {K : PySem.W.Frag} {Γ Γ1 : List G} {M M1 M2 M3 : List MO} {g g1 g2 : G} {gs : List G} {te ta tb : TE} {tt tu : TT} {tA : TA} {d : D} {xs ds : List D} {c : Con} {W : WX} {C : Addr} {fs : Flds} {r : R2}
theorem evx_op1 (h : EvX K W ta Γ M C fs M1) : EvX K W (tOp r ta tb) Γ M C fs M1 := fun B as F σ H S O Q q => h B as F σ H S O _ q
theorem evx_op2 (h1 : Ev K ta Γ M g M1) (h : EvX K W tb Γ M1 C fs M2) : EvX K W (tOp r ta tb) Γ M C fs M2 := fun B as F σ H S O Q q =>
  h1 B as F σ H S O _ fun v B1 H1 e1 S1 r1 => h B1 as F σ H1 S1 (O.up e1) _ fun dd B' H' e' => q dd B' H' (e1.trans e')
/-- an argument raises -/
def EvAX (K : PySem.W.Frag) (W : WX) (tA : TA) (Γ : List G) (M : List MO) (C : Addr) (fs : Flds) (M' : List MO) : Prop :=
  ∀ (B : Hp) (as : List Addr) (F : Hp) (σ : L2.St) (H : Hp), Sat K B as M F H → SOk K B as σ Γ → ∀ Q : List V → Hp → Prop, (∀ dd B' H', Ex B B' → Sat K B' as M' F H' → XRep K B' dd fs → W (.ref C) dd σ H') → tA σ H Q
theorem eax_here (h : EvX K W ta Γ M C fs M1) : EvAX K W (tCons ta tA) Γ M C fs M1 := fun B as F σ H S O Q q => h B as F σ H S O _ q
theorem eax_next (h1 : Ev K ta Γ M g M1) (h : EvAX K W tA Γ M1 C fs M2) : EvAX K W (tCons ta tA) Γ M C fs M2 := fun B as F σ H S O Q q =>
  h1 B as F σ H S O _ fun v B1 H1 e1 S1 r1 => h B1 as F σ H1 S1 (O.up e1) _ fun dd B' H' e' => q dd B' H' (e1.trans e')
theorem evx_cb {r : List V → Hp → L2.VK → Prop} (h : EvAX K W tA Γ M C fs M1) : EvX K W (tCB r tA) Γ M C fs M1 := fun B as F σ H S O Q q => h B as F σ H S O _ q
theorem evx_tup (h : EvAX K W tA Γ M C fs M1) : EvX K W (tTup tA) Γ M C fs M1 := fun B as F σ H S O Q q => h B as F σ H S O _ q
theorem evx_arg {S0 : Sp} {Es : L2.St → XK} (h : EvAX K W tA Γ M C fs M1) : EvX K W (tCallS S0 Es tA) Γ M C fs M1 := fun B as F σ H S O Q q => h B as F σ H S O _ q
end
end Lw

set_option Elab.async false
set_option linter.all false
set_option maxRecDepth 100000
set_option maxHeartbeats 4000000
namespace Lw
open PySem L2
/-! ## the steps of the law's own common divisor -/
def euc : Nat → Nat × Nat → Nat × Nat
  | 0, x => x
  | n + 1, x => euc n (if 0 < x.2 then (x.2, x.1 % x.2) else x)
theorem euc_zero {n a : Nat} : euc n (a, 0) = (a, 0) := by
  induction n with
  | zero => rfl
  | succ n ih => unfold euc; simpa using ih
theorem euc_gcd : ∀ (n : Nat) (x : Nat × Nat), Nat.gcd (euc n x).1 (euc n x).2 = Nat.gcd x.1 x.2
  | 0, x => rfl
  | n + 1, x => by
    unfold euc
    rw [euc_gcd n]
    split
    · show Nat.gcd x.2 (x.1 % x.2) = _
      rw [Nat.gcd_comm x.2, ← Nat.gcd_rec, Nat.gcd_comm]
    · rfl
def fb : Nat → Nat
  | 0 => 1
  | 1 => 1
  | n + 2 => fb (n + 1) + fb n
theorem fb_ss (n : Nat) : fb (n + 2) = fb (n + 1) + fb n := rfl
theorem fb_pos : ∀ n, 1 ≤ fb n
  | 0 => Nat.le_refl _
  | 1 => Nat.le_refl _
  | n + 2 => by have := fb_pos n; have := fb_pos (n + 1); rw [fb_ss]; omega
theorem fb_mono (n : Nat) : fb n ≤ fb (n + 1) := by
  cases n with
  | zero => exact Nat.le_refl _
  | succ n => rw [fb_ss]; omega
theorem fb_ten (n : Nat) : 10 * fb (n + 2) ≤ fb (n + 7) := by
  have h := fb_mono n
  have e2 : fb (n + 2) = fb (n + 1) + fb n := rfl
  have e3 : fb (n + 3) = fb (n + 2) + fb (n + 1) := rfl
  have e4 : fb (n + 4) = fb (n + 3) + fb (n + 2) := rfl
  have e5 : fb (n + 5) = fb (n + 4) + fb (n + 3) := rfl
  have e6 : fb (n + 6) = fb (n + 5) + fb (n + 4) := rfl
  have e7 : fb (n + 7) = fb (n + 6) + fb (n + 5) := rfl
  omega
theorem fb_pow (k : Nat) : 10 ^ k ≤ fb (5 * k + 2) := by
  induction k with
  | zero => decide
  | succ k ih =>
    have := fb_ten (5 * k)
    rw [Nat.pow_succ, show 5 * (k + 1) + 2 = 5 * k + 7 by omega]
    omega
theorem euc_fb : ∀ (n x y : Nat), y ≤ x → 0 < (euc n (x, y)).2 → fb n ≤ y ∧ fb (n + 1) ≤ x
  | 0, x, y, h, hp => by
    have hp : 0 < y := hp
    exact ⟨hp, by show 1 ≤ x; omega⟩
  | n + 1, x, y, h, hp => by
    by_cases hy : 0 < y
    · have e : euc (n + 1) (x, y) = euc n (y, x % y) := by
        show euc n (if 0 < y then (y, x % y) else (x, y)) = _
        rw [if_pos hy]
      rw [e] at hp
      have hm := Nat.mod_lt x hy
      obtain ⟨q1, q2⟩ := euc_fb n y (x % y) (by omega) hp
      refine ⟨q2, ?_⟩
      have : x % y + y ≤ x := by
        have d := Nat.div_add_mod x y
        have p : 1 ≤ x / y := (Nat.one_le_div_iff hy).mpr h
        have := Nat.mul_le_mul_left y p
        omega
      have e2 := fb_ss n
      show fb (n + 2) ≤ x
      omega
    · have : y = 0 := by omega
      subst this
      rw [euc_zero] at hp
      cases hp
theorem euc_end {x y k n : Nat} (h : y < 10 ^ k) (hn : 5 * k + 3 ≤ n) : (euc n (x, y)).2 = 0 := by
  by_cases hp : 0 < (euc n (x, y)).2
  · exfalso
    obtain ⟨m, rfl⟩ : ∃ m, n = m + 1 := ⟨n - 1, by omega⟩
    by_cases hy : 0 < y
    · have e : euc (m + 1) (x, y) = euc m (y, x % y) := by
        show euc m (if 0 < y then (y, x % y) else (x, y)) = _
        rw [if_pos hy]
      rw [e] at hp
      have hm := Nat.mod_lt x hy
      obtain ⟨q1, q2⟩ := euc_fb m y (x % y) (by omega) hp
      have up : ∀ a b, fb a ≤ fb (a + b) := fun a b => by
        induction b with
        | zero => exact Nat.le_refl _
        | succ b ih => exact Nat.le_trans ih (fb_mono (a + b))
      have z := up (5 * k + 2) (m + 1 - (5 * k + 2))
      rw [show 5 * k + 2 + (m + 1 - (5 * k + 2)) = m + 1 by omega] at z
      have := fb_pow k
      omega
    · have : y = 0 := by omega
      subst this
      rw [euc_zero] at hp
      cases hp
  · omega
theorem euc_eq {x y k n : Nat} (h : y < 10 ^ k) (hn : 5 * k + 3 ≤ n) : (euc n (x, y)).1 = Nat.gcd x y := by
  have e := euc_gcd n (x, y)
  rw [euc_end h hn, Nat.gcd_zero_right] at e
  exact e
theorem euc_succ (n : Nat) (x : Nat × Nat) : euc (n + 1) x = (fun y : Nat × Nat => if 0 < y.2 then (y.2, y.1 % y.2) else y) (euc n x) := by
  induction n generalizing x with
  | zero => rfl
  | succ n ih => unfold euc; rw [ih]
/-! ## the text of a whole number -/
def strI (i : Int) : Str := Str.ofString (toString i)
theorem strI_len {n : Nat} : n < 10 ^ (strI (n : Int)).length := by
  unfold strI
  rw [Str.ofString_eq_toList]
  show n < 10 ^ (((toString (n : Int)).toList.map Char.toNat).toArray).size
  rw [List.size_toArray, List.length_map]
  show n < 10 ^ (Nat.repr n).toList.length
  rw [String.length_toList]
  exact (Nat.length_repr_le_iff Nat.length_repr_pos).mp (Nat.le_refl _)
theorem strI_le {n : Nat} (h : n < 10 ^ 700) : (strI (n : Int)).length ≤ 700 := by
  unfold strI
  rw [Str.ofString_eq_toList]
  show (((toString (n : Int)).toList.map Char.toNat).toArray).size ≤ _
  rw [List.size_toArray, List.length_map]
  show (Nat.repr n).toList.length ≤ _
  rw [String.length_toList]
  exact (Nat.length_repr_le_iff (by decide)).mpr h
section
variable {K : PySem.W.Frag} {M : List MO}
theorem rc_strI {i : Int} (h : i.natAbs.log2 < 1920) : RC K (fun xs H Q => ∃ i, xs = [.int i] ∧ i.natAbs.log2 < 1920 ∧ Q (.str (toString i)) H) [.dat (.int i)] M (.dat (.str (strI i))) := fun B as F H vs S rs Q q => by
  cases rs with
  | cons r rs =>
    cases rs; cases r
    exact ⟨i, rfl, h, q _ B H (Ex.refl B) S .str⟩
end
end Lw
namespace Lw
open PySem L2
section
variable {K : PySem.W.Frag} {W : WX} {Γ Γ1 Γ2 : List G} {M M1 : List MO} {tu : TS}
theorem rc_lenStr {z : Str} (h : z.length ≤ sizeLine) : RC K (fun xs H Q => ∃ z, xs = [.str z] ∧ z.length ≤ sizeLine ∧ Q (.int z.length) H) [.dat (.str z)] M (.dat (.int z.length)) := fun B as F H vs S rs Q q => by
  cases rs with
  | cons r rs =>
    cases rs; cases r
    exact ⟨z, rfl, h, q _ B H (Ex.refl B) S .int⟩
/-- less is known of the slots -/
def lessL : List G → List G → Prop
  | [], [] => True
  | a :: as, b :: bs => (b = .no ∨ a = b) ∧ lessL as bs
  | _, _ => False
theorem lessL.spec : ∀ {as bs : List G}, lessL as bs → as.length = bs.length ∧ ∀ (i : Nat) (g : G), bs[i]? = some g → g ≠ .no → as[i]? = some g
  | [], [], _ => ⟨rfl, fun i g h => by simp at h⟩
  | a :: as, b :: bs, h => by
    obtain ⟨l, q⟩ := lessL.spec h.2
    refine ⟨by simp [l], fun i g e hn => ?_⟩
    cases i with
    | zero =>
      simp at e; subst e
      rcases h.1 with z | z
      · exact absurd z hn
      · simp [z]
    | succ i => simpa using q i g (by simpa using e) hn
  | [], _ :: _, h => h.elim
  | _ :: _, [], h => h.elim
theorem do_forget (h : Does K W tu Γ M (.nx Γ1 M1)) (hl : lessL Γ1 Γ2) : Does K W tu Γ M (.nx Γ2 M1) := fun B as F σ H E S O p =>
  h B as F σ H E S O fun B1 bs σ1 H1 e1 S1 O1 => p B1 bs σ1 H1 e1 S1 ⟨by rw [O1.len]; exact hl.spec.1, fun i g h1 h2 => O1.at' i g (hl.spec.2 i g h1 h2) h2⟩
end
end Lw
namespace Lw
open PySem L2
/-- two pairs of ints -/
def cr2 (p : Int × Int → Int × Int → Prop) (f : Int × Int → Int × Int → D) : Con := fun gs M r => ∃ x y, p x y ∧ gs = [.dat (rD x), .dat (rD y)] ∧ M = [] ∧ r = .ret (.dat (f x y)) []
theorem cr2_len {p : Int × Int → Int × Int → Prop} {f : Int × Int → Int × Int → D} {gs : List G} {M : List MO} {r : R1} (h : cr2 p f gs M r) : gs.length = 2 := by
  obtain ⟨d, e, _, rfl, _⟩ := h; rfl
theorem cr2_at {p : Int × Int → Int × Int → Prop} {f : Int × Int → Int × Int → D} {x y : Int × Int} (h : p x y) : cr2 p f ([rD x, rD y].map G.dat) [] (.ret (.dat (f x y)) []) := ⟨x, y, h, rfl, rfl, rfl⟩
def sm2 (n : Nat) (x : Int × Int) : Prop := sm n x.1 ∧ sm n x.2
theorem sm2_up {a b : Nat} {x : Int × Int} (h : sm2 a x) (l : a ≤ b) : sm2 b x := ⟨sm_up h.1 l, sm_up h.2 l⟩
theorem mulX {x y : Int} (h : sm 400000 x) (h' : sm 400000 y) : CMulW x y := mulW h h' (by decide) (by decide) (by decide)
end Lw

set_option Elab.async false
set_option linter.all false
set_option maxRecDepth 100000
set_option maxHeartbeats 4000000
set_option exponentiation.threshold 100000
namespace Lw
open PySem L2 PySem.Spec PyProof.Rows
section
variable {X : Cx}
def rLcm : List V → Hp → L2.VK → Prop := fun vs H Q => ∃ a b : Int, vs = [.int a, .int b] ∧ a.natAbs < 2 ^ 13000 ∧ b.natAbs < 2 ^ 13000 ∧ Q (.int ((Nat.lcm a.natAbs b.natAbs : Nat) : Int)) H
open PySem PySem.W PySem.Calls in
theorem mg_lcmW {prog : Program} {w : World} {A : Around} {E : Value → Shared → Prop} {s : Shared} {Q : Value → Shared → Prop} {a b : Int} {t u : Tok} (ha : a.natAbs < 2 ^ 13000) (hb : b.natAbs < 2 ^ 13000)
    (h : Q (.int ((Nat.lcm a.natAbs b.natAbs : Nat) : Int) s.toks) { s with toks := s.toks + 1 }) : wpAny (model prog w) A (call (.builtin "math.lcm") [.int a t, .int b u]) Q E s := by
  have e : (Nat.lcm 1 a.natAbs) = a.natAbs := Nat.lcm_one_left _
  have h1 : (max 1 a.natAbs).log2 ≤ 12999 := mg_log (by
    have : 1 < 2 ^ 13000 := Nat.one_lt_two_pow (by decide)
    show max 1 a.natAbs < 2 ^ 13000; omega)
  have h2 : (max a.natAbs b.natAbs).log2 ≤ 12999 := mg_log (by show max a.natAbs b.natAbs < 2 ^ 13000; omega)
  have hsz : ((((Nat.lcm 1 a.natAbs).lcm b.natAbs : Nat) : Int)).natAbs.log2 < bitsLine := by
    rw [e, Int.natAbs_natCast]
    have l : Nat.lcm a.natAbs b.natAbs < 2 ^ (13000 + 13000) := by
      rw [Nat.pow_add]
      exact Nat.lt_of_le_of_lt (Nat.div_le_self _ _) (Nat.mul_lt_mul'' ha hb)
    have := PySem.Flt.log2_lt_of (by decide) l
    have e' : bitsLine = 134217728 := by decide
    omega
  exact call_function_meets MGF.kind_lcm MGF.plain_lcm MGF.entry_lcm (MGF.args_lcm _ _) (mg_run_lcm a t b u (by omega) (by omega) hsz).meets (by rw [e]; exact h)
theorem cr_lcm : CallR X (.builtin "math.lcm") rLcm := by
  intro pins s σ H vs us Q I r h
  obtain ⟨a, b, rfl, ha, hb, q⟩ := h
  obtain ⟨t, u, rfl⟩ := Vals.int2 r
  exact mg_lcmW ha hb ⟨.int _, H, I.tok _, ⟨_, rfl⟩, q⟩
end
section
variable {K : PySem.W.Frag} {M : List MO}
theorem rc_lcm {a b : Int} (ha : sm 13000 a) (hb : sm 13000 b) : RC K rLcm [.dat (.int a), .dat (.int b)] M (.dat (.int ((Nat.lcm a.natAbs b.natAbs : Nat) : Int))) := fun B as F H vs S rs Q q => by
  cases rs with
  | cons r rs =>
    cases r
    cases rs with
    | cons r rs => cases r; cases rs; exact ⟨a, b, rfl, ha, hb, q _ B H (Ex.refl B) S .int⟩
end
end Lw

set_option Elab.async false
set_option linter.all false
set_option maxRecDepth 100000
set_option maxHeartbeats 4000000
/-! enumerate over a tuple; loops over what may be a list or a tuple -/
namespace Lw
open PySem L2 PySem.Spec PyProof.Rows
open Sem (wp)
def IteT (K : PySem.W.Frag) (a : Addr) : It :=
  ⟨fun i H => ∃ (xs : List V) (x : V), SqT K H a xs ∧ xs[i]? = some x, fun i H v H' => ∃ T x, v = .ref T ∧ H T = none ∧ H' = upd H T (.tup [.int (i : Nat), x]) ∧ ∀ xs, SqT K H a xs → xs[i]? = some x, fun i H => ∃ xs : List V, SqT K H a xs ∧ xs.length ≤ i⟩
theorem tup_ne_it {h : Heap} {it a : Addr} {i : Nat} {items : Array Value} (hit : h.IsTupleIter it a i) (ht : h.IsTuple a items) : a ≠ it := by
  rintro rfl
  obtain ⟨o, ho, hc, _⟩ := hit
  obtain ⟨o', ho', hc', _⟩ := ht
  rw [ho] at ho'; cases ho'
  rw [hc] at hc'
  exact absurd hc' (by intro z; injection z with z; exact absurd z (by decide))
theorem tup_ne_enum {h : Heap} {e it a : Addr} {i : Int} {old : Value} {items : Array Value} (he : IsEnum h e it i old) (ht : h.IsTuple a items) : e ≠ a := by
  rintro rfl
  obtain ⟨o', ho', hc', _⟩ := ht
  have := (show h.get? e = some _ from he).symm.trans ho'
  cases this
  exact absurd hc' (by intro z; injection z with z; exact absurd z (by decide))
theorem enumT_end {prog : Program} {w : World} {A : Around} {E : Value → Shared → Prop} {s : Shared} {e it t : Addr} {c : Int} {i : Nat} {old : Value} {items : Array Value} {Q : Option Value → Shared → Prop} (hh : A.handled = none)
    (he : IsEnum s.heap e it c old) (hit : s.heap.IsTupleIter it t i) (ht : s.heap.IsTuple t items) (hx : items[i]? = none)
    (hQ : ∀ h', Heap.ExtBut it s.heap h' → Q none { s with heap := h' }) : wpAny (model prog w) A (pyNext (.ref e)) Q E s := by
  have hT : s.TypeIs (.ref e) "enumerate" := ⟨_, he, rfl⟩
  unfold pyNext
  refine wpAny_bind (wpAny_attempt (wpAny_callSpecial?_slot (name := Str.ofString "__next__") hT F.slot_enumerate_next
    (wpAny_call_entry F.slot_enumerate_next hT F.entry_enumerate_next ?_ (F.args_enumerate_next_1 _))))
  show wpAny _ _ (field (.ref e) 2 >>= _) _ _ _
  refine wpAny_bind (wpAny_field he rfl (x := .ref it) rfl ?_)
  refine wpAny_bind (wpAny_nextOf_tuple_end (A := A.in1) hh hit ht hx fun h' x he' hx' => ?_)
  obtain ⟨o, ho, hc⟩ := hx'
  refine wpAny_bind (wpAny_isInstance (T := "StopIteration") (b := true) ⟨o, ho, hc⟩ isSubtype_stop ?_)
  exact wpAny_pure (hQ _ he')
theorem turn_enumT {P : Program} {w : World} {K : PySem.W.Frag} {elts : List Expr} {kk : Nat} {tpos : Pos} (a e it : Addr) :
    Turn P w K (.Tuple elts kk tpos) (IteT K a) [e, it] e (fun i h => (∃ old, IsEnum h e it ((i : Nat) : Int) old) ∧ h.IsTupleIter it a i ∧ e ≠ it) where
  mem := by simp
  obj := fun i h st b hb => by
    obtain ⟨⟨old, he⟩, ⟨o, ho, hc, hd⟩, _⟩ := st
    have e' : b = e ∨ b = it := by simpa using hb
    rcases e' with z | z
    · rw [z]; exact ⟨_, he, fun v q => nomatch q⟩
    · rw [z]; exact ⟨o, ho, fun v q => by rw [hd] at q; cases q⟩
  keep := fun i h h' st k => let ⟨⟨old, he⟩, hi, hne⟩ := st; ⟨⟨old, k e (by simp) _ he⟩, hi.at fun o q => k it (by simp) o q, hne⟩
  item := by
    intro X hP hw hK hc i pins s σ H E I hf st hg
    subst hP hw hK
    obtain ⟨⟨old, he⟩, hit, hne⟩ := st
    obtain ⟨xs, x, hq, hx⟩ := hg
    obtain ⟨its, rv, p, hz⟩ := I.tuple hq
    have p' : s.heap.IsTuple a its.toArray := p
    obtain ⟨u, hu, ru⟩ := rv.get hx
    have hel : e < s.heap.objs.size := Heap.lt_size he
    have hil : it < s.heap.objs.size := by obtain ⟨_, q, _⟩ := hit; exact Heap.lt_size q
    have hai := tup_ne_it hit p'
    have hea := tup_ne_enum he p'
    have hlt : i < its.toArray.size := by
      rw [List.size_toArray]; exact (List.getElem?_eq_some_iff.mp hu).1
    refine wpAny_pyNext_enum_itemD (Draws.tuple (A := X.A.in1) (I.ok.hd hc) it a hai its.toArray) he ⟨hit, p'⟩ hlt hne (by simp; exact ⟨hne, hea⟩) fun u' h' tk hP ho hst' hT hsz hk => ?_
    have hu' : u' = u := by
      have q : its.toArray[i]? = some u := by simpa using hu
      rw [q] at hP; exact (Option.some.inj hP).symm
    subst hu'
    refine ⟨_, rfl, wpAny_letOwnedTupleGo_enum (s := { s with heap := h', toks := tk + 1 }) ho fun h'' he' sb => ?_⟩
    have hT2 : h''.get? s.heap.objs.size = some { cls := .type "tuple", data := .seq #[.int i tk, u'] } := (sb.2 _ (Nat.ne_of_gt hel)).trans hT
    have new : ObjOk X.prog X.w (upd H s.heap.objs.size (.tup [.int (i : Nat), x])) h'' s.heap.objs.size (.tup [.int (i : Nat), x]) :=
      ⟨by show 2 ≤ sizeLine; decide, [.int i tk, u'], .cons ⟨_, rfl⟩ (.cons ru .nil), ⟨_, hT2, rfl, _, rfl⟩⟩
    have I1 : Inv X pins σ (upd H s.heap.objs.size (.tup [.int (i : Nat), x])) { s with heap := h'', toks := tk + 1 } :=
      I.turnedNew (ch := [e, it]) (fun b ob hb q => (sb.2 b (fun z => hb (by simp [z]))).trans (hk b ob (fun z => hb (by simp [z])) (fun z => hb (by simp [z])) q)) hf (Nat.le_refl _) new
    refine ⟨.ref s.heap.objs.size, _, I1, rfl, ⟨_, x, rfl, I.hok.fresh (Nat.le_refl _), rfl, fun ys hy => by rw [I.tuple_inj hy hq]; exact hx⟩, ⟨⟨u', ?_⟩, hst'.1.at fun o q => (sb.2 it (Ne.symm hne)).trans q, hne⟩, fun b hb => ?_⟩
    · have e1 : ((i + 1 : Nat) : Int) = (i : Int) + 1 := by omega
      rw [e1]; exact he'
    · have hb' : b < s.heap.objs.size := by
        have e' : b = e ∨ b = it := by simpa using hb
        rcases e' with z | z
        · rw [z]; exact hel
        · rw [z]; exact hil
      rw [upd_ne (Nat.ne_of_lt hb')]
      exact (hf b hb).1
  done := by
    intro X hP hw hK hc i pins s σ H E I hf st hg
    subst hP hw hK
    obtain ⟨⟨old, he⟩, hit, hne⟩ := st
    obtain ⟨xs, hq, hx⟩ := hg
    obtain ⟨its, rv, p, hz⟩ := I.tuple hq
    obtain ⟨f0, f1, f2, f3, f4, f5⟩ := hf it (by simp)
    have hl := rv.length
    exact enumT_end (I.ok.hd hc) he hit p (by simp; omega) fun h' eb => ⟨rfl, I.turned (t' := s.toks) (fun b o hb q => eb b o hb q) f0 f1 f3 f4 f5⟩
  self := fun A i s Q E st h => let ⟨⟨_, he⟩, _⟩ := st; wpAny_pyIter_enum he h
set_option maxHeartbeats 8000000 in
theorem meets_enumT (l : Addr) (items : Array Value) :
    Meets (Builtin.«enumerate.__new__» ⟨[.type "enumerate", .ref l], []⟩) (fun _ R s => s.heap.IsTuple l items ∧
      R (.ok (.ret (.ref (s.heap.push { cls := .type "tuple_iterator", data := .fields #[.ref l, .int 0 0] }).objs.size)))
        { s with heap := (s.heap.push { cls := .type "tuple_iterator", data := .fields #[.ref l, .int 0 0] }).push { cls := .type "enumerate", data := .fields #[.none, .bool false, .ref s.heap.objs.size, rawInt 0, .none, .none] } }) :=
  .of_wp fun prog w A R s h => by
    obtain ⟨hp, g, d, tk, os⟩ := s; obtain ⟨h1, h⟩ := h
    have hsub := sub_enumerate
    have q1 : ∀ {A' : Around} {E : Value → Shared → Prop} {Q : Value → Shared → Prop}, Q (.ref hp.objs.size) ⟨hp.push { cls := .type "tuple_iterator", data := .fields #[.ref l, .int 0 0] }, g, d, tk, os⟩ → wpAny (model prog w) A' (pyIter (.ref l)) Q E ⟨hp, g, d, tk, os⟩ :=
      fun q => wpAny_pyIter_tuple (s := ⟨hp, g, d, tk, os⟩) h1 q
    wp_walk using q1
    refine wpAny_stack_any fun st => wpAny_pure ?_
    split
    · rename_i c _ _ _ _ _
      cases (c == Value.type "enumerate")
      · wp_walk using q1
        exact ⟨_, rfl, h⟩
      · wp_walk using q1
        exact ⟨_, rfl, h⟩
    · wp_walk using q1
      exact ⟨_, rfl, h⟩
theorem call_enumT {prog : Program} {w : World} {A : Around} {E : Value → Shared → Prop} {s : Shared} {l : Addr} {items : Array Value} {Q : Value → Shared → Prop} (hL : s.heap.IsTuple l items)
    (h : ∀ h', IsEnum h' (s.heap.objs.size + 1) s.heap.objs.size 0 .none → h'.IsTupleIter s.heap.objs.size l 0 → h'.objs.size = s.heap.objs.size + 2 →
      (∀ b o, s.heap.get? b = some o → h'.get? b = some o) → Q (.ref (s.heap.objs.size + 1)) { s with heap := h' }) :
    wpAny (model prog w) A (call (.type "enumerate") [.ref l]) Q E s := by
  refine callType_new F.called_enumerate (by decide) (F.typeCall_enumerate_1 _) (F.newCall_enumerate_1 _) (fun obj => F.args_object_init_2 obj _) F.entry_enumerate_new
    (meets_enumT l items) ⟨hL, ?_⟩
  have hz : (s.heap.push { cls := .type "tuple_iterator", data := .fields #[.ref l, .int 0 0] }).objs.size = s.heap.objs.size + 1 := Heap.size_push ..
  show _ ∧ _
  rw [hz]
  have he : IsEnum ((s.heap.push { cls := .type "tuple_iterator", data := .fields #[.ref l, .int 0 0] }).push
      { cls := .type "enumerate", data := .fields #[.none, .bool false, .ref s.heap.objs.size, rawInt 0, .none, .none] }) (s.heap.objs.size + 1) s.heap.objs.size 0 .none := by
    have := Heap.get?_push_size (s.heap.push { cls := .type "tuple_iterator", data := .fields #[.ref l, .int 0 0] })
      (o := { cls := .type "enumerate", data := .fields #[.none, .bool false, .ref s.heap.objs.size, rawInt 0, .none, .none] }) rfl
    rw [hz] at this; exact this
  refine ⟨⟨_, he, rfl⟩, h _ he ⟨_, Heap.get?_push_of_some _ (Heap.get?_push_size _ rfl), rfl, rfl⟩ (by rw [Heap.size_push, hz]) fun b o x => Heap.get?_push_of_some _ (Heap.get?_push_of_some _ x)⟩
def iEnumA (K : PySem.W.Frag) (ta : TA) : TI := fun σ H R => ta σ H fun vs H1 => ∃ a xs, vs = [.ref a] ∧ ((SqL K H1 a xs ∧ R (Ite K a) H1) ∨ (SqT K H1 a xs ∧ R (IteT K a) H1))
theorem pi_enumA {X : Cx} {e : Expr} {ta : TA} {p pos tpos : Pos} {elts : List Expr} {kk : Nat} (hg : Gl X "enumerate") (hm : X.mg "enumerate" = none) (ha : PA X [e] ta) (hs : starEach [e] X.env = [(false, eval e X.env)] := by rfl) :
    PI X (.Tuple elts kk tpos) (.Call (.Name "enumerate" p) [e] [] pos) (iEnumA X.K ta) := by
  refine ⟨fun pins s σ H R I h => ?_⟩
  refine Call_ (ld_blt I hg hm boot_enumerate (PyProof.Rows.callWith_type1 (thn (ha.run pos pins s σ H _ I h) fun us s1 ⟨vs, H1, I1, r1, q1⟩ => ?_) hs rfl))
  obtain ⟨a, xs, ex, q⟩ := q1
  subst ex
  cases r1 with
  | cons r rr =>
    cases rr
    cases r
    rcases q with ⟨hq, q⟩ | ⟨hq, q⟩
    · obtain ⟨its, rv, p', hz⟩ := I1.list hq
      refine call_enumerate_list p'.isList fun h' he hit hsz hk => wpAny_pyIter_enum he ?_
      have I2 : Inv X pins σ H1 { s1 with heap := h' } := I1.kept (t' := s1.toks) hk
      refine ⟨s1.heap.objs.size + 1, [s1.heap.objs.size + 1, s1.heap.objs.size], _, _, H1, rfl, I2, turn_enum a (s1.heap.objs.size + 1) s1.heap.objs.size, ⟨⟨.none, he⟩, hit, Nat.succ_ne_self _⟩, fun b hb => ?_, q⟩
      have e' : b = s1.heap.objs.size + 1 ∨ b = s1.heap.objs.size := by simpa using hb
      have hle : s1.heap.objs.size ≤ b := by
        rcases e' with z | z
        · rw [z]; exact Nat.le_add_right _ _
        · rw [z]; exact Nat.le_refl _
      exact I1.fpOk hle (I1.hok.fresh hle)
    · obtain ⟨its, rv, p', hz⟩ := I1.tuple hq
      refine call_enumT p' fun h' he hit hsz hk => wpAny_pyIter_enum he ?_
      have I2 : Inv X pins σ H1 { s1 with heap := h' } := I1.kept (t' := s1.toks) hk
      refine ⟨s1.heap.objs.size + 1, [s1.heap.objs.size + 1, s1.heap.objs.size], _, _, H1, rfl, I2, turn_enumT a (s1.heap.objs.size + 1) s1.heap.objs.size, ⟨⟨.none, he⟩, hit, Nat.succ_ne_self _⟩, fun b hb => ?_, q⟩
      have e' : b = s1.heap.objs.size + 1 ∨ b = s1.heap.objs.size := by simpa using hb
      have hle : s1.heap.objs.size ≤ b := by
        rcases e' with z | z
        · rw [z]; exact Nat.le_add_right _ _
        · rw [z]; exact Nat.le_refl _
      exact I1.fpOk hle (I1.hok.fresh hle)
def iAny (K : PySem.W.Frag) (tl : TE) : TI := fun σ H R => tl σ H fun x H1 => ∃ a, x = .ref a ∧ (((∃ xs, SqL K H1 a xs) ∧ R (Itl K a) H1) ∨ ((∃ xs, SqT K H1 a xs) ∧ R (Itt K a) H1))
theorem pi_any {X : Cx} {tg : Expr} {l : Expr} {tl : TE} (hl : PE X l tl) : PI X tg l (iAny X.K tl) := by
  refine ⟨fun pins s σ H R I h => ?_⟩
  refine thn (hl.run pins s σ H _ I h) fun v s1 ⟨x, H1, I1, r1, q1⟩ => ?_
  obtain ⟨a, e, q⟩ := q1
  subst e
  cases r1
  rcases q with ⟨⟨xs, hq⟩, q⟩ | ⟨⟨xs, hq⟩, q⟩
  · obtain ⟨its, rv, p, hz⟩ := I1.list hq
    refine wpAny_pyIter_list p.isList ?_
    refine ⟨s1.heap.objs.size, [s1.heap.objs.size], _, _, H1, rfl, I1.kept (t' := s1.toks) fun b o e => Heap.get?_push_of_some _ e, turn_list a _, ⟨_, Heap.get?_push_size _ rfl, rfl, rfl⟩, fun b hb => ?_, q⟩
    have e : b = s1.heap.objs.size := by simpa using hb
    subst e
    exact I1.fpOk (Nat.le_refl _) (I1.hok.fresh (Nat.le_refl _))
  · obtain ⟨its, rv, p, hz⟩ := I1.tuple hq
    refine wpAny_pyIter_tuple (show s1.heap.IsTuple a its.toArray from p) ?_
    refine ⟨s1.heap.objs.size, [s1.heap.objs.size], _, _, H1, rfl, I1.kept (t' := s1.toks) fun b o e => Heap.get?_push_of_some _ e, turn_tuple a _, ⟨_, Heap.get?_push_size _ rfl, rfl, rfl⟩, fun b hb => ?_, q⟩
    have e : b = s1.heap.objs.size := by simpa using hb
    subst e
    exact I1.fpOk (Nat.le_refl _) (I1.hok.fresh (Nat.le_refl _))
section
variable {K : PySem.W.Frag} {Γ : List G} {M M1 : List MO} {ds : List D} {te : TE} {ta : TA} {d : D} {B : Hp} {a : Addr} {vs : List V}
theorem walkD_enumT (s : SqT K B a vs) (r : Reps K B vs ds) : WalkD K (IteT K a) B (enumD ds) := by
  have hl : (enumD ds).length = ds.length := by simp [enumD]
  refine ⟨fun i H hi e => ⟨vs, vs[i]'(by rw [r.len, ← hl]; exact hi), ex_t e s, by simp⟩, fun H e => ⟨vs, ex_t e s, by rw [hl, r.len]; exact Nat.le_refl _⟩, fun i H x H' hi e y => ?_⟩
  obtain ⟨T, x', h1, h2, h3, h4⟩ := y
  rw [hl] at hi
  obtain ⟨d, hd, rd⟩ := r.getV (h4 vs (ex_t e s))
  refine ⟨.tup [.int (i : Nat), d], ?_, fun B2 as M F e2 S => ⟨upd B2 T (.tup [.int (i : Nat), x']), Ex.new (S.nb h2), ?_, ?_⟩⟩
  · unfold enumD
    rw [List.getElem?_map, List.getElem?_range hi]
    simp [List.getD, hd]
  · rw [h3]; exact S.new h2
  · rw [h1]
    exact .tup upd_same (.cons .int (.cons (rd.up (e2.trans (Ex.new (S.nb h2)))) .nil))
theorem ei_enumA (h : EvA K ta Γ M [.dat d] M1) (hd : isRow d = true) : EvI K (iEnumA K ta) Γ M (enumD (rowD d)) M1 := fun B as F σ H S O R q =>
  h B as F σ H S O _ fun vs B1 H1 e1 S1 r1 => by
    cases r1 with
    | cons r rs =>
      cases rs
      cases d <;> first | (cases hd; done) | skip
      · cases r with
        | tup s r => exact ⟨_, _, rfl, .inr ⟨sqt S1.ex s, q _ B1 H1 e1 S1 (walkD_enumT (sqt (Ex.refl _) s) r)⟩⟩
      · cases r with
        | lst s r => exact ⟨_, _, rfl, .inl ⟨Or.inl (Or.inl (S1.ex _ _ s)), q _ B1 H1 e1 S1 (walkD_enum (Or.inl (Or.inl s)) r)⟩⟩
      · cases r with
        | fz s r => exact ⟨_, _, rfl, .inl ⟨ex_l S1.ex s, q _ B1 H1 e1 S1 (walkD_enum s r)⟩⟩
theorem ei_any (h : Ev K te Γ M (.dat d) M1) (hd : isRow d = true) : EvI K (iAny K te) Γ M (rowD d) M1 := fun B as F σ H S O R q =>
  h B as F σ H S O _ fun v B1 H1 e1 S1 r1 => by
    cases d <;> first | (cases hd; done) | skip
    · cases r1 with
      | tup s r => exact ⟨_, rfl, .inr ⟨⟨_, sqt S1.ex s⟩, q _ B1 H1 e1 S1 (walkD_tup (sqt (Ex.refl _) s) r)⟩⟩
    · cases r1 with
      | lst s r => exact ⟨_, rfl, .inl ⟨⟨_, Or.inl (Or.inl (S1.ex _ _ s))⟩, q _ B1 H1 e1 S1 (walkD_list (Or.inl (Or.inl s)) r)⟩⟩
    · cases r1 with
      | fz s r => exact ⟨_, rfl, .inl ⟨⟨_, ex_l S1.ex s⟩, q _ B1 H1 e1 S1 (walkD_list s r)⟩⟩
end
end Lw
namespace Lw
open PySem L2
/-- [f(x) for x in xs] -/
theorem ev_lcA {α : Type} {K : PySem.W.Frag} {Γ : List G} {M M1 : List MO} {wi : TI} {tg : TG} {te : TE} {vs : List Nat} {td : α → D} {ys : List α} (hi : EvI K wi Γ M (ys.map td) M1) (f : α → D) (hz : ys.length < sizeLine)
    (hb : ∀ y, y ∈ ys → ∃ Γ1 js, BG K tg (td y) (wipeG Γ vs) Γ1 js ∧ (∀ i, i ∈ js → i ∈ vs) ∧ Ev K te Γ1 M1 (.dat (f y)) M1) : EvN K (tLc wi tg tYes te vs) Γ M (ys.map f) M1 := by
  have h := ev_lcF (K := K) (tg := tg) (tt := tYes) (te := te) (vs := vs) hi (fun _ => true) f hz fun y hy => by
    obtain ⟨Γ1, js, q1, q2, q3⟩ := hb y hy
    exact ⟨Γ1, js, q1, q2, et_yes, fun _ => q3⟩
  rwa [List.filter_eq_self.mpr (by simp)] at h
end Lw

set_option Elab.async false
set_option linter.all false
set_option maxRecDepth 100000
set_option maxHeartbeats 4000000
/-! what is never reached; len(set(tuple of ints)); in; chains -/
namespace L2
open PySem PySem.Spec PyProof.Rows
/-- the size of set(ns), ns in a tuple: as many as there are distinct ones -/
def tLenSetT (K : PySem.W.Frag) (ta : TE) : TE := fun σ H Q => ta σ H fun x H1 => ∃ (l : Addr) (ns : List Int), x = .ref l ∧ SqT K H1 l (ns.map V.int) ∧ ns.length ≤ 4000 ∧ ∀ ks : List Int, ks.Nodup → (∀ k, k ∈ ks ↔ k ∈ ns) → Q (.int (ks.length : Nat)) H1
theorem pe_lenSetT {X : Cx} {a : Expr} {ta : TE} {p p2 q pos : Pos} (hg : Gl X "len") (hm : X.mg "len" = none) (hg2 : Gl X "set") (hm2 : X.mg "set" = none) (ha : PE X a ta) (hc : X.calm = true := by rfl)
    (na : starEach [a] X.env = (false, eval a X.env) :: starEach [] X.env := by rfl) : PE X (.Call (.Name "len" p) [.Call (.Name "set" p2) [a] [] q] [] pos) (tLenSetT X.K ta) := by
  constructor
  intro pins s σ H Q I h
  refine Call_ (ld_blt I hg hm (boot_len) ?_)
  refine callWith_builtin1 (args_cons ?_ rfl) rfl rfl
  refine Call_ (ld_blt I hg2 hm2 (PyProof.Rows.boot_set) ?_)
  refine callWith_type1 (args_cons (thn (ha.run pins s σ H _ I h) fun v s1 z => args_nil ?_) na) na rfl
  obtain ⟨x, H1, I1, r1, l, ns, rfl, hq, hl, k1⟩ := z
  cases r1
  obtain ⟨us, rv, pt, _⟩ := I1.tuple hq
  refine call_set_tupI ns (I1.ok.hd hc) (show s1.heap.IsTuple l us.toArray from pt) (by simpa using ints_of_vals rv) (by unfold scanBound; omega) fun h' tk c R hle kk => args_nil ?_
  obtain ⟨o, es, ep, t, ho, hex, hd, _, nd, hmem, hb, hf, hn, _⟩ := R
  have I2 : Inv X pins σ H1 { s1 with heap := h', toks := tk } := I1.kept fun b o e => kk b o e
  refine call_len_set ho hex hd hf (by unfold scanBound at hb; omega) ⟨.int (es.size : Nat), H1, I2.tok _, ⟨_, rfl⟩, ?_⟩
  have := k1 (es.toList.map keyOf) nd fun k => by rw [← hmem k, decide_eq_true_eq]
  rwa [List.length_map, Array.length_toList] at this
/-! what is never reached needs no rule -/
def tDead : TS := fun _ _ _ => False
theorem ps_dead {X : Cx} {st : Stmt} : PS X st tDead := ⟨fun _ _ _ _ _ _ h => h.elim⟩
theorem pss_dead {X : Cx} {b : List Stmt} : PSs X b tDead := ⟨fun _ _ _ _ _ _ h => h.elim⟩
def tDeadE : TE := fun _ _ _ => False
theorem pe_dead {X : Cx} {e : Expr} : PE X e tDeadE := ⟨fun _ _ _ _ _ _ h => h.elim⟩
end L2
namespace Lw
open PySem L2
/-- the distinct ones -/
def ddp : List Int → List Int
  | [] => []
  | x :: xs => if x ∈ xs then ddp xs else x :: ddp xs
theorem mem_ddp {k : Int} : ∀ {ns : List Int}, k ∈ ddp ns ↔ k ∈ ns
  | [] => by simp [ddp]
  | x :: xs => by
    unfold ddp
    by_cases h : x ∈ xs
    · rw [if_pos h, mem_ddp, List.mem_cons]
      exact ⟨.inr, fun q => q.elim (fun e => e ▸ h) id⟩
    · rw [if_neg h, List.mem_cons, List.mem_cons, mem_ddp]
theorem ddp_nodup : ∀ ns : List Int, (ddp ns).Nodup
  | [] => List.nodup_nil
  | x :: xs => by
    unfold ddp
    by_cases h : x ∈ xs
    · rw [if_pos h]; exact ddp_nodup xs
    · rw [if_neg h]; exact List.nodup_cons.mpr ⟨fun q => h (mem_ddp.mp q), ddp_nodup xs⟩
theorem ddp_le : ∀ ns : List Int, (ddp ns).length ≤ ns.length
  | [] => Nat.le_refl _
  | x :: xs => by
    have := ddp_le xs
    unfold ddp
    split <;> simp <;> omega
theorem ddp_lt : ∀ ns : List Int, (ddp ns).length < ns.length ↔ ¬ ns.Nodup
  | [] => by simp [ddp]
  | x :: xs => by
    have h1 := ddp_le xs
    have h2 := ddp_lt xs
    unfold ddp
    rw [List.nodup_cons]
    by_cases h : x ∈ xs
    · rw [if_pos h]
      simp [h]; omega
    · rw [if_neg h]
      simp [h]; exact h2
section
variable {K : PySem.W.Frag} {Γ : List G} {M M1 M2 M3 : List MO} {ds : List D} {te ta tb tc : TE} {d d1 d2 d3 : D} {ns : List Int} {r r' : R2}
theorem ev_lenSetT (h : Ev K te Γ M (.dat (.tup (ns.map D.int))) M1) (hl : ns.length ≤ 4000) : Ev K (tLenSetT K te) Γ M (.dat (.int ((ddp ns).length : Nat))) M1 := fun B as F σ H S O Q q =>
  h B as F σ H S O _ fun v B1 H1 e1 S1 r1 => by
    cases r1 with
    | tup s r =>
      have e := r.ints
      subst e
      refine ⟨_, ns, rfl, sqt S1.ex s, hl, fun ks hk hm => ?_⟩
      have p : ks.Perm (ddp ns) := (List.perm_ext_iff_of_nodup hk (ddp_nodup ns)).mpr fun k => by rw [hm, mem_ddp]
      rw [p.length_eq]
      exact q _ B1 H1 e1 S1 .int
theorem inV_int {k : Int} : ∀ {ns : List Int}, inV (.int k) (ns.map V.int) = decide (k ∈ ns)
  | [] => rfl
  | n :: ns => by
    have ih := inV_int (k := k) (ns := ns)
    unfold inV at ih ⊢
    rw [List.map_cons, List.any_cons, ih]
    show (n == k || decide (k ∈ ns)) = _
    by_cases h : k = n
    · subst h; simp
    · have : n ≠ k := fun z => h z.symm
      simp [h, this]
theorem flat_ints : ∀ ns : List Int, (ns.map V.int).all flatV = true
  | [] => rfl
  | _ :: ns => by rw [List.map_cons, List.all_cons, flat_ints ns]; rfl
theorem rv_in (neg : Bool) {k : Int} (hd : isRow d = true) (hr : rowD d = ns.map D.int) : RV K (rIn K neg) (.dat (.int k)) (.dat d) M (.dat (.bl (if neg then !decide (k ∈ ns) else decide (k ∈ ns)))) := fun B as F H x y S r1 r2 Q q => by
  cases r1
  cases d <;> first | (cases hd; done) | skip
  · cases r2 with
    | tup s r =>
      have hr' : _ = ns.map D.int := hr
      subst hr'
      have e := r.ints
      subst e
      refine ⟨_, _, rfl, .inr (sqt S.ex s), rfl, flat_ints ns, ?_⟩
      rw [inV_int]; exact q _ B H (Ex.refl B) S .bl
  · cases r2 with
    | lst s r =>
      have hr' : _ = ns.map D.int := hr
      subst hr'
      have e := r.ints
      subst e
      refine ⟨_, _, rfl, .inl (Or.inl (Or.inl (S.ex _ _ s))), rfl, flat_ints ns, ?_⟩
      rw [inV_int]; exact q _ B H (Ex.refl B) S .bl
  · cases r2 with
    | fz s r =>
      have hr' : _ = ns.map D.int := hr
      subst hr'
      have e := r.ints
      subst e
      refine ⟨_, _, rfl, .inl (ex_l S.ex s), rfl, flat_ints ns, ?_⟩
      rw [inV_int]; exact q _ B H (Ex.refl B) S .bl
/-- a < b < c and the like -/
theorem ev_chain {k m : Bool} (ha : Ev K ta Γ M (.dat d1) M1) (hb : Ev K tb Γ M1 (.dat d2) M2) (h1 : RV K r (.dat d1) (.dat d2) M2 (.dat (.bl k))) (hc : k = true → Ev K tc Γ M2 (.dat d3) M2 ∧ RV K r' (.dat d2) (.dat d3) M2 (.dat (.bl m))) :
    Ev K (tChain r r' ta tb tc) Γ M (.dat (.bl (k && m))) M2 := fun B as F σ H S O Q q =>
  ha B as F σ H S O _ fun x B1 H1 e1 S1 r1 => hb B1 as F σ H1 S1 (O.up e1) _ fun y B2 H2 e2 S2 r2 =>
    h1 B2 as F H2 x y S2 (r1.up e2) r2 _ fun z B3 H3 e3 S3 r3 => by
      cases r3
      refine ⟨k, rfl, ?_⟩
      cases k with
      | true =>
        rw [if_pos rfl]
        obtain ⟨q1, q2⟩ := hc rfl
        exact q1 B3 as F σ H3 S3 (O.up ((e1.trans e2).trans e3)) _ fun w B4 H4 e4 S4 r4 => q2 B4 as F H4 y w S4 (r2.up (e3.trans e4)) r4 _ fun v B5 H5 e5 S5 r5 =>
          q v B5 H5 ((((e1.trans e2).trans e3).trans e4).trans e5) S5 r5
      | false =>
        rw [if_neg (by simp)]
        exact q _ B3 H3 ((e1.trans e2).trans e3) S3 .bl
end
end Lw
namespace Lw
open PySem L2
def isNat (d : D) : Bool := match d with
  | .int i => decide (0 ≤ i)
  | _ => false
theorem isNat_int {d : D} (h : isNat d = true) : ∃ n : Nat, d = .int n := by
  cases d <;> first | (cases h; done) | skip
  rename_i i
  exact ⟨i.toNat, by have : 0 ≤ i := of_decide_eq_true h; rw [Int.toNat_of_nonneg this]⟩
theorem all_isNat : ∀ {xs : List D}, xs.all isNat = true → ∃ ns : List Nat, xs = ns.map fun n : Nat => D.int n
  | [], _ => ⟨[], rfl⟩
  | x :: xs, h => by
    rw [List.all_cons, Bool.and_eq_true] at h
    obtain ⟨n, rfl⟩ := isNat_int h.1
    obtain ⟨ns, rfl⟩ := all_isNat h.2
    exact ⟨n :: ns, rfl⟩
def intsD (xs : List D) : List Int := xs.filterMap fun d => match d with
  | .int i => some i
  | _ => none
theorem intsD_map : ∀ ns : List Int, intsD (ns.map D.int) = ns
  | [] => rfl
  | n :: ns => by
    have := intsD_map ns
    unfold intsD at this ⊢
    rw [List.map_cons, List.filterMap_cons, this]
/-- distinct numbers from 0 on, in order -/
def dnum (d : D) : D := if isRow d && (rowD d).all isNat && decide ((intsD (rowD d)).Nodup) then .tup ((srt (intsD (rowD d))).map D.int) else .non
end Lw
namespace Lw
open PySem L2
def numsO (d : D) : Option (List Int) := if isRow d && (rowD d).all isNat && decide ((intsD (rowD d)).Nodup) then some (srt (intsD (rowD d))) else none
theorem dnum_none {d : D} (h : numsO d = none) : dnum d = .non := by
  unfold numsO at h; unfold dnum
  split at h
  · cases h
  · rename_i c; rw [if_neg c]
theorem dnum_some {d : D} {ns : List Int} (h : numsO d = some ns) : dnum d = .tup (ns.map D.int) := by
  unfold numsO at h; unfold dnum
  split at h
  · rename_i c; rw [if_pos c]; cases h; rfl
  · cases h
def lotL (d : D) (n : Int) : Option (List Int) := match numsO d with
  | some ns => if ns.all (fun k => decide (k < n)) then some ns else none
  | none => none
end Lw
namespace Lw
open PySem L2
section
variable {K : PySem.W.Frag} {Γ : List G} {M M1 : List MO} {ds : List D} {te : TE} {ta : TA}
theorem ei_anyT (h : Ev K te Γ M (.dat (.tup ds)) M1) : EvI K (iAny K te) Γ M ds M1 := ei_any h rfl
theorem ei_anyL (h : Ev K te Γ M (.dat (.lst ds)) M1) : EvI K (iAny K te) Γ M ds M1 := ei_any h rfl
theorem ei_anyF (h : Ev K te Γ M (.dat (.fz ds)) M1) : EvI K (iAny K te) Γ M ds M1 := ei_any h rfl
theorem ei_enumT (h : EvA K ta Γ M [.dat (.tup ds)] M1) : EvI K (iEnumA K ta) Γ M (enumD ds) M1 := ei_enumA h rfl
theorem ei_enumL (h : EvA K ta Γ M [.dat (.lst ds)] M1) : EvI K (iEnumA K ta) Γ M (enumD ds) M1 := ei_enumA h rfl
end
end Lw
namespace L2
open PySem PySem.Spec PyProof.Rows
section
variable {X : Cx} {K : PySem.W.Frag}
theorem op_in_seqQ (h : X.K = K) : OpR X (compareOp .In) (rIn K false) := h ▸ op_in_seq
theorem op_notIn_seqQ (h : X.K = K) : OpR X (compareOp .NotIn) (rIn K true) := h ▸ op_notIn_seq
theorem ix_seqQ (h : X.K = K) : IxR X (rIx K) := h ▸ ix_seq
theorem call_isiQ (h : X.K = K) : CallR X (.builtin "isinstance") (rIsi K) := h ▸ call_isi
theorem call_isiTQ (h : X.K = K) : CallR X (.builtin "isinstance") (rIsiT K) := h ▸ call_isiT
theorem call_len_seqQ (h : X.K = K) : CallR X (.builtin "len") (fun xs H Q => ∃ p ys, xs = [.ref p] ∧ (SqL K H p ys ∨ SqT K H p ys) ∧ Q (.int ys.length) H) := h ▸ call_len_seq
theorem cr_sumQ (h : X.K = K) (hc : X.calm = true) : CallR X (.builtin "sum") (rSum K) := h ▸ cr_sum hc
theorem cr_allQ (h : X.K = K) (hc : X.calm = true) : CallR X (.builtin "all") (rAll K) := h ▸ cr_all hc
end
end L2
namespace L2
open PySem PySem.Spec PyProof.Rows
section
variable {X : Cx} {K : PySem.W.Frag}
theorem op_catAQ (h : X.K = K) : OpR X (binaryOp .Add) (rCatA K) := h ▸ op_catA
theorem pi_anyQ {tg l : Expr} {tl : TE} (h : X.K = K) (hl : PE X l tl) : PI X tg l (Lw.iAny K tl) := h ▸ Lw.pi_any hl
end
end L2
namespace Lw
open PySem L2
section
variable {K : PySem.W.Frag} {M : List MO} {ds es : List D}
theorem rv_catA (hz : ds.length + es.length ≤ sizeLine) : RV K (rCatA K) (.dat (.tup ds)) (.dat (.tup es)) M (.dat (.tup (ds ++ es))) := fun B as F H x y S r1 r2 Q q => by
  cases r1 with
  | tup s1 r1 => cases r2 with
    | tup s2 r2 =>
      have l1 := r1.len
      have l2 := r2.len
      refine ⟨_, _, _, _, rfl, rfl, sqt S.ex s1, sqt S.ex s2, by omega, fun e => ?_, fun _ e => ?_, fun _ _ p hp => ?_⟩
      · have : ds = [] := by cases ds with
          | nil => rfl
          | cons d ds => subst e; cases l1
        subst this
        exact q _ B H (Ex.refl B) S (.tup s2 r2)
      · have : es = [] := by cases es with
          | nil => rfl
          | cons d ds => subst e; cases l2
        subst this
        rw [List.append_nil] at q
        exact q _ B H (Ex.refl B) S (.tup s1 r1)
      · exact q _ _ _ (Ex.new (S.nb hp)) (S.new hp) (.tup upd_same ((r1.append r2).up (Ex.new (S.nb hp))))
end
end Lw
namespace Lw
open PySem L2
theorem atI_nat {α : Type} {xs : List α} {k : Nat} {x : α} (h : xs[k]? = some x) : atI xs (k : Int) = some x := by
  have l := (List.getElem?_eq_some_iff.mp h).1
  unfold atI ixN
  rw [if_pos (by omega), if_pos (by omega), Int.toNat_natCast]
  exact h
theorem atI_eq {α : Type} {xs : List α} {k : Nat} {i : Int} {x : α} (e : i = k) (h : xs[k]? = some x) : atI xs i = some x := by rw [e]; exact atI_nat h
end Lw

set_option Elab.async false
set_option linter.all false
set_option maxRecDepth 100000
set_option maxHeartbeats 4000000
/-! zip of two things, each a list or a tuple -/
namespace Lw
open PySem L2 PySem.Spec PyProof.Rows
/-- a list (false) or a tuple (true) -/
def SqB (k : Bool) (K : PySem.W.Frag) (H : Hp) (a : Addr) (xs : List V) : Prop := match k with
  | false => SqL K H a xs
  | true => SqT K H a xs
def ItAt (k : Bool) (h : Heap) (it a : Addr) (i : Nat) : Prop := match k with
  | false => h.IsListIter it a i
  | true => h.IsTupleIter it a i
def IsB (k : Bool) (h : Heap) (a : Addr) (us : Array Value) : Prop := match k with
  | false => h.IsList a us
  | true => h.IsTuple a us
def ItzB (K : PySem.W.Frag) (k l : Bool) (a b : Addr) : It :=
  ⟨fun i H => ∃ (ps qs : List V) (p q : V), SqB k K H a ps ∧ SqB l K H b qs ∧ ps[i]? = some p ∧ qs[i]? = some q,
   fun i H v H' => ∃ T p q, v = .ref T ∧ H T = none ∧ H' = upd H T (.tup [p, q]) ∧ (∀ ps, SqB k K H a ps → ps[i]? = some p) ∧ (∀ qs, SqB l K H b qs → qs[i]? = some q),
   fun i H => ∃ ps qs : List V, SqB k K H a ps ∧ SqB l K H b qs ∧ (ps.length ≤ i ∨ qs.length ≤ i)⟩
section
variable {X : Cx} {pins : List (Addr × Obj)} {σ : L2.St} {H : Hp} {s : Shared} {a : Addr} {ps qs : List V} {k : Bool}
theorem sqB_at (I : Inv X pins σ H s) (h : SqB k X.K H a ps) : ∃ us, Vals ps us ∧ IsB k s.heap a us.toArray ∧ a < s.heap.objs.size := by
  cases k with
  | false =>
    obtain ⟨us, r, q, _⟩ := I.list h
    have q' : s.heap.IsList a us.toArray := q.isList
    obtain ⟨o, ho, _⟩ := id q'
    exact ⟨us, r, q', Heap.lt_size ho⟩
  | true =>
    obtain ⟨us, r, q, _⟩ := I.tuple h
    have q' : s.heap.IsTuple a us.toArray := q
    obtain ⟨o, ho, _⟩ := id q'
    exact ⟨us, r, q', Heap.lt_size ho⟩
theorem sqB_one (I : Inv X pins σ H s) (h : SqB k X.K H a ps) (h' : SqB k X.K H a qs) : ps = qs := by
  cases k with
  | false => exact I.list_inj h h'
  | true => exact I.tuple_inj h h'
theorem drawsB {P : Program} {w : World} {A : Around} (hh : A.handled = none) (k : Bool) (it a : Addr) (ne : a ≠ it) (us : Array Value) :
    PySem.Draws P w A it [it, a] us.size (fun i v => us[i]? = some v) (fun i h => ItAt k h it a i ∧ IsB k h a us) := by
  cases k with
  | false => exact Draws.list hh it a ne us
  | true => exact Draws.tuple hh it a ne us
theorem itAt_fields {h : Heap} {it : Addr} {i : Nat} (e : ItAt k h it a i) : ∃ o, h.get? it = some o ∧ ∀ v, o.data ≠ .cell v := by
  cases k with
  | false => obtain ⟨o, e1, _, e2⟩ := e; exact ⟨o, e1, fun v q => by rw [e2] at q; cases q⟩
  | true => obtain ⟨o, e1, _, e2⟩ := e; exact ⟨o, e1, fun v q => by rw [e2] at q; cases q⟩
theorem itAt_keep {h h' : Heap} {it : Addr} {i : Nat} (e : ItAt k h it a i) (q : ∀ o, h.get? it = some o → h'.get? it = some o) : ItAt k h' it a i := by
  cases k with
  | false => exact Heap.IsListIter.at e q
  | true => exact Heap.IsTupleIter.at e q
theorem drawsE {P : Program} {w : World} {A : Around} (hh : A.handled = none) (k : Bool) (it a : Addr) (ne : a ≠ it) (us : Array Value) (i : Nat) :
    ∃ (n : Nat) (Pv : Nat → Value → Prop) (St : Nat → Heap → Prop), PySem.Draws P w A it [it, a] n Pv St ∧ (∀ h, ItAt k h it a i → IsB k h a us → St i h) ∧ i ≤ n ∧ (us.size ≤ i → i = n) := by
  by_cases c : i ≤ us.size
  · exact ⟨us.size, _, _, drawsB hh k it a ne us, fun h e q => ⟨e, q⟩, c, fun c' => by omega⟩
  · refine ⟨i, fun _ _ => True, fun j h => j = i ∧ ItAt k h it a i ∧ IsB k h a us, ⟨fun j h st => ?_, fun j h h' st kp => ?_, fun j s Q E hj st hQ => ?_, fun s Q E st hE => ?_⟩, fun h e q => ⟨rfl, e, q⟩, Nat.le_refl _, fun _ => rfl⟩
    · obtain ⟨o, e, _⟩ := itAt_fields st.2.1; exact ⟨o, e⟩
    · refine ⟨st.1, itAt_keep st.2.1 fun o e => kp it (by simp) o e, ?_⟩
      cases k with
      | false => exact Heap.IsList.at st.2.2 fun o e => kp a (by simp) o e
      | true => exact Heap.IsTuple.at st.2.2 fun o e => kp a (by simp) o e
    · exact absurd st.1 (Nat.ne_of_lt hj)
    · cases k with
      | false => exact wpAny_nextOf_list_end hh st.2.1 st.2.2 (Array.getElem?_eq_none (by omega)) hE
      | true => exact RZ.nextOf_tuple_end hh st.2.1 st.2.2 (Array.getElem?_eq_none (by omega)) hE
def itObj (k : Bool) (a : Addr) : Obj := { cls := .type (if k then "tuple_iterator" else "list_iterator"), data := .fields #[.ref a, .int 0 0] }
theorem beginsB (k : Bool) (a : Addr) (us : Array Value) : Begins (.ref a) (itObj k a) fun h => IsB k h a us := by
  cases k with
  | false => exact begins_list a us
  | true => exact begins_tuple a us
theorem itObj_at {h : Heap} {it : Addr} (e : h.get? it = some (itObj k a)) : ItAt k h it a 0 := by
  cases k with
  | false => exact ⟨_, e, rfl, rfl⟩
  | true => exact ⟨_, e, rfl, rfl⟩
theorem isB_ne {h : Heap} {it b : Addr} {i : Nat} {l : Bool} {us : Array Value} (e : ItAt k h it a i) (q : IsB l h b us) : b ≠ it := by
  intro z
  subst z
  have e1 : ∃ o, h.get? b = some o ∧ (o.cls = .type "list_iterator" ∨ o.cls = .type "tuple_iterator") := by
    cases k with
    | false => obtain ⟨o, h1, h2, _⟩ := e; exact ⟨o, h1, .inl h2⟩
    | true => obtain ⟨o, h1, h2, _⟩ := e; exact ⟨o, h1, .inr h2⟩
  have e2 : ∃ o, h.get? b = some o ∧ (o.cls = .type "list" ∨ o.cls = .type "tuple") := by
    cases l with
    | false => obtain ⟨o, h1, h2, _⟩ := q; exact ⟨o, h1, .inl h2⟩
    | true => obtain ⟨o, h1, h2, _⟩ := q; exact ⟨o, h1, .inr h2⟩
  obtain ⟨o, h1, c1⟩ := e1
  obtain ⟨o', h2, c2⟩ := e2
  rw [h1] at h2; cases h2
  rcases c1 with c1 | c1 <;> rcases c2 with c2 | c2 <;> (rw [c1] at c2; exact absurd c2 (by intro z; injection z with z; exact absurd z (by decide)))
theorem isB_lay {h : Heap} {us : Array Value} (q : IsB k h a us) : ∃ o, h.get? a = some o ∧ (o.cls = .type "list" ∨ o.cls = .type "tuple") := by
  cases k with
  | false => obtain ⟨o, h1, h2, _⟩ := q; exact ⟨o, h1, .inl h2⟩
  | true => obtain ⟨o, h1, h2, _⟩ := q; exact ⟨o, h1, .inr h2⟩
end
/-- the five cells of a zip lie apart -/
structure Ap (z TI TO i1 i2 : Addr) : Prop where
  a1 : TI ≠ z
  a2 : TO ≠ z
  a3 : TI ≠ TO
  a4 : TI ≠ i1
  a5 : TI ≠ i2
  a6 : i1 ≠ z
  a7 : i2 ≠ z
  a8 : i1 ≠ TO
  a9 : i2 ≠ TO
  b1 : i1 ≠ i2
section
variable {P : Program} {w : World} {K : PySem.W.Frag} {elts : List Expr} {kk : Nat} {tpos : Pos} {a b z TI TO i1 i2 : Addr} {k l : Bool}
theorem sep_of {h : Heap} {p q : Value} {n1 n2 : Nat} {us vs : Array Value} (ap : Ap z TI TO i1 i2) (hz : IsZip h z TI TO .none) (hTO : IsTupOf2 h TO p q) (e1 : ItAt k h i1 a n1) (e2 : ItAt l h i2 b n2) (q1 : IsB k h a us) (q2 : IsB l h b vs)
    (hna : a ≠ TO) (hnb : b ≠ TO) : ZipSep2 z TI TO i1 i2 [i1, a] [i2, b] := by
  have zc : ∀ {c : Addr} {m : Bool} {ws : Array Value}, IsB m h c ws → c ≠ z := fun {c m ws} q e => by
    subst e
    obtain ⟨o, h1, h2⟩ := isB_lay q
    have : some o = some _ := h1.symm.trans hz
    cases this
    rcases h2 with h2 | h2 <;> exact absurd h2 (by intro z; injection z with z; exact absurd z (by decide))
  exact { TIz := ap.a1, TOz := ap.a2, TITO := ap.a3, TIi1 := ap.a4, mem1 := by simp, zf1 := by simp; exact ⟨ap.a6.symm, (zc q1).symm⟩, Tf1 := by simp; exact ⟨ap.a8.symm, hna.symm⟩,
          TIi2 := ap.a5, mem2 := by simp, zf2 := by simp; exact ⟨ap.a7.symm, (zc q2).symm⟩, Tf2 := by simp; exact ⟨ap.a9.symm, hnb.symm⟩,
          sep1_2 := by simp; exact ⟨ap.b1, (isB_ne e1 q2).symm⟩, sep2_1 := by simp; exact ⟨ap.b1.symm, (isB_ne e2 q1).symm⟩ }
theorem turn_zipB (ap : Ap z TI TO i1 i2) (hna : a ≠ TO) (hnb : b ≠ TO) :
    Turn P w K (.Tuple elts kk tpos) (ItzB K k l a b) [z, TI, TO, i1, i2] z (fun i h => IsZip h z TI TO .none ∧ IsTupOf2 h TI (.ref i1) (.ref i2) ∧ (∃ p q, IsTupOf2 h TO p q) ∧ ItAt k h i1 a i ∧ ItAt l h i2 b i) where
  mem := List.mem_cons_self
  obj := fun i h st c hc => by
    obtain ⟨g1, g2, ⟨p, q, g3⟩, g4, g5⟩ := st
    simp only [List.mem_cons, List.not_mem_nil, or_false] at hc
    rcases hc with rfl | rfl | rfl | rfl | rfl
    · exact ⟨_, g1, fun v q => nomatch q⟩
    · exact ⟨_, g2, fun v q => nomatch q⟩
    · exact ⟨_, g3, fun v q => nomatch q⟩
    · exact itAt_fields g4
    · exact itAt_fields g5
  keep := fun i h h' st kp => by
    obtain ⟨g1, g2, ⟨p, q, g3⟩, g4, g5⟩ := st
    have cl : ∀ {c}, c ∈ [z, TI, TO, i1, i2] → ∀ o, h.get? c = some o → h'.get? c = some o := fun hc o e => kp _ hc o e
    exact ⟨cl (by simp) _ g1, cl (by simp) _ g2, ⟨p, q, cl (by simp) _ g3⟩, itAt_keep g4 (cl (by simp)), itAt_keep g5 (cl (by simp))⟩
  item := by
    rintro X rfl rfl rfl hc i pins s σ H E I hf ⟨g1, g2, ⟨p0, q0, g3⟩, g4, g5⟩ ⟨ps, qs, p, q, sa, sq, hp, hq⟩
    obtain ⟨us, ru, ua, _⟩ := sqB_at I sa
    obtain ⟨vs, rv, va, _⟩ := sqB_at I sq
    obtain ⟨u, hu, ru'⟩ := ru.get hp
    obtain ⟨v, hv, rv'⟩ := rv.get hq
    have sp := sep_of ap g1 g3 g4 g5 ua va hna hnb
    have l1 : i < us.toArray.size := by rw [List.size_toArray]; exact (List.getElem?_eq_some_iff.mp hu).1
    have l2 : i < vs.toArray.size := by rw [List.size_toArray]; exact (List.getElem?_eq_some_iff.mp hv).1
    have zl : z < s.heap.objs.size := Heap.lt_size g1
    refine wpAny_pyNext_zipD2_item sp (drawsB (P := X.prog) (w := X.w) (A := X.A.in1) (I.ok.hd hc) k i1 a (isB_ne g4 ua) us.toArray) (drawsB (P := X.prog) (w := X.w) (A := X.A.in1) (I.ok.hd hc) l i2 b (isB_ne g5 va) vs.toArray) g1 g2 g3 ⟨g4, ua⟩ ⟨g5, va⟩ l1 l2 fun x y h1 tk hx hy z1 o1 t1 t2 T1 _ kp => ?_
    have ex : x = u := by
      have : us.toArray[i]? = some u := by simpa using hu
      rw [this] at hx; exact (Option.some.inj hx).symm
    have ey : y = v := by
      have : vs.toArray[i]? = some v := by simpa using hv
      rw [this] at hy; exact (Option.some.inj hy).symm
    subst ex; subst ey
    refine ⟨_, rfl, wpAny_letOwnedTupleGo_zip (s := { s with heap := h1, toks := tk }) z1 fun h2 z2 sb => ?_⟩
    have cell : ∀ {c}, c ∈ [z, TI, TO, i1, i2] → c < s.heap.objs.size := fun {c} hc' => by
      simp only [List.mem_cons, List.not_mem_nil, or_false] at hc'
      rcases hc' with rfl | rfl | rfl | rfl | rfl
      · exact Heap.lt_size g1
      · exact Heap.lt_size g2
      · exact Heap.lt_size g3
      · obtain ⟨o, e, _⟩ := itAt_fields g4; exact Heap.lt_size e
      · obtain ⟨o, e, _⟩ := itAt_fields g5; exact Heap.lt_size e
    have T2 : h2.get? s.heap.objs.size = some { cls := .type "tuple", data := .seq #[x, y] } := (sb.2 _ (Nat.ne_of_gt zl)).trans T1
    have nw : ObjOk X.prog X.w (upd H s.heap.objs.size (.tup [p, q])) h2 s.heap.objs.size (.tup [p, q]) :=
      ⟨show 2 ≤ sizeLine by decide, [x, y], Paired.cons ru' (Paired.cons rv' Paired.nil), _, T2, rfl, _, rfl⟩
    have keepC : ∀ c o, c ∉ [z, TI, TO, i1, i2] → s.heap.get? c = some o → h2.get? c = some o := fun c o hn e => by
      simp only [List.mem_cons, List.not_mem_nil, or_false, not_or] at hn
      exact (sb.2 c hn.1).trans (kp c o hn.1 hn.2.2.1 hn.2.2.2.1 hn.2.2.2.2 e)
    refine ⟨.ref s.heap.objs.size, _, I.turnedNew (t' := tk) (ch := [z, TI, TO, i1, i2]) keepC hf (Nat.le_refl _) nw, rfl,
      ⟨_, p, q, rfl, I.hok.fresh (Nat.le_refl _), rfl, fun ps' h => by rw [sqB_one I h sa]; exact hp, fun qs' h => by rw [sqB_one I h sq]; exact hq⟩, ⟨z2, ?_, ⟨x, y, ?_⟩, ?_, ?_⟩, fun c hc' => ?_⟩
    · exact (sb.2 _ ap.a1).trans (kp _ _ ap.a1 ap.a3 ap.a4 ap.a5 g2)
    · exact (sb.2 _ ap.a2).trans o1
    · exact itAt_keep t1.1 fun o e => (sb.2 _ ap.a6).trans e
    · exact itAt_keep t2.1 fun o e => (sb.2 _ ap.a7).trans e
    · rw [upd_ne (Nat.ne_of_lt (cell hc'))]
      exact (hf c hc').1
  done := by
    rintro X rfl rfl rfl hc i pins s σ H E I hf ⟨g1, g2, ⟨p0, q0, g3⟩, g4, g5⟩ ⟨ps, qs, sa, sb, he⟩
    obtain ⟨us, ru, ua, _⟩ := sqB_at I sa
    obtain ⟨vs, rv, va, _⟩ := sqB_at I sb
    obtain ⟨n1, P1, S1, D1, st1, le1, end1⟩ := drawsE (P := X.prog) (w := X.w) (A := X.A.in1) (I.ok.hd hc) k i1 a (isB_ne g4 ua) us.toArray i
    obtain ⟨n2, P2, S2, D2, st2, le2, end2⟩ := drawsE (P := X.prog) (w := X.w) (A := X.A.in1) (I.ok.hd hc) l i2 b (isB_ne g5 va) vs.toArray i
    have sp := sep_of ap g1 g3 g4 g5 ua va hna hnb
    refine wpAny_pyNext_zipD2_end sp D1 D2 g1 g2 g3 (st1 _ g4 ua) (st2 _ g5 va) le1 le2 ?_ fun h' tk kp => ⟨rfl, ?_⟩
    · have m1 := ru.length
      have m2 := rv.length
      rcases he with he | he
      · exact .inl (end1 (by rw [List.size_toArray]; omega))
      · exact .inr (end2 (by rw [List.size_toArray]; omega))
    · refine I.turnedL (t' := tk) (ch := [z, TI, TO, i1, i2]) (fun c o hn e => ?_) hf
      simp only [List.mem_cons, List.not_mem_nil, or_false, not_or] at hn
      exact kp c o hn.1 hn.2.2.1 hn.2.2.2.1 hn.2.2.2.2 e
  self := fun A i s Q E st h => wpAny_pyIter_zip st.1 h
end
def iZipB (K : PySem.W.Frag) (ta : TA) : TI := fun σ H R => ta σ H fun vs H1 => ∃ a b k l ps qs, vs = [.ref a, .ref b] ∧ SqB k K H1 a ps ∧ SqB l K H1 b qs ∧ R (ItzB K k l a b) H1
theorem pi_zipB {X : Cx} {e e2 : Expr} {ta : TA} {p pos tpos : Pos} {elts : List Expr} {kk : Nat} (hg : Gl X "zip") (hm : X.mg "zip" = none) (ha : PA X [e, e2] ta)
    (h1 : starEach [e, e2] X.env = (false, eval e X.env) :: starEach [e2] X.env := by rfl) (h2 : (backTo pos (starEach [e2] X.env)).any (·.1) = false := by rfl) :
    PI X (.Tuple elts kk tpos) (.Call (.Name "zip" p) [e, e2] [] pos) (iZipB X.K ta) := by
  refine ⟨fun pins s σ H R I h => Call_ (ld_blt I hg hm PyProof.Rows.boot_zip (PyProof.Rows.callWith_type1 (thn (ha.run pos pins s σ H _ I h) fun us s1 ⟨vs, H1, I1, r1, q1⟩ => ?_) h1 h2))⟩
  obtain ⟨a, b, k, l, ps, qs, rfl, sa, sq, q⟩ := q1
  obtain ⟨u, rfl, u2, rfl⟩ : ∃ u, u = Value.ref a ∧ ∃ u2, u2 = Value.ref b := ⟨_, rfl, _, rfl⟩
  have eu : us = [.ref a, .ref b] := by
    cases r1 with
    | cons r rr => cases rr with
      | cons r' rr => cases rr; cases r; cases r'; rfl
  subst eu
  obtain ⟨ws, _, wa, la⟩ := sqB_at I1 sa
  obtain ⟨xs, _, xa, lb⟩ := sqB_at I1 sq
  refine zip_begins2 (beginsB k a ws.toArray) (beginsB l b xs.toArray) wa xa fun h' z1 t1 t2 o1 o2 _ kp => wpAny_pyIter_zip z1 ?_
  have ap : ∀ n : Nat, Ap (n + 4) (n + 2) (n + 3) n (n + 1) := fun n => by
    constructor <;> (intro z; have z : (_ : Nat) = _ := z; omega)
  have cells : ∀ n c : Nat, c ∈ [n + 4, n + 2, n + 3, n, n + 1] → n ≤ c := fun n c hc => by
    simp only [List.mem_cons, List.not_mem_nil, or_false] at hc
    omega
  have far : ∀ n c : Nat, c < n → c ≠ n + 3 := fun n c hc => by omega
  exact ⟨_, _, _, _, H1, rfl, I1.kept (t' := s1.toks) kp, turn_zipB (ap s1.heap.objs.size) (far _ _ la) (far _ _ lb), ⟨z1, t1, ⟨_, _, t2⟩, itObj_at o1, itObj_at o2⟩, fun c hc => I1.fpOk (cells _ _ hc) (I1.hok.fresh (cells _ _ hc)), q⟩
theorem pi_zipBQ {X : Cx} {K : PySem.W.Frag} {e e2 : Expr} {ta : TA} {p pos tpos : Pos} {elts : List Expr} {kk : Nat} (h : X.K = K) (hg : Gl X "zip") (hm : X.mg "zip" = none) (ha : PA X [e, e2] ta)
    (h1 : starEach [e, e2] X.env = (false, eval e X.env) :: starEach [e2] X.env := by rfl) (h2 : (backTo pos (starEach [e2] X.env)).any (·.1) = false := by rfl) :
    PI X (.Tuple elts kk tpos) (.Call (.Name "zip" p) [e, e2] [] pos) (iZipB K ta) := h ▸ pi_zipB hg hm ha h1 h2
/-- a list or a tuple told as data -/
theorem row_sq {K : PySem.W.Frag} {B H : Hp} {v : V} {d : D} (e : Ex B H) (r : Rep K B v d) (hd : isRow d = true) : ∃ k a vs, v = .ref a ∧ SqB k K B a vs ∧ Reps K B vs (rowD d) := by
  cases d <;> first | (cases hd; done) | skip
  · cases r with
    | tup s r => exact ⟨true, _, _, rfl, sqt (Ex.refl _) s, r⟩
  · cases r with
    | lst s r => exact ⟨false, _, _, rfl, Or.inl (Or.inl s), r⟩
  · cases r with
    | fz s r => exact ⟨false, _, _, rfl, s, r⟩
theorem sqB_up {k : Bool} {K : PySem.W.Frag} {B H : Hp} {a : Addr} {vs : List V} (e : Ex B H) (s : SqB k K B a vs) : SqB k K H a vs := by
  cases k with
  | false => exact ex_l e s
  | true => exact ex_t e s
theorem walkD_zipB {K : PySem.W.Frag} {B : Hp} {k l : Bool} {a b : Addr} {vs ws : List V} {ds es : List D} (s : SqB k K B a vs) (r : Reps K B vs ds) (s' : SqB l K B b ws) (r' : Reps K B ws es) : WalkD K (ItzB K k l a b) B (zipD ds es) := by
  have hl : (zipD ds es).length = min ds.length es.length := by simp [zipD]
  constructor
  · intro i H hi e
    rw [hl] at hi
    have h1 : i < vs.length := by rw [r.len]; omega
    have h2 : i < ws.length := by rw [r'.len]; omega
    exact ⟨vs, ws, vs[i], ws[i], sqB_up e s, sqB_up e s', by simp, by simp⟩
  · intro H e
    exact ⟨vs, ws, sqB_up e s, sqB_up e s', by rw [hl, r.len, r'.len]; omega⟩
  · rintro i H x H' hi e ⟨T, x', y', rfl, h2, rfl, h4, h5⟩
    obtain ⟨d, hd, rd⟩ := r.getV (h4 vs (sqB_up e s))
    obtain ⟨d', hd', rd'⟩ := r'.getV (h5 ws (sqB_up e s'))
    refine ⟨.tup [d, d'], ?_, fun B2 as M F e2 S => ?_⟩
    · unfold zipD
      rw [List.getElem?_map, (List.getElem?_zip_eq_some (z := (d, d'))).mpr ⟨hd, hd'⟩]
      rfl
    · have u := e2.trans (Ex.new (o := .tup [x', y']) (S.nb h2))
      exact ⟨upd B2 T (.tup [x', y']), Ex.new (S.nb h2), S.new h2, .tup upd_same (.cons (rd.up u) (.cons (rd'.up u) .nil))⟩
end Lw

set_option Elab.async false
set_option linter.all false
set_option maxRecDepth 100000
set_option maxHeartbeats 4000000
/-! a, b, .. = a list; sorted of a dict's keys, tuples of ints -/
namespace Lw
open PySem L2 PySem.Spec PyProof.Rows
section
variable {prog : Program} {w : World} {A : Around} {E : Value → Shared → Prop}
theorem draw_list {it a : Addr} {us : Array Value} (ne : a ≠ it) : ∀ (k j : Nat) (s : Shared) (Q : List Value → Shared → Prop), s.heap.IsListIter it a j → s.heap.IsList a us → j + k ≤ us.size →
    (∀ h, h.IsListIter it a (j + k) → Heap.SameBut it s.heap h → Q ((us.toList.drop j).take k) { s with heap := h }) → wpAny (model prog w) A (draw (.ref it) k) Q E s := by
  intro k
  induction k with
  | zero =>
    intro j s Q hit _ _ q
    have z := q s.heap hit (Heap.SameBut.refl ..)
    rw [List.take_zero] at z
    exact wpAny_pure z
  | succ k ih =>
    intro j s Q hit hl hle q
    have lt : j < us.size := by omega
    show wpAny _ _ (pyNext (.ref it) >>= _) Q E s
    refine wpAny_bind (wpAny_pyNext_list_item (x := us[j]) hit hl (Array.getElem?_eq_getElem lt) fun h1 i1 b1 => wpAny_bind (wpAny_holding ?_))
    refine ih (j + 1) _ _ i1 (hl.extBut b1.extBut ne) (by omega) fun h2 i2 b2 => wpAny_pure ?_
    have e : us.toList.drop j = us[j] :: us.toList.drop (j + 1) := by
      rw [List.drop_eq_getElem_cons (by simpa using lt)]; simp
    have z := q h2 (by rw [show j + (k + 1) = j + 1 + k by omega]; exact i2) (b1.trans b2)
    rw [e, List.take_succ_cons] at z
    exact z
theorem unpack_list {a : Addr} {us : Array Value} {tgs : List (Bool × (Value → Sem Unit))} {s : Shared} {Q : Unit → Shared → Prop} (hh : A.handled = none) (hl : s.heap.IsList a us) (hn : tgs.length = us.size) (hst : tgs.findIdx? (·.1) = none)
    (q : ∀ h, Heap.ExtBut s.heap.objs.size s.heap h → wpAny (model prog w) A (assignInOrder (tgs.map (·.2)) us.toList) Q E { s with heap := h }) : wpAny (model prog w) A (unpack (.ref a) tgs) Q E s := by
  have far : a ≠ s.heap.objs.size := by
    obtain ⟨o, ho, _⟩ := hl
    exact Nat.ne_of_lt (Heap.lt_size ho)
  unfold unpack
  rw [hn, hst]
  refine wpAny_bind (wpAny_holding ?_)
  unfold unpackItems notIterableAtAll
  refine wpAny_bind (wpAny_bind (wpAny_specialOf hl.typeIs PySem.F.slot_list_iter.lookup (wpAny_pure ?_)))
  simp only [Bool.false_eq_true, if_false]
  refine wpAny_bind (wpAny_holding (wpAny_pyIter_list hl (wpAny_bind (wpAny_holding ?_))))
  refine draw_list far us.size 0 _ _ ⟨_, Heap.get?_push_size _ rfl, rfl, rfl⟩ (hl.push _) (Nat.le_of_eq (Nat.zero_add _)) fun h1 i1 b1 => ?_
  have all : (us.toList.drop 0).take us.size = us.toList := by
    rw [List.drop_zero, List.take_of_length_le (by simp)]
  rw [all, if_neg (by simp)]
  refine wpAny_bind (wpAny_holding (wpAny_pyNext_list_end hh i1 ((hl.push _).extBut b1.extBut far) (Array.getElem?_eq_none (by omega)) fun h2 b2 => ?_))
  simp only [Option.isSome_none, Bool.false_eq_true, if_false]
  exact wpAny_pure (q h2 fun b o hb e => b2 b o hb (b1.extBut b o hb (Heap.get?_push_of_some _ e)))
end
/-- (a, b, ..) = a list or a tuple of that length -/
def gRow (K : PySem.W.Frag) (n : Nat) (t : TGs) : TG := fun v σ H Q => ∃ k a xs, v = .ref a ∧ SqB k K H a xs ∧ xs.length = n ∧ t xs σ H Q
theorem pg_row {X : Cx} {es : List Expr} {k : Nat} {pos : Pos} {t : TGs} {n : Nat} (hc : X.calm = true) (h : PGs X es t) (hn : (assignEach es X.env).length = n := by rfl) (hst : (assignEach es X.env).findIdx? (·.1) = none := by rfl) :
    PG X (.Tuple es k pos) (gRow X.K n t) := by
  refine ⟨fun pins s σ H v u Q I r hw => ?_⟩
  obtain ⟨kd, a, xs, rfl, hq, hl, hw⟩ := hw
  cases r
  cases kd with
  | true => exact (pg_tup (pos := pos) hc h hn hst).run pins s σ H (.ref a) (.ref a) Q I rfl ⟨a, xs, rfl, hq, hl, hw⟩
  | false =>
    obtain ⟨us, rv, ht, _⟩ := I.list hq
    have lu : (assignEach es X.env).length = us.toArray.size := by rw [hn, ← hl, rv.length, List.size_toArray]
    rw [arm_assign_Tuple]
    refine wpAny_bind (wpAny_standAt (unpack_list (I.ok.hd hc) ht.isList lu hst fun h' hx => ?_))
    have I1 : Inv X pins σ H { s with heap := h' } := I.kept (t' := s.toks) fun b o e => hx b o (Nat.ne_of_lt (Heap.lt_size e)) e
    exact h.run pins _ σ H xs _ Q I1 rv hw
theorem pg_rowQ {X : Cx} {K : PySem.W.Frag} {es : List Expr} {k : Nat} {pos : Pos} {t : TGs} {n : Nat} (hK : X.K = K) (hc : X.calm = true) (h : PGs X es t) (hn : (assignEach es X.env).length = n := by rfl) (hst : (assignEach es X.env).findIdx? (·.1) = none := by rfl) :
    PG X (.Tuple es k pos) (gRow K n t) := hK ▸ pg_row hc h hn hst

/-- sorted(d), d a dict of fewer than 64 keys, each a tuple of m ints in [0, top) -/
def rSortK (m : Nat) (top : Int) : List V → Hp → L2.VK → Prop := fun vs H Q => ∃ (a : Addr) (kvs : List (List L2.Key × V)) (ks : List (List Int)), vs = [.ref a] ∧ Rd H a (.dT kvs) ∧ kvs.map (·.1) = ks.map (fun k => k.map Sum.inl) ∧ ks.length < 64 ∧ (∀ k ∈ ks, k.length = m ∧ TS.Bd top k) ∧
  ∀ (ys : List (List Int)) (bs : List Addr) (p : Addr), ys.Perm ks → ys.Pairwise (fun x y => TS.code top x ≤ TS.code top y) → (∀ (j : Nat) (b : Addr), bs[j]? = some b → ∃ y : List Int, ys[j]? = some y ∧ H b = some (.tup (y.map V.int))) → bs.length = ys.length → H p = none → Q (.ref p) (upd H p (.lst (bs.map V.ref)))
def adr : Value → Addr
  | .ref a => a
  | _ => 0
theorem key_ints (k : List Int) : (k.map (Sum.inl : Int → L2.Key)).map kV = k.map V.int := by rw [List.map_map]; rfl
theorem paired_at {α β : Type} {F : α → β → Prop} {xs : List α} {ys : List β} (h : Paired F xs ys) : ∀ {j : Nat} {y : β}, ys[j]? = some y → ∃ x, xs[j]? = some x ∧ F x y := by
  induction h with
  | nil => intro j y e; simp at e
  | cons r _ ih =>
    intro j y e
    cases j with
    | zero => simp at e; subst e; exact ⟨_, rfl, r⟩
    | succ j => simp at e; obtain ⟨x, q1, q2⟩ := ih e; exact ⟨x, by simpa using q1, q2⟩
theorem cr_sortedK {X : Cx} {m : Nat} {top : Int} (hm : 1 ≤ m) (hc : X.calm = true) : CallR X (.builtin "sorted") (rSortK m top) := by
  rintro pins s σ H vs us Q I r ⟨a, kvs, ks, rfl, hd, hks, hlt, hok, q⟩
  obtain ⟨u, rfl, rx⟩ := r.one
  cases rx
  obtain ⟨z, nsm, xs, kt, o, es, ep, ho, hx, hdt, he, hn⟩ := (show ObjOk X.prog X.w H s.heap a (.dT kvs) from hd.ok I.hok)
  have n1 : es.size = xs.length := size_of_entries he
  have n2 : kvs.length = xs.length := Paired.length kt
  have n3 : ks.length = xs.length := by
    have := congrArg List.length hks
    rw [List.length_map, List.length_map] at this
    omega
  -- the keys as they stand
  have at_ : ∀ (j : Nat) (x : List L2.Key × Addr × Value), xs[j]? = some x → ∃ k : List Int, ks[j]? = some k ∧ H x.2.1 = some (.tup (k.map V.int)) := fun j x hj => by
    obtain ⟨p, hp, e1, e2, _⟩ := paired_at kt hj
    have e3 : (kvs.map (·.1))[j]? = some p.1 := by rw [List.getElem?_map, hp]; rfl
    rw [hks, List.getElem?_map] at e3
    cases e4 : ks[j]? with
    | none => rw [e4] at e3; cases e3
    | some k =>
      rw [e4] at e3
      have e5 : k.map Sum.inl = p.1 := Option.some.inj e3
      exact ⟨k, rfl, by rw [e2, ← e5, key_ints]⟩
  refine Calls.call_function_entry kind_sorted plain_sorted entry_sorted (args_sorted1 _) ?_
  unfold Builtin.«sorted»
  refine wpAny_bind (m := checkCount "sorted" 1 1 _) (wpAny_pure (wpAny_bind ?_))
  refine PySem.W.kdu_collect (A := X.A.in1) (kdl_raw nsm hx hdt) (I.ok.hd hc) ho (by omega) fun h' tk acc kp it => ?_
  have acc_at : ∀ (j : Nat) (v : Value), acc.toList[j]? = some v → ∃ x : List L2.Key × Addr × Value, xs[j]? = some x ∧ v = Value.ref x.2.1 := fun j v hj => by
    obtain ⟨en, hen, rfl⟩ := it.2 j v (by rw [← Array.getElem?_toList]; exact hj)
    have qe := entry_at he j
    rw [hen] at qe
    cases hb : xs[j]? with
    | none => rw [hb] at qe; exact nomatch (show some en = none from qe)
    | some b =>
      rw [hb] at qe
      have e2 : en = entryOfKey (tupleKind (mixKind X.prog X.w)) b := Option.some.inj qe
      exact ⟨b, rfl, by rw [e2]; rfl⟩
  have nacc : acc.toList.length = ks.length := by rw [Array.length_toList, it.1, n1, n3]
  have I1 : Inv X pins σ H { s with heap := h', toks := tk } := I.kept kp
  have ints_at : ∀ (j : Nat) (v : Value), acc.toList[j]? = some v → ∃ k : List Int, ks[j]? = some k ∧ TS.TupInts h' v k ∧ ∃ b, v = Value.ref b ∧ H b = some (.tup (k.map V.int)) := fun j v hj => by
    obtain ⟨x, hx', rfl⟩ := acc_at j v hj
    obtain ⟨k, hk, hH⟩ := at_ j x hx'
    have t : TS.TupInts { s with heap := h', toks := tk }.heap (.ref x.2.1) k := tupI_raw I1 (Or.inl (Or.inl hH))
    exact ⟨k, hk, t, x.2.1, rfl, hH⟩
  have map_ints : acc.toList.map (TS.intsOf h') = ks := by
    apply List.ext_getElem?
    intro j
    rw [List.getElem?_map]
    cases hj : acc.toList[j]? with
    | none => rw [List.getElem?_eq_none (by have := List.getElem?_eq_none_iff.mp hj; omega)]; rfl
    | some v =>
      obtain ⟨k, hk, t, _⟩ := ints_at j v hj
      rw [hk]
      show some (TS.intsOf h' v) = some k
      rw [t.ints]
  refine wpAny_bind (wpAny_newList ?_ (by rw [nacc, sizeLine_eq]; omega))
  have hL : (h'.push (seqObj "list" acc.toList.toArray 0)).get? h'.objs.size = some (seqObj "list" acc.toList.toArray 0) := Heap.get?_push_size _ rfl
  have up : ∀ {v k}, TS.TupInts h' v k → TS.TupInts (h'.push (seqObj "list" acc.toList.toArray 0)) v k := fun {v k} t => t.keeps fun b ob e _ => Heap.get?_push_of_some _ e
  have ok : TS.TupsOk (h'.push (seqObj "list" acc.toList.toArray 0)) m top acc.toList := fun v hv => by
    obtain ⟨j, hj⟩ := List.getElem?_of_mem hv
    obtain ⟨k, hk, t, _⟩ := ints_at j v hj
    obtain ⟨k1, k2⟩ := hok k (List.mem_of_getElem? hk)
    exact ⟨k, up t, k1, k2⟩
  show wpAny _ _ _ _ _ { s with heap := h'.push (seqObj "list" acc.toList.toArray 0), toks := tk }
  refine wpAny_bind (wpAny_holding (wpAny_call_entry slot_list_sort ⟨_, hL, rfl⟩ entry_list_sort (TS.sort_tups (s := { s with heap := h'.push (seqObj "list" acc.toList.toArray 0), toks := tk }) hL (by omega) hm ok (fun v => TS.code top (TS.intsOf h' v)) (fun v hv k t => ?_) fun out p1 p2 => ⟨_, rfl, ?_⟩) (args_list_sort _)))
  · obtain ⟨j, hj⟩ := List.getElem?_of_mem hv
    obtain ⟨k', _, t', _⟩ := ints_at j v hj
    have e : k = k' := t.ints.symm.trans (up t').ints
    show TS.code top (TS.intsOf h' v) = TS.code top k
    rw [t'.ints, e]
  · obtain ⟨ep', hat⟩ := PyProof.Rows.sortedHeap_at (vs := acc.toList) (out := out) hL
    have src : ∀ v ∈ out.toList, ∃ b, v = Value.ref b ∧ H b = some (.tup ((TS.intsOf h' v).map V.int)) := fun v hv => by
      obtain ⟨j, hj⟩ := List.getElem?_of_mem (p1.mem_iff.mp hv)
      obtain ⟨k, _, t, b, hb, hH⟩ := ints_at j v hj
      exact ⟨b, hb, by rw [t.ints]; exact hH⟩
    have lo : out.toList.length = ks.length := by rw [p1.length_eq, nacc]
    have eo : out.toList = (out.toList.map adr).map Value.ref := by
      rw [List.map_map]
      have : ∀ v ∈ out.toList, v = (Value.ref ∘ adr) v := fun v hv => by
        obtain ⟨b, rfl, _⟩ := src v hv
        rfl
      conv => lhs; rw [← List.map_id out.toList]
      exact List.map_congr_left this
    have rv : Vals ((out.toList.map adr).map V.ref) out.toList := by
      conv => arg 2; rw [eo]
      exact vals_refs _
    refine wpAny_pure ⟨_, rfl, .ref h'.objs.size, upd H h'.objs.size (.lst ((out.toList.map adr).map V.ref)), I1.laid (t' := tk) (fun b ob e => ?_) (Nat.le_refl _)
      (show ObjOk X.prog X.w _ _ _ (.lst ((out.toList.map adr).map V.ref)) from ⟨by rw [List.length_map, List.length_map, lo, sizeLine_eq]; omega, out.toList, ep', rv, by rw [Array.toArray_toList]; exact hat⟩), rfl,
      q (out.toList.map (TS.intsOf h')) (out.toList.map adr) _ ?_ ?_ (fun j b hj => ?_) (by rw [List.length_map, List.length_map]) (I1.hok.fresh (Nat.le_refl _))⟩
    · have lb : b < h'.objs.size := Heap.lt_size e
      rw [PyProof.Rows.sortedHeap_old (Nat.ne_of_lt lb) (by rw [size_push']; exact Nat.lt_succ_of_lt lb)]
      exact Heap.get?_push_of_some _ e
    · rw [← map_ints]
      exact p1.map _
    · rw [List.pairwise_map]
      exact p2
    · rw [List.getElem?_map] at hj
      cases e : out.toList[j]? with
      | none => rw [e] at hj; cases hj
      | some v =>
        rw [e] at hj
        obtain ⟨b', rfl, hH⟩ := src v (List.mem_of_getElem? e)
        cases (show b' = b from Option.some.inj hj)
        exact ⟨_, by rw [List.getElem?_map, e]; rfl, hH⟩
end Lw

set_option Elab.async false
set_option linter.all false
set_option maxRecDepth 100000
set_option maxHeartbeats 4000000
/-! a function for each construct, and that the construct does what the function says -/
namespace Lw
open PySem L2
inductive Rz (α : Type) where
  | ok (a : α) (M : List MO)
  | er (x : Str) (fs : Flds) (M : List MO)
  | no
def Rz.bind {α β : Type} : Rz α → (α → List MO → Rz β) → Rz β
  | .ok a M, f => f a M
  | .er x fs M, _ => .er x fs M
  | .no, _ => .no
def chk {α : Type} (c : Prop) [Decidable c] (r : Rz α) : Rz α := if c then r else .no
section
variable {α β : Type} {r : Rz α} {f : α → List MO → Rz β} {a : α} {b : β} {M M' : List MO} {x : Str} {fs : Flds} {c : Prop} [Decidable c]
theorem bind_ok (h : r.bind f = .ok b M') : ∃ a M, r = .ok a M ∧ f a M = .ok b M' := by
  cases r with
  | ok a M => exact ⟨a, M, rfl, h⟩
  | er x fs M => cases h
  | no => cases h
theorem bind_er (h : r.bind f = .er x fs M') : r = .er x fs M' ∨ ∃ a M, r = .ok a M ∧ f a M = .er x fs M' := by
  cases r with
  | ok a M => exact .inr ⟨a, M, rfl, h⟩
  | er x fs M => cases h; exact .inl rfl
  | no => cases h
theorem ok_bind : (Rz.ok a M).bind f = f a M := rfl
theorem er_bind : (Rz.er x fs M : Rz α).bind f = .er x fs M := rfl
theorem no_bind : (Rz.no : Rz α).bind f = .no := rfl
theorem chk_bind : (chk c r).bind f = chk c (r.bind f) := by
  unfold chk; split <;> rfl
theorem chk_t (h : c) : chk c r = r := if_pos h
theorem chk_ok (h : chk c r = .ok a M) : c ∧ r = .ok a M := by
  unfold chk at h; split at h
  · exact ⟨by assumption, h⟩
  · cases h
theorem chk_er (h : chk c r = .er x fs M) : c ∧ r = .er x fs M := by
  unfold chk at h; split at h
  · exact ⟨by assumption, h⟩
  · cases h
end
abbrev EF := List G → List MO → Rz G
abbrev NF := List G → List MO → Rz (List D)
abbrev TF := List G → List MO → Rz Bool
abbrev AF := List G → List MO → Rz (List G)
abbrev OF := List G → List MO → Rz (Option Int)
def EvTX (K : PySem.W.Frag) (W : WX) (tt : TT) (Γ : List G) (M : List MO) (C : Addr) (fs : Flds) (M' : List MO) : Prop :=
  ∀ (B : Hp) (as : List Addr) (F : Hp) (σ : L2.St) (H : Hp), Sat K B as M F H → SOk K B as σ Γ → ∀ Q : Bool → Hp → Prop, (∀ dd B' H', Ex B B' → Sat K B' as M' F H' → XRep K B' dd fs → W (.ref C) dd σ H') → tt σ H Q
def EvIX (K : PySem.W.Frag) (W : WX) (wi : TI) (Γ : List G) (M : List MO) (C : Addr) (fs : Flds) (M' : List MO) : Prop :=
  ∀ (B : Hp) (as : List Addr) (F : Hp) (σ : L2.St) (H : Hp), Sat K B as M F H → SOk K B as σ Γ → ∀ Q : It → Hp → Prop, (∀ dd B' H', Ex B B' → Sat K B' as M' F H' → XRep K B' dd fs → W (.ref C) dd σ H') → wi σ H Q
structure SE (A : Str → Addr) (K : PySem.W.Frag) (W : WX) (te : TE) (f : EF) : Prop where
  ok : ∀ {Γ M g M'}, f Γ M = .ok g M' → Ev K te Γ M g M'
  er : ∀ {Γ M x fs M'}, f Γ M = .er x fs M' → EvX K W te Γ M (A x) fs M'
structure SN (A : Str → Addr) (K : PySem.W.Frag) (W : WX) (te : TE) (f : NF) : Prop where
  ok : ∀ {Γ M g M'}, f Γ M = .ok g M' → EvN K te Γ M g M'
  er : ∀ {Γ M x fs M'}, f Γ M = .er x fs M' → EvX K W te Γ M (A x) fs M'
structure ST (A : Str → Addr) (K : PySem.W.Frag) (W : WX) (te : TT) (f : TF) : Prop where
  ok : ∀ {Γ M g M'}, f Γ M = .ok g M' → EvT K te Γ M g M'
  er : ∀ {Γ M x fs M'}, f Γ M = .er x fs M' → EvTX K W te Γ M (A x) fs M'
structure SA (A : Str → Addr) (K : PySem.W.Frag) (W : WX) (te : TA) (f : AF) : Prop where
  ok : ∀ {Γ M g M'}, f Γ M = .ok g M' → EvA K te Γ M g M'
  er : ∀ {Γ M x fs M'}, f Γ M = .er x fs M' → EvAX K W te Γ M (A x) fs M'
structure SI (A : Str → Addr) (K : PySem.W.Frag) (W : WX) (te : TI) (f : NF) : Prop where
  ok : ∀ {Γ M g M'}, f Γ M = .ok g M' → EvI K te Γ M g M'
  er : ∀ {Γ M x fs M'}, f Γ M = .er x fs M' → EvIX K W te Γ M (A x) fs M'
structure SOp (A : Str → Addr) (K : PySem.W.Frag) (W : WX) (te : TO) (f : OF) : Prop where
  ok : ∀ {Γ M g M'}, f Γ M = .ok g M' → EvO K te Γ M g M'
  er : ∀ {Γ M x fs M'}, f Γ M = .er x fs M' → False
/-- an operation of two data -/
structure SO (K : PySem.W.Frag) (r : R2) (o : D → D → List MO → Rz G) : Prop where
  ok : ∀ {a b M g M'}, o a b M = .ok g M' → M' = M ∧ RV K r (.dat a) (.dat b) M g
  er : ∀ {a b M x fs M'}, o a b M = .er x fs M' → False
structure SC (K : PySem.W.Frag) (r : List V → Hp → L2.VK → Prop) (o : List G → List MO → Rz G) : Prop where
  ok : ∀ {gs M g M'}, o gs M = .ok g M' → M' = M ∧ RC K r gs M g
  er : ∀ {gs M x fs M'}, o gs M = .er x fs M' → False
structure SCN (K : PySem.W.Frag) (r : List V → Hp → L2.VK → Prop) (o : List G → List MO → Rz (List D)) : Prop where
  ok : ∀ {gs M g M'}, o gs M = .ok g M' → M' = M ∧ RCN K r gs M g
  er : ∀ {gs M x fs M'}, o gs M = .er x fs M' → False

/-! ## the functions -/
def eVar (i : Nat) : EF := fun Γ M => match Γ[i]? with
  | some (.dat d) => .ok (.dat d) M
  | some (.mr j) => .ok (.mr j) M
  | _ => .no
def eCon (d : D) : EF := fun _ M => .ok (.dat d) M
def opG (o : D → D → List MO → Rz G) : G → G → List MO → Rz G
  | .dat a, .dat b, M => o a b M
  | _, _, _ => .no
def eOp (o : D → D → List MO → Rz G) (fa fb : EF) : EF := fun Γ M => (fa Γ M).bind fun g1 M1 => (fb Γ M1).bind fun g2 M2 => opG o g1 g2 M2
def okA {α : Type} (M : List MO) : Option α → Rz α
  | some d => .ok d M
  | none => .no
def ixG : G → G → List MO → Rz G
  | .dat (.tup ds), .dat (.int i), M => okA M ((atI ds i).map G.dat)
  | .dat (.lst ds), .dat (.int i), M => okA M ((atI ds i).map G.dat)
  | .dat (.fz ds), .dat (.int i), M => okA M ((atI ds i).map G.dat)
  | .mr j, .dat (.int i), M => match M[j]? with
    | some (.lst ds) => okA M ((atI ds i).map G.dat)
    | _ => .no
  | _, _, _ => .no
def eIx (fa fb : EF) : EF := fun Γ M => (fa Γ M).bind fun g1 M1 => (fb Γ M1).bind fun g2 M2 => ixG g1 g2 M2
def unG (o : Int → D) : G → List MO → Rz G
  | .dat (.int i), M => .ok (.dat (o i)) M
  | _, _ => .no
def eUn (o : Int → D) (fa : EF) : EF := fun Γ M => (fa Γ M).bind fun g M1 => unG o g M1
def aNil : AF := fun _ M => .ok [] M
def aCons (fa : EF) (fs : AF) : AF := fun Γ M => (fa Γ M).bind fun g M1 => (fs Γ M1).bind fun gs M2 => .ok (g :: gs) M2
def datsOf : List G → Option (List D)
  | [] => some []
  | .dat d :: gs => (datsOf gs).map (d :: ·)
  | _ => none
theorem datsOf_eq : ∀ {gs : List G} {ds : List D}, datsOf gs = some ds → gs = ds.map G.dat
  | [], ds, h => by cases h; rfl
  | .dat d :: gs, ds, h => by
    unfold datsOf at h
    cases e : datsOf gs with
    | none => rw [e] at h; cases h
    | some es => rw [e] at h; cases h; rw [datsOf_eq e]; rfl
  | .no :: _, _, h => by cases h
  | .mr _ :: _, _, h => by cases h
def onDats {α : Type} (gs : List G) (M : List MO) (f : List D → Rz α) : Rz α := match datsOf gs with
  | some ds => f ds
  | none => .no
def eTup (fs : AF) : EF := fun Γ M => (fs Γ M).bind fun gs M1 => onDats gs M1 fun ds => chk (ds.length ≤ sizeLine) (.ok (.dat (.tup ds)) M1)
def nLst (fs : AF) : NF := fun Γ M => (fs Γ M).bind fun gs M1 => onDats gs M1 fun ds => chk (ds.length ≤ sizeLine) (.ok ds M1)
def eNew (n : NF) : EF := fun Γ M => (n Γ M).bind fun xs M1 => .ok (.dat (.lst xs)) M1
def eCB (o : List G → List MO → Rz G) (fs : AF) : EF := fun Γ M => (fs Γ M).bind o
def nCB (o : List G → List MO → Rz (List D)) (fs : AF) : NF := fun Γ M => (fs Γ M).bind o
/-- a def's meaning -/
abbrev Mn := List G → List MO → Rz D
def callM (m : Mn) : List G → List MO → Rz G
  | .mr j :: gs, M => match M[j]?, datsOf gs with
    | some (.lst xs), some _ => (match m (.mr 0 :: gs) [.lst xs] with
      | .ok d [.lst ys] => .ok (.dat d) (M.set j (.lst ys))
      | _ => .no)
    | _, _ => .no
  | gs, M => match datsOf gs with
    | some _ => (match m gs [] with
      | .ok d [] => .ok (.dat d) M
      | .er x fs [] => .er x fs M
      | _ => .no)
    | none => .no
def eCall (m : Mn) (fs : AF) : EF := fun Γ M => (fs Γ M).bind (callM m)
def con (A : Str → Addr) (m : Mn) : Con := fun gs M r => (∃ d M', m gs M = .ok d M' ∧ r = .ret (.dat d) M') ∨ ∃ x fs M', m gs M = .er x fs M' ∧ r = .exc (A x) fs M'
/-! tests -/
def blG : G → List MO → Rz Bool
  | .dat (.bl b), M => .ok b M
  | _, _ => .no
def tOf (fa : EF) : TF := fun Γ M => (fa Γ M).bind blG
def fNot (t : TF) : TF := fun Γ M => (t Γ M).bind fun b M1 => .ok (!b) M1
def fAnd (t u : TF) : TF := fun Γ M => (t Γ M).bind fun b M1 => if b = true then u Γ M1 else .ok false M1
def fOr (t u : TF) : TF := fun Γ M => (t Γ M).bind fun b M1 => if b = true then .ok true M1 else u Γ M1
def eB (t : TF) : EF := fun Γ M => (t Γ M).bind fun b M1 => .ok (.dat (.bl b)) M1
def eAnd (fa fb : EF) : EF := fun Γ M => (tOf fa Γ M).bind fun b M1 => if b = true then fb Γ M1 else .ok (.dat (.bl false)) M1
def eOr (fa fb : EF) : EF := fun Γ M => (tOf fa Γ M).bind fun b M1 => if b = true then .ok (.dat (.bl true)) M1 else fb Γ M1
def eNot (fa : EF) : EF := fun Γ M => (tOf fa Γ M).bind fun b M1 => .ok (.dat (.bl (!b))) M1
def eIf (t : TF) (fa fb : EF) : EF := fun Γ M => (t Γ M).bind fun b M1 => if b = true then fa Γ M1 else fb Γ M1
def chG (o o' : D → D → List MO → Rz G) (fc : EF) (Γ : List G) : G → G → List MO → Rz G
  | .dat a, .dat b, M => (o a b M).bind fun g M1 => (blG g M1).bind fun k M1 => if k = true then (fc Γ M1).bind fun g3 M2 => opG o' (.dat b) g3 M2 else .ok (.dat (.bl false)) M1
  | _, _, _ => .no
def eChain (o o' : D → D → List MO → Rz G) (fa fb fc : EF) : EF := fun Γ M => (fa Γ M).bind fun g1 M1 => (fb Γ M1).bind fun g2 M2 => chG o o' fc Γ g1 g2 M2

/-! ## that they are right -/
section
variable {A : Str → Addr} {K : PySem.W.Frag} {W : WX} {te ta tb tc : TE} {tt tu : TT} {tA : TA} {fa fb fc f : EF} {t u : TF} {fs : AF} {r r' : R2} {o o' : D → D → List MO → Rz G}
theorem okA_ok {α : Type} {M M' : List MO} {x : Option α} {a : α} (h : okA M x = .ok a M') : x = some a ∧ M' = M := by
  cases x with
  | none => cases h
  | some d => cases h; exact ⟨rfl, rfl⟩
theorem okA_er {α : Type} {M M' : List MO} {x : Option α} {y : Str} {z : Flds} (h : okA M x = .er y z M') : False := by
  cases x <;> cases h
theorem se_var {i : Nat} : SE A K W (tVar i) (eVar i) := by
  constructor
  · intro Γ M g M' h
    unfold eVar at h
    split at h <;> first | (cases h; done) | skip
    · cases h; exact ev_var (by assumption) (by intro z; cases z)
    · cases h; exact ev_var (by assumption) (by intro z; cases z)
  · intro Γ M x fs M' h
    unfold eVar at h
    split at h <;> cases h
theorem se_con {v : V} {d : D} (hr : ∀ B, Rep K B v d) : SE A K W (tC v) (eCon d) := ⟨fun h => by cases h; exact ev_c hr, fun h => by cases h⟩
theorem se_int {i : Int} : SE A K W (tC (.int i)) (eCon (.int i)) := se_con fun _ => .int
theorem se_bl {i : Bool} : SE A K W (tC (.bl i)) (eCon (.bl i)) := se_con fun _ => .bl
theorem se_str {i : Str} : SE A K W (tC (.str i)) (eCon (.str i)) := se_con fun _ => .str
theorem se_non : SE A K W (tC .non) (eCon .non) := se_con fun _ => .non
theorem se_ty {n : String} : SE A K W (tC (.ty n)) (eCon (.ty n)) := se_con fun _ => .ty
theorem se_cls {C : Addr} : SE A K W (tC (.ref C)) (eCon (.cls C)) := se_con fun _ => .cls
theorem se_op (ho : SO K r o) (ha : SE A K W ta fa) (hb : SE A K W tb fb) : SE A K W (tOp r ta tb) (eOp o fa fb) := by
  constructor
  · intro Γ M g M' h
    obtain ⟨g1, M1, h1, h⟩ := bind_ok h
    obtain ⟨g2, M2, h2, h⟩ := bind_ok h
    cases g1 <;> cases g2 <;> first | (cases h; done) | skip
    obtain ⟨rfl, hr⟩ := ho.ok h
    exact ev_op (ha.ok h1) (hb.ok h2) hr
  · intro Γ M x fs M' h
    rcases bind_er h with h1 | ⟨g1, M1, h1, h⟩
    · exact evx_op1 (ha.er h1)
    rcases bind_er h with h2 | ⟨g2, M2, h2, h⟩
    · exact evx_op2 (ha.ok h1) (hb.er h2)
    cases g1 <;> cases g2 <;> first | (cases h; done) | skip
    exact (ho.er h).elim
theorem se_ix (ha : SE A K W ta fa) (hb : SE A K W tb fb) : SE A K W (tOp (rIx K) ta tb) (eIx fa fb) := by
  constructor
  · intro Γ M g M' h
    obtain ⟨g1, M1, h1, h⟩ := bind_ok h
    obtain ⟨g2, M2, h2, h⟩ := bind_ok h
    unfold ixG at h
    split at h <;> first | (cases h; done) | skip
    · obtain ⟨e, rfl⟩ := okA_ok h
      cases q : atI _ _ with
      | none => rw [q] at e; cases e
      | some d => rw [q] at e; cases e; exact ev_op (ha.ok h1) (hb.ok h2) (rv_ixT' q)
    · obtain ⟨e, rfl⟩ := okA_ok h
      cases q : atI _ _ with
      | none => rw [q] at e; cases e
      | some d => rw [q] at e; cases e; exact ev_op (ha.ok h1) (hb.ok h2) (rv_ixL' q)
    · obtain ⟨e, rfl⟩ := okA_ok h
      cases q : atI _ _ with
      | none => rw [q] at e; cases e
      | some d => rw [q] at e; cases e; exact ev_op (ha.ok h1) (hb.ok h2) (rv_ixF' q)
    · split at h <;> first | (cases h; done) | skip
      rename_i hm
      obtain ⟨e, rfl⟩ := okA_ok h
      cases q : atI _ _ with
      | none => rw [q] at e; cases e
      | some d => rw [q] at e; cases e; exact ev_op (ha.ok h1) (hb.ok h2) (rv_ixM' hm q)
  · intro Γ M x fs M' h
    rcases bind_er h with h1 | ⟨g1, M1, h1, h⟩
    · exact evx_op1 (ha.er h1)
    rcases bind_er h with h2 | ⟨g2, M2, h2, h⟩
    · exact evx_op2 (ha.ok h1) (hb.er h2)
    unfold ixG at h
    split at h <;> first | (cases h; done) | (exact (okA_er h).elim) | skip
    split at h <;> first | (cases h; done) | (exact (okA_er h).elim)
theorem evx_un {r : V → Hp → L2.VK → Prop} {Γ : List G} {M M1 : List MO} {C : Addr} {fs : Flds} (h : EvX K W ta Γ M C fs M1) : EvX K W (tUn r ta) Γ M C fs M1 := fun B as F σ H S O Q q => h B as F σ H S O _ q
theorem se_un {fi : Int → V} {od : Int → D} (hl : ∀ i, Lit (fi i) (od i)) (ha : SE A K W ta fa) : SE A K W (tUn (rU fi) ta) (eUn od fa) := by
  constructor
  · intro Γ M g M' h
    obtain ⟨g1, M1, h1, h⟩ := bind_ok h
    unfold unG at h
    split at h <;> first | (cases h; done) | skip
    cases h
    exact ev_un (ha.ok h1) (ru_U (hl _))
  · intro Γ M x fs M' h
    rcases bind_er h with h1 | ⟨g1, M1, h1, h⟩
    · exact evx_un (ha.er h1)
    unfold unG at h
    split at h <;> cases h
theorem sa_nil : SA A K W tNil aNil := ⟨fun h => by cases h; exact ea_nil, fun h => by cases h⟩
theorem sa_cons (ha : SE A K W ta fa) (hs : SA A K W tA fs) : SA A K W (tCons ta tA) (aCons fa fs) := by
  constructor
  · intro Γ M g M' h
    obtain ⟨g1, M1, h1, h⟩ := bind_ok h
    obtain ⟨g2, M2, h2, h⟩ := bind_ok h
    cases h
    exact ea_cons (ha.ok h1) (hs.ok h2)
  · intro Γ M x fs M' h
    rcases bind_er h with h1 | ⟨g1, M1, h1, h⟩
    · exact eax_here (ha.er h1)
    rcases bind_er h with h2 | ⟨g2, M2, h2, h⟩
    · exact eax_next (ha.ok h1) (hs.er h2)
    cases h
theorem onDats_ok {α : Type} {gs : List G} {M M' : List MO} {f : List D → Rz α} {a : α} (h : onDats gs M f = .ok a M') : ∃ ds, gs = ds.map G.dat ∧ f ds = .ok a M' := by
  unfold onDats at h
  split at h
  · rename_i ds e; exact ⟨ds, datsOf_eq e, h⟩
  · cases h
theorem onDats_er {α : Type} {gs : List G} {M M' : List MO} {f : List D → Rz α} {x : Str} {z : Flds} (h : onDats gs M f = .er x z M') : ∃ ds, gs = ds.map G.dat ∧ f ds = .er x z M' := by
  unfold onDats at h
  split at h
  · rename_i ds e; exact ⟨ds, datsOf_eq e, h⟩
  · cases h
theorem se_tup (hs : SA A K W tA fs) : SE A K W (tTup tA) (eTup fs) := by
  constructor
  · intro Γ M g M' h
    obtain ⟨gs, M1, h1, h⟩ := bind_ok h
    obtain ⟨ds, rfl, h2⟩ := onDats_ok h
    obtain ⟨hz, h3⟩ := chk_ok h2
    cases h3
    exact ev_tup (hs.ok h1) hz
  · intro Γ M x fs M' h
    rcases bind_er h with h1 | ⟨g1, M1, h1, h⟩
    · exact evx_tup (hs.er h1)
    obtain ⟨ds, rfl, h2⟩ := onDats_er h
    cases (chk_er h2).2
theorem evx_lst {Γ : List G} {M M1 : List MO} {C : Addr} {fs : Flds} (h : EvAX K W tA Γ M C fs M1) : EvX K W (tLst tA) Γ M C fs M1 := fun B as F σ H S O Q q => h B as F σ H S O _ q
theorem sn_lst (hs : SA A K W tA fs) : SN A K W (tLst tA) (nLst fs) := by
  constructor
  · intro Γ M g M' h
    obtain ⟨gs, M1, h1, h⟩ := bind_ok h
    obtain ⟨ds, rfl, h2⟩ := onDats_ok h
    obtain ⟨hz, h3⟩ := chk_ok h2
    cases h3
    exact ev_lst (hs.ok h1) hz
  · intro Γ M x fs M' h
    rcases bind_er h with h1 | ⟨g1, M1, h1, h⟩
    · exact evx_lst (hs.er h1)
    obtain ⟨ds, rfl, h2⟩ := onDats_er h
    cases (chk_er h2).2
theorem se_new {n : NF} (hn : SN A K W te n) : SE A K W te (eNew n) := by
  constructor
  · intro Γ M g M' h
    obtain ⟨xs, M1, h1, h⟩ := bind_ok h
    cases h
    exact ev_new (hn.ok h1)
  · intro Γ M x fs M' h
    rcases bind_er h with h1 | ⟨g1, M1, h1, h⟩
    · exact hn.er h1
    cases h
theorem se_cb {rc : List V → Hp → L2.VK → Prop} {oc : List G → List MO → Rz G} (ho : SC K rc oc) (hs : SA A K W tA fs) : SE A K W (tCB rc tA) (eCB oc fs) := by
  constructor
  · intro Γ M g M' h
    obtain ⟨gs, M1, h1, h⟩ := bind_ok h
    obtain ⟨rfl, h⟩ := ho.ok h
    exact ev_cb (hs.ok h1) h
  · intro Γ M x fs M' h
    rcases bind_er h with h1 | ⟨g1, M1, h1, h⟩
    · exact evx_cb (hs.er h1)
    exact (ho.er h).elim
theorem sn_cb {rc : List V → Hp → L2.VK → Prop} {oc : List G → List MO → Rz (List D)} (ho : SCN K rc oc) (hs : SA A K W tA fs) : SN A K W (tCB rc tA) (nCB oc fs) := by
  constructor
  · intro Γ M g M' h
    obtain ⟨gs, M1, h1, h⟩ := bind_ok h
    obtain ⟨rfl, h⟩ := ho.ok h
    exact ev_cbN (hs.ok h1) h
  · intro Γ M x fs M' h
    rcases bind_er h with h1 | ⟨g1, M1, h1, h⟩
    · exact evx_cb (hs.er h1)
    exact (ho.er h).elim
theorem callM_cases {m : Mn} {gs : List G} {M M' : List MO} {g : G} (h : callM m gs M = .ok g M') :
    (∃ (ds : List D) (d : D), gs = ds.map G.dat ∧ m (ds.map G.dat) [] = .ok d [] ∧ g = .dat d ∧ M' = M) ∨
    ∃ (j : Nat) (ds xs : List D) (d : D) (ys : List D), gs = .mr j :: ds.map G.dat ∧ M[j]? = some (.lst xs) ∧ m (.mr 0 :: ds.map G.dat) [.lst xs] = .ok d [.lst ys] ∧ g = .dat d ∧ M' = M.set j (.lst ys) := by
  unfold callM at h
  split at h
  · split at h <;> first | (cases h; done) | skip
    rename_i j gs _ _ xs ds hm hd
    split at h <;> first | (cases h; done) | skip
    rename_i d ys e
    cases h
    have := datsOf_eq hd
    subst this
    exact .inr ⟨_, ds, xs, d, ys, rfl, hm, e, rfl, rfl⟩
  · split at h <;> first | (cases h; done) | skip
    rename_i ds hd
    split at h <;> first | (cases h; done) | skip
    rename_i d e
    cases h
    have := datsOf_eq hd
    subst this
    exact .inl ⟨ds, d, rfl, e, rfl, rfl⟩
theorem callM_er {m : Mn} {gs : List G} {M M' : List MO} {x : Str} {z : Flds} (h : callM m gs M = .er x z M') : ∃ ds : List D, gs = ds.map G.dat ∧ m (ds.map G.dat) [] = .er x z [] ∧ M' = M := by
  unfold callM at h
  split at h
  · split at h <;> first | (cases h; done) | skip
    split at h <;> cases h
  · split at h <;> first | (cases h; done) | skip
    rename_i ds hd
    split at h <;> first | (cases h; done) | skip
    rename_i e
    cases h
    have := datsOf_eq hd
    subst this
    exact ⟨ds, rfl, e, rfl⟩
theorem ev_callMn {m : Mn} {Es : L2.St → XK} {Γ : List G} {M M1 M' : List MO} {gs : List G} {g : G} (ha : EvA K tA Γ M gs M1) (h : callM m gs M1 = .ok g M') : Ev K (tCallS (spOf K (con A m)) Es tA) Γ M g M' := by
  rcases callM_cases h with ⟨ds, d, rfl, e, rfl, rfl⟩ | ⟨j, ds, xs, d, ys, rfl, hm, e, rfl, rfl⟩
  · exact ev_call0 ha (.inl ⟨d, [], e, rfl⟩)
  · exact ev_call1 ha hm (.inl ⟨d, [.lst ys], e, rfl⟩) (by intro z; cases z) (by intro z; cases z)
theorem se_call {m : Mn} {Es : L2.St → XK} (hE : ∀ σ cls dd H, W cls dd σ H → Es σ cls dd H) (hs : SA A K W tA fs) : SE A K W (tCallS (spOf K (con A m)) Es tA) (eCall m fs) := by
  constructor
  · intro Γ M g M' h
    obtain ⟨gs, M1, h1, h⟩ := bind_ok h
    exact ev_callMn (hs.ok h1) h
  · intro Γ M x fs M' h
    rcases bind_er h with h1 | ⟨g1, M1, h1, h⟩
    · exact evx_arg (hs.er h1)
    obtain ⟨ds, rfl, e, rfl⟩ := callM_er h
    exact evx_call0 hE (hs.ok h1) (.inr ⟨x, fs, [], e, rfl⟩)
/-! tests -/
theorem st_of (hw : tt = tTest te ∨ tt = tB te) (ha : SE A K W te fa) : ST A K W tt (tOf fa) := by
  constructor
  · intro Γ M g M' h
    obtain ⟨g1, M1, h1, h⟩ := bind_ok h
    unfold blG at h
    split at h <;> first | (cases h; done) | skip
    cases h
    rcases hw with rfl | rfl
    · exact et_test (ha.ok h1)
    · exact et_B (ha.ok h1)
  · intro Γ M x fs M' h
    rcases bind_er h with h1 | ⟨g1, M1, h1, h⟩
    · rcases hw with rfl | rfl
      · exact fun B as F σ H S O Q q => ha.er h1 B as F σ H S O _ q
      · exact fun B as F σ H S O Q q => ha.er h1 B as F σ H S O _ q
    · unfold blG at h
      split at h <;> cases h
theorem st_test (ha : SE A K W te fa) : ST A K W (tTest te) (tOf fa) := st_of (.inl rfl) ha
theorem st_B (ha : SE A K W te fa) : ST A K W (tB te) (tOf fa) := st_of (.inr rfl) ha
theorem st_not (h : ST A K W tt t) : ST A K W (tNot tt) (fNot t) := by
  constructor
  · intro Γ M g M' q
    obtain ⟨b, M1, h1, q⟩ := bind_ok q
    cases q
    exact et_not (h.ok h1)
  · intro Γ M x fs M' q
    rcases bind_er q with h1 | ⟨b, M1, h1, q⟩
    · exact fun B as F σ H S O Q q => h.er h1 B as F σ H S O _ q
    · cases q
theorem st_and (h : ST A K W tt t) (h' : ST A K W tu u) : ST A K W (tAnd tt tu) (fAnd t u) := by
  constructor
  · intro Γ M g M' q
    obtain ⟨b, M1, h1, q⟩ := bind_ok q
    cases b with
    | true => rw [if_pos rfl] at q; exact et_and1 (h.ok h1) (h'.ok q)
    | false => rw [if_neg (by simp)] at q; cases q; exact et_and0 (h.ok h1)
  · intro Γ M x fs M' q
    rcases bind_er q with h1 | ⟨b, M1, h1, q⟩
    · exact fun B as F σ H S O Q q => h.er h1 B as F σ H S O _ q
    · cases b with
      | true =>
        rw [if_pos rfl] at q
        exact fun B as F σ H S O Q q' => h.ok h1 B as F σ H S O _ fun B1 H1 e1 S1 => h'.er q B1 as F σ H1 S1 (O.up e1) Q fun dd B' H' e' => q' dd B' H' (e1.trans e')
      | false => rw [if_neg (by simp)] at q; cases q
theorem st_or (h : ST A K W tt t) (h' : ST A K W tu u) : ST A K W (tOr tt tu) (fOr t u) := by
  constructor
  · intro Γ M g M' q
    obtain ⟨b, M1, h1, q⟩ := bind_ok q
    cases b with
    | true => rw [if_pos rfl] at q; cases q; exact et_or1 (h.ok h1)
    | false => rw [if_neg (by simp)] at q; exact et_or0 (h.ok h1) (h'.ok q)
  · intro Γ M x fs M' q
    rcases bind_er q with h1 | ⟨b, M1, h1, q⟩
    · exact fun B as F σ H S O Q q => h.er h1 B as F σ H S O _ q
    · cases b with
      | true => rw [if_pos rfl] at q; cases q
      | false =>
        rw [if_neg (by simp)] at q
        exact fun B as F σ H S O Q q' => h.ok h1 B as F σ H S O _ fun B1 H1 e1 S1 => h'.er q B1 as F σ H1 S1 (O.up e1) Q fun dd B' H' e' => q' dd B' H' (e1.trans e')
theorem tOf_ok {Γ : List G} {M M' : List MO} {b : Bool} (h : tOf fa Γ M = .ok b M') : fa Γ M = .ok (.dat (.bl b)) M' := by
  obtain ⟨g1, M1, h1, h⟩ := bind_ok h
  unfold blG at h
  split at h <;> first | (cases h; done) | skip
  cases h; exact h1
theorem tOf_er {Γ : List G} {M M' : List MO} {x : Str} {z : Flds} (h : tOf fa Γ M = .er x z M') : fa Γ M = .er x z M' := by
  rcases bind_er h with h1 | ⟨g1, M1, h1, h⟩
  · exact h1
  · unfold blG at h
    split at h <;> cases h
theorem se_and (ha : SE A K W ta fa) (hb : SE A K W tb fb) : SE A K W (tAndV ta tb) (eAnd fa fb) := by
  constructor
  · intro Γ M g M' q
    obtain ⟨b, M1, h1, q⟩ := bind_ok q
    have h1 := tOf_ok h1
    cases b with
    | true => rw [if_pos rfl] at q; exact ev_and1 (ha.ok h1) (hb.ok q)
    | false => rw [if_neg (by simp)] at q; cases q; exact ev_and0 (ha.ok h1)
  · intro Γ M x fs M' q
    rcases bind_er q with h1 | ⟨b, M1, h1, q⟩
    · exact fun B as F σ H S O Q q => ha.er (tOf_er h1) B as F σ H S O _ q
    · have h1 := tOf_ok h1
      cases b with
      | true =>
        rw [if_pos rfl] at q
        exact fun B as F σ H S O Q q' => ha.ok h1 B as F σ H S O _ fun v B1 H1 e1 S1 r1 => by
          cases r1
          exact ⟨true, rfl, hb.er q B1 as F σ H1 S1 (O.up e1) Q fun dd B' H' e' => q' dd B' H' (e1.trans e')⟩
      | false => rw [if_neg (by simp)] at q; cases q
theorem se_or (ha : SE A K W ta fa) (hb : SE A K W tb fb) : SE A K W (tOrV ta tb) (eOr fa fb) := by
  constructor
  · intro Γ M g M' q
    obtain ⟨b, M1, h1, q⟩ := bind_ok q
    have h1 := tOf_ok h1
    intro B as F σ H S O Q q'
    refine ha.ok h1 B as F σ H S O _ fun v B1 H1 e1 S1 r1 => ?_
    cases r1
    refine ⟨b, rfl, ?_⟩
    cases b with
    | true => rw [if_pos rfl] at q; cases q; exact q' _ B1 H1 e1 S1 .bl
    | false =>
      rw [if_neg (by simp)] at q
      exact hb.ok q B1 as F σ H1 S1 (O.up e1) Q fun u B2 H2 e2 S2 r2 => q' u B2 H2 (e1.trans e2) S2 r2
  · intro Γ M x fs M' q
    rcases bind_er q with h1 | ⟨b, M1, h1, q⟩
    · exact fun B as F σ H S O Q q => ha.er (tOf_er h1) B as F σ H S O _ q
    · have h1 := tOf_ok h1
      cases b with
      | true => rw [if_pos rfl] at q; cases q
      | false =>
        rw [if_neg (by simp)] at q
        exact fun B as F σ H S O Q q' => ha.ok h1 B as F σ H S O _ fun v B1 H1 e1 S1 r1 => by
          cases r1
          exact ⟨false, rfl, hb.er q B1 as F σ H1 S1 (O.up e1) Q fun dd B' H' e' => q' dd B' H' (e1.trans e')⟩
theorem se_not (ha : SE A K W ta fa) : SE A K W (tNotV ta) (eNot fa) := by
  constructor
  · intro Γ M g M' q
    obtain ⟨b, M1, h1, q⟩ := bind_ok q
    cases q
    exact ev_notV (ha.ok (tOf_ok h1))
  · intro Γ M x fs M' q
    rcases bind_er q with h1 | ⟨b, M1, h1, q⟩
    · exact fun B as F σ H S O Q q => ha.er (tOf_er h1) B as F σ H S O _ q
    · cases q
theorem se_if (h : ST A K W tt t) (ha : SE A K W ta fa) (hb : SE A K W tb fb) : SE A K W (tIf tt ta tb) (eIf t fa fb) := by
  constructor
  · intro Γ M g M' q
    obtain ⟨b, M1, h1, q⟩ := bind_ok q
    cases b with
    | true => rw [if_pos rfl] at q; exact ev_if (h.ok h1) (fun _ => ha.ok q) (fun z => by cases z)
    | false => rw [if_neg (by simp)] at q; exact ev_if (h.ok h1) (fun z => by cases z) (fun _ => hb.ok q)
  · intro Γ M x fs M' q
    rcases bind_er q with h1 | ⟨b, M1, h1, q⟩
    · exact fun B as F σ H S O Q q => h.er h1 B as F σ H S O _ q
    · cases b with
      | true =>
        rw [if_pos rfl] at q
        exact fun B as F σ H S O Q q' => h.ok h1 B as F σ H S O _ fun B1 H1 e1 S1 => ha.er q B1 as F σ H1 S1 (O.up e1) Q fun dd B' H' e' => q' dd B' H' (e1.trans e')
      | false =>
        rw [if_neg (by simp)] at q
        exact fun B as F σ H S O Q q' => h.ok h1 B as F σ H S O _ fun B1 H1 e1 S1 => hb.er q B1 as F σ H1 S1 (O.up e1) Q fun dd B' H' e' => q' dd B' H' (e1.trans e')
theorem se_chain (ho : SO K r o) (ho' : SO K r' o') (ha : SE A K W ta fa) (hb : SE A K W tb fb) (hc : SE A K W tc fc) : SE A K W (tChain r r' ta tb tc) (eChain o o' fa fb fc) := by
  constructor
  · intro Γ M g M' h
    obtain ⟨g1, M1, h1, h⟩ := bind_ok h
    obtain ⟨g2, M2, h2, h⟩ := bind_ok h
    cases g1 <;> cases g2 <;> first | (cases h; done) | skip
    obtain ⟨g0, M3, h3, h⟩ := bind_ok h
    obtain ⟨k, M4, h4, h⟩ := bind_ok h
    unfold blG at h4
    split at h4 <;> first | (cases h4; done) | skip
    cases h4
    obtain ⟨rfl, hr⟩ := ho.ok h3
    intro B as F σ H S O Q q
    refine ha.ok h1 B as F σ H S O _ fun x B1 H1 e1 S1 r1 => hb.ok h2 B1 as F σ H1 S1 (O.up e1) _ fun y B2 H2 e2 S2 r2 => hr B2 as F H2 x y S2 (Rep.up r1 e2) r2 _ fun z B3 H3 e3 S3 r3 => ?_
    cases r3
    refine ⟨k, rfl, ?_⟩
    cases k with
    | true =>
      rw [if_pos rfl] at h ⊢
      obtain ⟨g3, M5, h5, h⟩ := bind_ok h
      cases g3 <;> first | (cases h; done) | skip
      obtain ⟨rfl, hr'⟩ := ho'.ok h
      exact hc.ok h5 B3 as F σ H3 S3 (O.up ((e1.trans e2).trans e3)) _ fun w B4 H4 e4 S4 r4 => hr' B4 as F H4 y w S4 (Rep.up r2 (e3.trans e4)) r4 _ fun v B5 H5 e5 S5 r5 =>
        q v B5 H5 ((((e1.trans e2).trans e3).trans e4).trans e5) S5 r5
    | false =>
      rw [if_neg (by simp)] at h ⊢
      cases h
      exact q _ B3 H3 ((e1.trans e2).trans e3) S3 .bl
  · intro Γ M x fs M' h
    rcases bind_er h with h1 | ⟨g1, M1, h1, h⟩
    · exact fun B as F σ H S O Q q => ha.er h1 B as F σ H S O _ q
    rcases bind_er h with h2 | ⟨g2, M2, h2, h⟩
    · exact fun B as F σ H S O Q q => ha.ok h1 B as F σ H S O _ fun x B1 H1 e1 S1 r1 => hb.er h2 B1 as F σ H1 S1 (O.up e1) _ fun dd B' H' e' => q dd B' H' (e1.trans e')
    cases g1 <;> cases g2 <;> first | (cases h; done) | skip
    rcases bind_er h with h3 | ⟨g0, M3, h3, h⟩
    · exact (ho.er h3).elim
    rcases bind_er h with h4 | ⟨k, M4, h4, h⟩
    · unfold blG at h4
      split at h4 <;> cases h4
    unfold blG at h4
    split at h4 <;> first | (cases h4; done) | skip
    cases h4
    obtain ⟨rfl, hr⟩ := ho.ok h3
    intro B as F σ H S O Q q
    refine ha.ok h1 B as F σ H S O _ fun x B1 H1 e1 S1 r1 => hb.ok h2 B1 as F σ H1 S1 (O.up e1) _ fun y B2 H2 e2 S2 r2 => hr B2 as F H2 x y S2 (Rep.up r1 e2) r2 _ fun z B3 H3 e3 S3 r3 => ?_
    cases r3
    refine ⟨k, rfl, ?_⟩
    cases k with
    | true =>
      rw [if_pos rfl] at h ⊢
      rcases bind_er h with h5 | ⟨g3, M5, h5, h⟩
      · exact hc.er h5 B3 as F σ H3 S3 (O.up ((e1.trans e2).trans e3)) _ fun dd B' H' e' => q dd B' H' (((e1.trans e2).trans e3).trans e')
      cases g3 <;> first | (cases h; done) | skip
      exact (ho'.er h).elim
    | false => rw [if_neg (by simp)] at h; cases h
end
end Lw

set_option Elab.async false
set_option linter.all false
set_option maxRecDepth 100000
set_option maxHeartbeats 4000000
namespace Lw
open PySem L2
/-! ## walks, comprehensions -/
def rowG : G → List MO → Rz (List D)
  | .dat (.tup ds), M => .ok ds M
  | .dat (.lst ds), M => .ok ds M
  | .dat (.fz ds), M => .ok ds M
  | _, _ => .no
def iRow (fa : EF) : NF := fun Γ M => (fa Γ M).bind rowG
/-- the list at slot i, which may change, as it stands -/
def smInt (n : Int) : Prop := -(2 ^ 62) ≤ n ∧ n < 2 ^ 62
/-- decided by what stays small where n is not known -/
instance (n : Int) : Decidable (smInt n) := decidable_of_decidable_of_iff (p := n.natAbs < 2 ^ 62 ∨ n = -(2 ^ 62)) (by unfold smInt; omega)
def rng1G : List G → List MO → Rz (List D)
  | [.dat (.int n)], M => chk (smInt n) (.ok (rngD 0 n.toNat) M)
  | _, _ => .no
def rng2G : List G → List MO → Rz (List D)
  | [.dat (.int m), .dat (.int n)], M => chk (smInt m ∧ smInt n) (.ok (rngD m (n - m).toNat) M)
  | _, _ => .no
def enumG : List G → List MO → Rz (List D)
  | [.dat (.tup ds)], M => .ok (enumD ds) M
  | [.dat (.lst ds)], M => .ok (enumD ds) M
  | [.dat (.fz ds)], M => .ok (enumD ds) M
  | _, _ => .no
def zipG : List G → List MO → Rz (List D)
  | [.dat (.lst ds), .dat (.lst es)], M => .ok (zipD ds es) M
  | _, _ => .no
def iArgs (o : List G → List MO → Rz (List D)) (fs : AF) : NF := fun Γ M => (fs Γ M).bind o
abbrev BF := D → List G → Option (List G)
def bName (i : Nat) : BF := fun d Γ => some (Γ.set i (.dat d))
def bGo : List BF → List D → List G → Option (List G)
  | [], [], Γ => some Γ
  | b :: bs, d :: ds, Γ => (b d Γ).bind fun Γ1 => bGo bs ds Γ1
  | _, _, _ => none
def bTup (bs : List BF) : BF := fun d Γ => match d with
  | .tup ds => bGo bs ds Γ
  | _ => none
/-- what a comprehension makes of the things it walks -/
def lcGo (b : BF) (t : TF) (e : EF) (Γ : List G) : List D → List MO → Rz (List D)
  | [], M => .ok [] M
  | d :: ds, M => match b d Γ with
    | none => .no
    | some Γ1 => (t Γ1 M).bind fun c M1 => if c = true then (e Γ1 M1).bind fun g M2 => (match g with
      | .dat y => (lcGo b t e Γ ds M2).bind fun ys M3 => .ok (y :: ys) M3
      | _ => .no) else lcGo b t e Γ ds M1
def noEr {α : Type} : Rz α → Rz α
  | .ok a M => .ok a M
  | _ => .no
def nLcX (fi : NF) (b : BF) (t : TF) (e : EF) (vs : List Nat) : NF := fun Γ M => (fi Γ M).bind fun ds M1 => chk (ds.length < sizeLine) (lcGo b t e (wipeG Γ vs) ds M1)
def nLc (fi : NF) (b : BF) (t : TF) (e : EF) (vs : List Nat) : NF := fun Γ M => (fi Γ M).bind fun ds M1 => chk (ds.length < sizeLine) (noEr (lcGo b t e (wipeG Γ vs) ds M1))
def tTrue : TF := fun _ M => .ok true M
/-- two fors -/
def lc2Go (b : BF) (t : TF) (fi : NF) (b1 : BF) (t1 : TF) (e : EF) (vs1 : List Nat) (Γ : List G) : List D → List MO → Rz (List D)
  | [], M => .ok [] M
  | d :: ds, M => match b d Γ with
    | none => .no
    | some Γ1 => (t Γ1 M).bind fun c M1 => if c = true then (fi Γ1 M1).bind fun es M2 => (lcGo b1 t1 e (wipeG Γ1 vs1) es M2).bind fun ys M3 => (lc2Go b t fi b1 t1 e vs1 Γ ds M3).bind fun zs M4 => .ok (ys ++ zs) M4 else lc2Go b t fi b1 t1 e vs1 Γ ds M1
def nLc2 (fi : NF) (b : BF) (t : TF) (fi1 : NF) (b1 : BF) (t1 : TF) (e : EF) (vs vs1 : List Nat) : NF := fun Γ M => (fi Γ M).bind fun ds M1 => (noEr (lc2Go b t fi1 b1 t1 e vs1 (wipeG Γ vs) ds M1)).bind fun ys M2 => chk (ys.length ≤ sizeLine) (.ok ys M2)
structure SB (K : PySem.W.Frag) (tg : TG) (b : BF) (js : List Nat) : Prop where
  ok : ∀ {d Γ Γ1}, b d Γ = some Γ1 → BG K tg d Γ Γ1 js
structure SBs (K : PySem.W.Frag) (tg : TGs) (b : List BF) (n : Nat) (js : List Nat) : Prop where
  len : b.length = n
  ok : ∀ {ds Γ Γ1}, bGo b ds Γ = some Γ1 → ds.length = n ∧ BGs K tg ds Γ Γ1 js
section
variable {A : Str → Addr} {K : PySem.W.Frag} {W : WX} {te ta tb tc : TE} {tt tu : TT} {tA : TA} {fa fb fc f e : EF} {t u : TF} {fs : AF} {wi wi1 : TI} {fi fi1 : NF} {tg tg1 : TG} {b b1 : BF} {js js1 vs vs1 : List Nat}
theorem sb_name {i : Nat} : SB K (gName i) (bName i) [i] := ⟨fun h => by cases h; exact bg_name⟩
theorem sbs_nil : SBs K gNil [] 0 [] := ⟨rfl, fun {ds Γ Γ1} h => by
  cases ds with
  | nil => cases h; exact ⟨rfl, bgs_nil⟩
  | cons d ds => cases h⟩
theorem sbs_cons {tgs : TGs} {bs : List BF} {n : Nat} {ks : List Nat} (h1 : SB K tg b js) (h2 : SBs K tgs bs n ks) : SBs K (gCons tg tgs) (b :: bs) (n + 1) (js ++ ks) := ⟨by simp [h2.len], fun {ds Γ Γ1} h => by
  cases ds with
  | nil => cases h
  | cons d ds =>
    unfold bGo at h
    cases e : b d Γ with
    | none => rw [e] at h; cases h
    | some Γ2 =>
      rw [e] at h
      obtain ⟨l, q⟩ := h2.ok h
      exact ⟨by simp [l], bgs_cons (h1.ok e) q⟩⟩
theorem sb_tup {tgs : TGs} {bs : List BF} {n : Nat} (h : SBs K tgs bs n js) : SB K (gTup K n tgs) (bTup bs) js := ⟨fun {d Γ Γ1} q => by
  unfold bTup at q
  split at q <;> first | (cases q; done) | skip
  obtain ⟨l, q⟩ := h.ok q
  have := bg_tup q
  rw [l] at this
  exact this⟩
theorem si_any (ha : SE A K W te fa) : SI A K W (iAny K te) (iRow fa) := by
  constructor
  · intro Γ M g M' h
    obtain ⟨g1, M1, h1, h⟩ := bind_ok h
    unfold rowG at h
    split at h <;> first | (cases h; done) | skip
    · cases h; exact ei_any (ha.ok h1) rfl
    · cases h; exact ei_any (ha.ok h1) rfl
    · cases h; exact ei_any (ha.ok h1) rfl
  · intro Γ M x fs M' h
    rcases bind_er h with h1 | ⟨g1, M1, h1, h⟩
    · exact fun B as F σ H S O Q q => ha.er h1 B as F σ H S O _ q
    · unfold rowG at h
      split at h <;> cases h
theorem si_args {o : List G → List MO → Rz (List D)} {mk : TA → TI} (hx : ∀ {Γ M C fs M'}, EvAX K W tA Γ M C fs M' → EvIX K W (mk tA) Γ M C fs M') (ho : ∀ {gs M ds M'}, o gs M = .ok ds M' → M' = M ∧ ∀ {Γ M0}, EvA K tA Γ M0 gs M → EvI K (mk tA) Γ M0 ds M)
    (hn : ∀ {gs M x fs M'}, o gs M ≠ .er x fs M') (hs : SA A K W tA fs) : SI A K W (mk tA) (iArgs o fs) := by
  constructor
  · intro Γ M g M' h
    obtain ⟨g1, M1, h1, h⟩ := bind_ok h
    obtain ⟨rfl, q⟩ := ho h
    exact q (hs.ok h1)
  · intro Γ M x fs M' h
    rcases bind_er h with h1 | ⟨g1, M1, h1, h⟩
    · exact hx (hs.er h1)
    · exact absurd h hn
theorem si_rng1 (hs : SA A K W tA fs) : SI A K W (iRng1 tA) (iArgs rng1G fs) := si_args (mk := iRng1) (fun h B as F σ H S O Q q => h B as F σ H S O _ q) (fun {gs M ds M'} h => by
  unfold rng1G at h
  split at h <;> first | (cases h; done) | skip
  obtain ⟨hc, h⟩ := chk_ok h
  cases h
  exact ⟨rfl, fun h => ei_rng1 h hc⟩) (fun {gs M x fs M'} h => by
  unfold rng1G at h
  split at h <;> first | (cases h; done) | (cases (chk_er h).2)) hs
theorem si_rng2 (hs : SA A K W tA fs) : SI A K W (iRng2 tA) (iArgs rng2G fs) := si_args (mk := iRng2) (fun h B as F σ H S O Q q => h B as F σ H S O _ q) (fun {gs M ds M'} h => by
  unfold rng2G at h
  split at h <;> first | (cases h; done) | skip
  obtain ⟨hc, h⟩ := chk_ok h
  cases h
  exact ⟨rfl, fun h => ei_rng2 h hc.1 hc.2⟩) (fun {gs M x fs M'} h => by
  unfold rng2G at h
  split at h <;> first | (cases h; done) | (cases (chk_er h).2)) hs
theorem si_enum (hs : SA A K W tA fs) : SI A K W (iEnumA K tA) (iArgs enumG fs) := si_args (mk := iEnumA K) (fun h B as F σ H S O Q q => h B as F σ H S O _ q) (fun {gs M ds M'} h => by
  unfold enumG at h
  split at h <;> first | (cases h; done) | skip
  · cases h; exact ⟨rfl, fun h => ei_enumA h rfl⟩
  · cases h; exact ⟨rfl, fun h => ei_enumA h rfl⟩
  · cases h; exact ⟨rfl, fun h => ei_enumA h rfl⟩) (fun {gs M x fs M'} h => by
  unfold enumG at h
  split at h <;> cases h) hs
theorem si_zip (hs : SA A K W tA fs) : SI A K W (iZip K tA) (iArgs zipG fs) := si_args (mk := iZip K) (fun h B as F σ H S O Q q => h B as F σ H S O _ q) (fun {gs M ds M'} h => by
  unfold zipG at h
  split at h <;> first | (cases h; done) | skip
  cases h; exact ⟨rfl, fun h => ei_zip h⟩) (fun {gs M x fs M'} h => by
  unfold zipG at h
  split at h <;> cases h) hs
theorem st_yes : ST A K W tYes tTrue := ⟨fun h => by cases h; exact et_yes, fun h => by cases h⟩
theorem noEr_ok {α : Type} {r : Rz α} {a : α} {M : List MO} (h : noEr r = .ok a M) : r = .ok a M := by
  cases r <;> first | exact h | cases h
theorem noEr_er {α : Type} {r : Rz α} {x : Str} {z : Flds} {M : List MO} (h : noEr r = .er x z M) : False := by
  cases r <;> cases h
theorem lcGo_len {Γ : List G} : ∀ {ds : List D} {M M' : List MO} {xs : List D}, lcGo b t e Γ ds M = .ok xs M' → xs.length ≤ ds.length
  | [], M, M', xs, h => by cases h; exact Nat.le_refl _
  | d :: ds, M, M', xs, h => by
    unfold lcGo at h
    split at h <;> first | (cases h; done) | skip
    obtain ⟨c, M1, h1, h⟩ := bind_ok h
    split at h
    · obtain ⟨g, M2, h2, h⟩ := bind_ok h
      split at h <;> first | (cases h; done) | skip
      obtain ⟨ys, M3, h3, h⟩ := bind_ok h
      cases h
      have := lcGo_len h3
      simp; omega
    · have := lcGo_len h
      simp; omega
/-- the walk of a comprehension: the rest of it gives r -/
theorem lc_run {J : It} {ds : List D} {Γ : List G} {B0 B1 F H1 : Hp} {as : List Addr} {M1 : List MO} {σ : L2.St} {Dl : Addr} {Q : L2.VK} {te : TE} (hbg : SB K tg b js) (hjs : ∀ i, i ∈ js → i ∈ vs) (wk : WalkD K J B1 ds) (O : SOk K B1 as σ Γ) (S1 : Sat K B1 as M1 F H1) (hD : H1 Dl = none) (hz : ds.length < sizeLine)
    (r : Rz (List D)) (hr : lcGo b t e (wipeG Γ vs) ds M1 = r) (hrn : r ≠ .no)
    (ht : ∀ {Γ M c M'}, t Γ M = .ok c M' → EvT K tt Γ M c M') (htx : ∀ {Γ M x fs M'}, t Γ M = .er x fs M' → False) (he : ∀ {Γ M g M'}, e Γ M = .ok g M' → Ev K te Γ M g M')
    (hx : ∀ {Γ1 M x fs M' Mf}, e Γ1 M = .er x fs M' → r = .er x fs Mf → Mf = M' → ∀ (B2 : Hp) (ws : List V) (σ3 : L2.St) (H2 : Hp), Ex B1 B2 → Sat K B2 as M (upd F Dl (.lst ws)) H2 → SOk K B2 as σ3 Γ1 → ∀ Q : L2.VK, te σ3 H2 Q)
    (hq : ∀ (xs : List D) (M' : List MO), r = .ok xs M' → ∀ (B' : Hp) (ws : List V) (H' : Hp), Ex B1 B' → Sat K B' as M' (upd F Dl (.lst ws)) H' → Reps K B' ws xs → Q (.ref Dl) H') :
    ∃ Wv : Nat → Nat → Hp → Prop, (∃ m, Wv 0 m (upd H1 Dl (.lst []))) ∧ ∀ i m H, Wv i m H →
      (J.stop i H ∧ Q (.ref Dl) H) ∨ (J.go i H ∧ ∃ Nx : Hp → Prop, (∀ H', Nx H' → ∃ m', m' < m ∧ Wv (i + 1) m' H') ∧ ∀ x H', J.yld i H x H' → tg x (L2.wipe σ vs) H' fun σ2 H2 => L2.wipe σ2 vs = L2.wipe σ vs ∧ tt σ2 H2 fun c H3 =>
        if c = true then te σ2 H3 fun y H4 => ∃ acc, H4 Dl = some (.lst acc) ∧ acc.length < sizeLine ∧ Nx (upd H4 Dl (.lst (acc ++ [y]))) else Nx H3) := by
  have fD : F Dl = none := by
    cases q : F Dl with
    | none => rfl
    | some u => rw [(S1.fr Dl u q).1] at hD; cases hD
  -- the state ahead of turn i: what is made so far and what the rest gives
  refine ⟨fun i k H' => k = ds.length - i ∧ i ≤ ds.length ∧ ∃ B' ws xs Mi, Ex B1 B' ∧ Sat K B' as Mi (upd F Dl (.lst ws)) H' ∧ Reps K B' ws xs ∧ xs.length ≤ i ∧ r = (lcGo b t e (wipeG Γ vs) (ds.drop i) Mi).bind fun ys M => .ok (xs ++ ys) M,
    ⟨ds.length, by simp, Nat.zero_le _, B1, [], [], M1, Ex.refl _, S1.frame hD, .nil, Nat.le_refl _, ?_⟩, ?_⟩
  · rw [List.drop_zero, hr]
    cases r <;> rfl
  rintro i k H' ⟨rfl, hle, B', ws, xs, Mi, e', S', rw', hl, hre⟩
  by_cases hlt : i < ds.length
  · rw [List.drop_eq_getElem_cons hlt] at hre
    unfold lcGo at hre
    refine .inr ⟨wk.goes i H' hlt (e'.trans S'.ex), fun H2 => ∃ B' ws xs Mi, Ex B1 B' ∧ Sat K B' as Mi (upd F Dl (.lst ws)) H2 ∧ Reps K B' ws xs ∧ xs.length ≤ i + 1 ∧ r = (lcGo b t e (wipeG Γ vs) (ds.drop (i + 1)) Mi).bind fun ys M => .ok (xs ++ ys) M, fun H2 q2 => ⟨ds.length - (i + 1), by omega, rfl, hlt, q2⟩, fun x H2 y => ?_⟩
    obtain ⟨d, hd, hy⟩ := wk.yields i H' x H2 hlt (e'.trans S'.ex) y
    rw [List.getElem?_eq_getElem hlt] at hd
    cases (show ds[i] = d from Option.some.inj hd)
    obtain ⟨B3, e3, S3, r3⟩ := hy B' _ _ _ e' S'
    cases q : b ds[i] (wipeG Γ vs) with
    | none => rw [q] at hre; exact absurd hre hrn
    | some Γ1 =>
      rw [q] at hre
      simp only [] at hre
      refine hbg.ok q B3 _ (L2.wipe σ vs) H2 x S3.ex ((O.wipe vs).up (e'.trans e3)) r3 _ fun σ3 O3 l3 n3 => ⟨wipe_ext (by rw [l3, L2.wipe_length]) n3 hjs, ?_⟩
      cases qt : t Γ1 Mi with
      | no => rw [qt] at hre; exact absurd hre hrn
      | er x fs M' => exact (htx qt).elim
      | ok c M2 =>
        rw [qt, ok_bind] at hre
        refine ht qt B3 as _ σ3 H2 S3 O3 _ fun B4 H4 e4 S4 => ?_
        cases c with
        | true =>
          rw [if_pos rfl] at hre ⊢
          cases qe : e Γ1 M2 with
          | no => rw [qe] at hre; exact absurd hre hrn
          | er x fs M' =>
            rw [qe] at hre
            exact hx qe hre rfl B4 _ σ3 H4 ((e'.trans e3).trans e4) S4 (O3.up e4) _
          | ok g M3 =>
            rw [qe, ok_bind] at hre
            cases g with
            | no => exact absurd hre hrn
            | mr j => exact absurd hre hrn
            | dat y =>
              refine he qe B4 as _ σ3 H4 S4 (O3.up e4) _ fun v B5 H5 e5 S5 r5 => ?_
              obtain ⟨T5, hD5, nB5⟩ := S5.unframe fD
              refine ⟨ws, hD5, by rw [rw'.len]; omega, B5, ws ++ [v], xs ++ [y], M3, ((e'.trans e3).trans e4).trans e5, ?_, (rw'.up ((e3.trans e4).trans e5)).append (.cons r5 .nil), by simp; omega, ?_⟩
              · have z := T5.frame (o := .lst (ws ++ [v])) del_same
                rw [show upd (del H5 Dl) Dl (.lst (ws ++ [v])) = upd H5 Dl (.lst (ws ++ [v])) from by
                  rw [← upd_del hD5, upd_upd, upd_del hD5]] at z
                exact z
              · rw [hre]
                cases lcGo b t e (wipeG Γ vs) (ds.drop (i + 1)) M3 with
                | no => rfl
                | er x fs M' => rfl
                | ok ys M' => show Rz.ok (xs ++ y :: ys) M' = Rz.ok (xs ++ [y] ++ ys) M'; simp
        | false =>
          rw [if_neg (by simp)] at hre ⊢
          exact ⟨B4, ws, xs, M2, (e'.trans e3).trans e4, S4, rw'.up (e3.trans e4), by omega, hre⟩
  · have ei : i = ds.length := by omega
    subst ei
    refine .inl ⟨wk.stops H' (e'.trans S'.ex), ?_⟩
    rw [List.drop_length] at hre
    exact hq xs Mi (by rw [hre]; show Rz.ok (xs ++ []) Mi = _; simp) B' ws H' e' S' rw'
theorem evn_lc {W' : WX} {Γ : List G} {M M1 M' : List MO} {ds xs : List D} (hi : EvI K wi Γ M ds M1) (hbg : SB K tg b js) (hjs : ∀ i, i ∈ js → i ∈ vs) (ht : ST A K W' tt t) (he : SE A K W te e) (htx : ∀ {Γ M x fs M'}, t Γ M = .er x fs M' → False) (hz : ds.length < sizeLine) (h : lcGo b t e (wipeG Γ vs) ds M1 = .ok xs M') : EvN K (tLc wi tg tt te vs) Γ M xs M' := by
  intro B as F σ H S O Q q
  refine hi B as F σ H S O _ fun J B1 H1 e1 S1 wk => ?_
  intro Dl hD
  have fD : F Dl = none := by
    cases e : F Dl with
    | none => rfl
    | some u => rw [(S1.fr Dl u e).1] at hD; cases hD
  refine lc_run (B0 := B) (as := as) (F := F) hbg hjs wk (O.up e1) S1 hD hz _ h (by intro z; cases z) (fun h => ht.ok h) htx (fun h => he.ok h) (fun _ z _ => by cases z) fun xs' Mf hx B' ws H' e' S' rw' => ?_
  cases hx
  obtain ⟨T, hDl, nB⟩ := S'.unframe fD
  have z := q Dl ws B' (del H' Dl) (e1.trans e') T del_same rw'
  rw [upd_del hDl] at z
  exact z
theorem evx_iter {Γ : List G} {M M' : List MO} {C : Addr} {fs : Flds} (h : EvIX K W wi Γ M C fs M') : EvX K W (tLc wi tg tt te vs) Γ M C fs M' := fun B as F σ H S O Q q => h B as F σ H S O _ q
/-- tests of comprehensions raise nothing -/
def calmT (t : TF) : Prop := ∀ {Γ M x fs M'}, t Γ M = .er x fs M' → False
theorem calm_yes : calmT tTrue := fun h => by cases h
def tCalm (t : TF) : TF := fun Γ M => noEr (t Γ M)
theorem calm_tCalm : calmT (tCalm t) := fun h => noEr_er h
theorem st_calm (h : ST A K W tt t) : ST A K W tt (tCalm t) := ⟨fun q => h.ok (noEr_ok q), fun q => (noEr_er q).elim⟩
def neverW : WX := fun _ _ _ _ => False
theorem sn_lc (hi : SI A K W wi fi) (hbg : SB K tg b js) (hjs : ∀ i, i ∈ js → i ∈ vs) (ht : ST A K neverW tt t) (htx : calmT t) (he : SE A K neverW te e) : SN A K W (tLc wi tg tt te vs) (nLc fi b t e vs) := by
  constructor
  · intro Γ M g M' h
    obtain ⟨ds, M1, h1, h⟩ := bind_ok h
    obtain ⟨hz, h⟩ := chk_ok h
    exact evn_lc (hi.ok h1) hbg hjs ht he htx hz (noEr_ok h)
  · intro Γ M x fs M' h
    rcases bind_er h with h1 | ⟨g1, M1, h1, h⟩
    · exact evx_iter (hi.er h1)
    · exact (noEr_er (chk_er h).2).elim
theorem sn_lcX {te : XK → TE} (hi : SI A K W wi fi) (hbg : SB K tg b js) (hjs : ∀ i, i ∈ js → i ∈ vs) (ht : ST A K neverW tt t) (htx : calmT t) (he : ∀ Eo : XK, SE A K (WofE' Eo) (te Eo) e) : SN A K W (tLcX wi tg tt te vs W) (nLcX fi b t e vs) := by
  constructor
  · intro Γ M g M' h
    obtain ⟨ds, M1, h1, h⟩ := bind_ok h
    obtain ⟨hz, h⟩ := chk_ok h
    exact ev_lcX fun Eo => evn_lc (hi.ok h1) hbg hjs ht (he Eo) htx hz h
  · intro Γ M x fs M' h
    rcases bind_er h with h1 | ⟨ds, M1, h1, h⟩
    · exact fun B as F σ H S O Q q => hi.er h1 B as F σ H S O _ q
    · obtain ⟨hz, h⟩ := chk_er h
      intro B as F σ H S O Q q
      refine hi.ok h1 B as F σ H S O _ fun J B1 H1 e1 S1 wk => ?_
      intro Dl hD
      have fD : F Dl = none := by
        cases e : F Dl with
        | none => rfl
        | some u => rw [(S1.fr Dl u e).1] at hD; cases hD
      refine lc_run (B0 := B) (as := as) (F := F) hbg hjs wk (O.up e1) S1 hD hz _ h (by intro z; cases z) (fun h => ht.ok h) htx (fun h => (he _).ok h) (fun {Γ1 M x' fs' M'' Mf} he' hr hm B2 ws σ3 H2 e2 S2 O2 Q' => ?_) fun xs' Mf hx B' ws H' e' S' rw' => by cases hx
      cases hr
      subst hm
      exact (he (fun cls d H' => W cls d σ H')).er he' B2 as _ σ3 H2 S2 O2 _ fun dd B5 H5 e5 S5 x5 => q dd B5 H5 ((e1.trans e2).trans e5) (S5.lessF fD) x5

theorem lc_in {J : It} {ds : List D} {Γ : List G} {B1 F H0 : Hp} {as : List Addr} {M1 : List MO} {σ : L2.St} {Dl : Addr} {End : Hp → Prop} {ws0 : List V} {xs0 xs : List D} {M' : List MO} (hbg : SB K tg b js) (hjs : ∀ i, i ∈ js → i ∈ vs) (wk : WalkD K J B1 ds) (O : SOk K B1 as σ Γ) (fD : F Dl = none)
    (S0 : Sat K B1 as M1 (upd F Dl (.lst ws0)) H0) (r0 : Reps K B1 ws0 xs0) (hr : lcGo b t e (wipeG Γ vs) ds M1 = .ok xs M') (hz : xs0.length + xs.length ≤ sizeLine) (ht : ∀ {Γ M c M'}, t Γ M = .ok c M' → EvT K tt Γ M c M') (he : ∀ {Γ M g M'}, e Γ M = .ok g M' → Ev K te Γ M g M')
    (hq : ∀ (B' : Hp) (ws : List V) (H' : Hp), Ex B1 B' → Sat K B' as M' (upd F Dl (.lst ws)) H' → Reps K B' ws (xs0 ++ xs) → End H') :
    ∃ Wv : Nat → Nat → Hp → Prop, (∃ m, Wv 0 m H0) ∧ ∀ i m H, Wv i m H →
      (J.stop i H ∧ End H) ∨ (J.go i H ∧ ∃ Nx : Hp → Prop, (∀ H', Nx H' → ∃ m', m' < m ∧ Wv (i + 1) m' H') ∧ ∀ x H', J.yld i H x H' → tg x (L2.wipe σ vs) H' fun σ2 H2 => L2.wipe σ2 vs = L2.wipe σ vs ∧ tt σ2 H2 fun c H3 =>
        if c = true then te σ2 H3 fun y H4 => ∃ acc, H4 Dl = some (.lst acc) ∧ acc.length < sizeLine ∧ Nx (upd H4 Dl (.lst (acc ++ [y]))) else Nx H3) := by
  refine ⟨fun i k H' => k = ds.length - i ∧ i ≤ ds.length ∧ ∃ B' ws made rest Mi, Ex B1 B' ∧ Sat K B' as Mi (upd F Dl (.lst ws)) H' ∧ Reps K B' ws (xs0 ++ made) ∧ made ++ rest = xs ∧ lcGo b t e (wipeG Γ vs) (ds.drop i) Mi = .ok rest M',
    ⟨ds.length, by simp, Nat.zero_le _, B1, ws0, [], xs, M1, Ex.refl _, S0, by simpa using r0, rfl, by simpa using hr⟩, ?_⟩
  rintro i k H' ⟨rfl, hle, B', ws, made, rest, Mi, e', S', rw', hm, hre⟩
  by_cases hlt : i < ds.length
  · rw [List.drop_eq_getElem_cons hlt] at hre
    unfold lcGo at hre
    refine .inr ⟨wk.goes i H' hlt (e'.trans S'.ex), fun H2 => ∃ B' ws made rest Mi, Ex B1 B' ∧ Sat K B' as Mi (upd F Dl (.lst ws)) H2 ∧ Reps K B' ws (xs0 ++ made) ∧ made ++ rest = xs ∧ lcGo b t e (wipeG Γ vs) (ds.drop (i + 1)) Mi = .ok rest M', fun H2 q2 => ⟨ds.length - (i + 1), by omega, rfl, hlt, q2⟩, fun x H2 y => ?_⟩
    obtain ⟨d, hd, hy⟩ := wk.yields i H' x H2 hlt (e'.trans S'.ex) y
    rw [List.getElem?_eq_getElem hlt] at hd
    cases (show ds[i] = d from Option.some.inj hd)
    obtain ⟨B3, e3, S3, r3⟩ := hy B' _ _ _ e' S'
    cases q : b ds[i] (wipeG Γ vs) with
    | none => rw [q] at hre; cases hre
    | some Γ1 =>
      rw [q] at hre
      simp only [] at hre
      obtain ⟨c, M2, qt, hre⟩ := bind_ok hre
      refine hbg.ok q B3 _ (L2.wipe σ vs) H2 x S3.ex ((O.wipe vs).up (e'.trans e3)) r3 _ fun σ3 O3 l3 n3 => ⟨wipe_ext (by rw [l3, L2.wipe_length]) n3 hjs, ?_⟩
      refine ht qt B3 as _ σ3 H2 S3 O3 _ fun B4 H4 e4 S4 => ?_
      cases c with
      | true =>
        rw [if_pos rfl] at hre ⊢
        obtain ⟨g, M3, qe, hre⟩ := bind_ok hre
        cases g with
        | no => cases hre
        | mr j => cases hre
        | dat y =>
          obtain ⟨ys, M4, qr, hre⟩ := bind_ok hre
          cases hre
          refine he qe B4 as _ σ3 H4 S4 (O3.up e4) _ fun v B5 H5 e5 S5 r5 => ?_
          obtain ⟨T5, hD5, nB5⟩ := S5.unframe fD
          refine ⟨ws, hD5, ?_, B5, ws ++ [v], made ++ [y], ys, M3, ((e'.trans e3).trans e4).trans e5, ?_, ?_, by simpa using hm, qr⟩
          · rw [rw'.len]
            have := congrArg List.length hm
            simp at this ⊢; omega
          · have z := T5.frame (o := .lst (ws ++ [v])) del_same
            rw [show upd (del H5 Dl) Dl (.lst (ws ++ [v])) = upd H5 Dl (.lst (ws ++ [v])) from by
              rw [← upd_del hD5, upd_upd, upd_del hD5]] at z
            exact z
          · rw [← List.append_assoc]
            exact (rw'.up ((e3.trans e4).trans e5)).append (.cons r5 .nil)
      | false =>
        rw [if_neg (by simp)] at hre ⊢
        exact ⟨B4, ws, made, rest, M2, (e'.trans e3).trans e4, S4, rw'.up (e3.trans e4), hm, hre⟩
  · have ei : i = ds.length := by omega
    subst ei
    refine .inl ⟨wk.stops H' (e'.trans S'.ex), ?_⟩
    rw [List.drop_length] at hre
    cases hre
    rw [List.append_nil] at hm
    subst hm
    exact hq B' ws H' e' S' rw'
theorem evn_lc2 {tt1 : TT} {t1 : TF} {Γ : List G} {M M1 M' : List MO} {ds xs : List D} (hi : EvI K wi Γ M ds M1) (hbg : SB K tg b js) (hjs : ∀ i, i ∈ js → i ∈ vs) (hbg1 : SB K tg1 b1 js1) (hjs1 : ∀ i, i ∈ js1 → i ∈ vs1) (ht : ST A K W tt t) (ht1 : ST A K W tt1 t1) (hi1 : SI A K W wi1 fi1) (he : SE A K W te e)
    (hz : xs.length ≤ sizeLine) (h : lc2Go b t fi1 b1 t1 e vs1 (wipeG Γ vs) ds M1 = .ok xs M') : EvN K (tLc2 wi tg tt wi1 tg1 tt1 te vs vs1) Γ M xs M' := by
  intro B as F σ H S O Q q
  refine hi B as F σ H S O _ fun J B1 H1 e1 S1 wk => ?_
  intro Dl hD
  have fD : F Dl = none := by
    cases e : F Dl with
    | none => rfl
    | some u => rw [(S1.fr Dl u e).1] at hD; cases hD
  have O1 := O.up e1
  refine ⟨fun i k H' => k = ds.length - i ∧ i ≤ ds.length ∧ ∃ B' ws made rest Mi, Ex B1 B' ∧ Sat K B' as Mi (upd F Dl (.lst ws)) H' ∧ Reps K B' ws made ∧ made ++ rest = xs ∧ lc2Go b t fi1 b1 t1 e vs1 (wipeG Γ vs) (ds.drop i) Mi = .ok rest M',
    ⟨ds.length, by simp, Nat.zero_le _, B1, [], [], xs, M1, Ex.refl _, S1.frame hD, .nil, rfl, by simpa using h⟩, ?_⟩
  rintro i k H' ⟨rfl, hle, B', ws, made, rest, Mi, e', S', rw', hm, hre⟩
  by_cases hlt : i < ds.length
  · rw [List.drop_eq_getElem_cons hlt] at hre
    unfold lc2Go at hre
    refine .inr ⟨wk.goes i H' hlt (e'.trans S'.ex), fun H2 => ∃ B' ws made rest Mi, Ex B1 B' ∧ Sat K B' as Mi (upd F Dl (.lst ws)) H2 ∧ Reps K B' ws made ∧ made ++ rest = xs ∧ lc2Go b t fi1 b1 t1 e vs1 (wipeG Γ vs) (ds.drop (i + 1)) Mi = .ok rest M', fun H2 q2 => ⟨ds.length - (i + 1), by omega, rfl, hlt, q2⟩, fun x H2 y => ?_⟩
    obtain ⟨d, hd, hy⟩ := wk.yields i H' x H2 hlt (e'.trans S'.ex) y
    rw [List.getElem?_eq_getElem hlt] at hd
    cases (show ds[i] = d from Option.some.inj hd)
    obtain ⟨B3, e3, S3, r3⟩ := hy B' _ _ _ e' S'
    cases qb : b ds[i] (wipeG Γ vs) with
    | none => rw [qb] at hre; cases hre
    | some Γ1 =>
      rw [qb] at hre
      simp only [] at hre
      obtain ⟨c, M2, qt, hre⟩ := bind_ok hre
      refine hbg.ok qb B3 _ (L2.wipe σ vs) H2 x S3.ex ((O1.wipe vs).up (e'.trans e3)) r3 _ fun σ3 O3 l3 n3 => ⟨wipe_ext (by rw [l3, L2.wipe_length]) n3 hjs, ?_⟩
      refine ht.ok qt B3 as _ σ3 H2 S3 O3 _ fun B4 H4 e4 S4 => ?_
      cases c with
      | true =>
        rw [if_pos rfl] at hre ⊢
        obtain ⟨es, M3, qi, hre⟩ := bind_ok hre
        obtain ⟨ys, M4, ql, hre⟩ := bind_ok hre
        obtain ⟨zs, M5, qz, hre⟩ := bind_ok hre
        cases hre
        refine hi1.ok qi B4 as _ σ3 H4 S4 (O3.up e4) _ fun J1 B5 H5 e5 S5 wk1 => ?_
        refine lc_in (vs := vs1) (xs0 := made) (ws0 := ws) hbg1 hjs1 wk1 ((O3.up e4).up e5) fD S5 (rw'.up ((e3.trans e4).trans e5)) ql ?_ (fun h => ht1.ok h) (fun h => he.ok h) fun B6 ws6 H6 e6 S6 r6 => ?_
        · have := congrArg List.length hm
          simp at this ⊢; omega
        · exact ⟨B6, ws6, made ++ ys, zs, M4, (((e'.trans e3).trans e4).trans e5).trans e6, S6, r6, by simpa using hm, qz⟩
      | false =>
        rw [if_neg (by simp)] at hre ⊢
        exact ⟨B4, ws, made, rest, M2, (e'.trans e3).trans e4, S4, rw'.up (e3.trans e4), hm, hre⟩
  · have ei : i = ds.length := by omega
    subst ei
    refine .inl ⟨wk.stops H' (e'.trans S'.ex), ?_⟩
    rw [List.drop_length] at hre
    cases hre
    rw [List.append_nil] at hm
    subst hm
    obtain ⟨T, hDl, nB⟩ := S'.unframe fD
    have z := q Dl ws B' (del H' Dl) (e1.trans e') T del_same rw'
    rw [upd_del hDl] at z
    exact z
theorem sn_lc2 {tt1 : TT} {t1 : TF} (hi : SI A K W wi fi) (hbg : SB K tg b js) (hjs : ∀ i, i ∈ js → i ∈ vs) (hbg1 : SB K tg1 b1 js1) (hjs1 : ∀ i, i ∈ js1 → i ∈ vs1) (ht : ST A K neverW tt t) (ht1 : ST A K neverW tt1 t1) (hi1 : SI A K neverW wi1 fi1) (he : SE A K neverW te e) :
    SN A K W (tLc2 wi tg tt wi1 tg1 tt1 te vs vs1) (nLc2 fi b t fi1 b1 t1 e vs vs1) := by
  constructor
  · intro Γ M g M' h
    obtain ⟨ds, M1, h1, h⟩ := bind_ok h
    obtain ⟨ys, M2, h2, h⟩ := bind_ok h
    obtain ⟨hz, h⟩ := chk_ok h
    cases h
    exact evn_lc2 (hi.ok h1) hbg hjs hbg1 hjs1 ht ht1 hi1 he hz (noEr_ok h2)
  · intro Γ M x fs M' h
    rcases bind_er h with h1 | ⟨ds, M1, h1, h⟩
    · exact fun B as F σ H S O Q q => hi.er h1 B as F σ H S O _ q
    · rcases bind_er h with h2 | ⟨ys, M2, h2, h⟩
      · exact (noEr_er h2).elim
      · cases (chk_er h).2
end
end Lw

set_option Elab.async false
set_option linter.all false
set_option maxRecDepth 100000
set_option maxHeartbeats 4000000
namespace Lw
open PySem L2
/-! ## statements -/
inductive Fl where
  | nx (Γ : List G)
  | rt (g : G)
  | bk (Γ : List G)
  | ct (Γ : List G)
  | ex (x : Str) (fs : Flds) (Γ : List G)
abbrev SF := List G → List MO → Rz Fl
def Fl.r (A : Str → Addr) : Fl → List MO → R
  | .nx Γ, M => .nx Γ M
  | .rt g, M => .rt g M
  | .bk Γ, M => .bk Γ M
  | .ct Γ, M => .ct Γ M
  | .ex x fs Γ, M => .ex (A x) fs Γ M
structure SS (A : Str → Addr) (K : PySem.W.Frag) (W : WX) (t : TS) (f : SF) : Prop where
  run : ∀ {Γ M fl M'}, f Γ M = .ok fl M' → Does K W t Γ M (fl.r A M')
/-- what an expression raises leaves the statement -/
def exB {α : Type} (Γ : List G) (r : Rz α) (k : α → List MO → Rz Fl) : Rz Fl := match r with
  | .ok a M => k a M
  | .er x fs M => .ok (.ex x fs Γ) M
  | .no => .no
def sNext : SF := fun Γ M => .ok (.nx Γ) M
def sBreak : SF := fun Γ M => .ok (.bk Γ) M
def sCont : SF := fun Γ M => .ok (.ct Γ) M
def seqK (h : SF) : Fl → List MO → Rz Fl
  | .nx Γ, M => h Γ M
  | fl, M => .ok fl M
def sSeq (f h : SF) : SF := fun Γ M => (f Γ M).bind (seqK h)
def sAsg (i : Nat) (e : EF) : SF := fun Γ M => exB Γ (e Γ M) fun g M1 => .ok (.nx (Γ.set i g)) M1
def sAsgN (i : Nat) (n : NF) : SF := fun Γ M => exB Γ (n Γ M) fun xs M1 => .ok (.nx (Γ.set i (.mr M1.length))) (M1 ++ [.lst xs])
def asgT (b : BF) (Γ : List G) : G → List MO → Rz Fl
  | .dat d, M => match b d Γ with
    | some Γ1 => .ok (.nx Γ1) M
    | none => .no
  | _, _ => .no
def sAsgT (b : BF) (e : EF) : SF := fun Γ M => exB Γ (e Γ M) (asgT b Γ)
def sRet (e : EF) : SF := fun Γ M => exB Γ (e Γ M) fun g M1 => .ok (.rt g) M1
def sRetN : SF := fun _ M => .ok (.rt (.dat .non)) M
def sDrop (e : EF) : SF := fun Γ M => exB Γ (e Γ M) fun _ M1 => .ok (.nx Γ) M1
def sIf (t : TF) (f h : SF) : SF := fun Γ M => exB Γ (t Γ M) fun c M1 => if c = true then f Γ M1 else h Γ M1
def forL (b : BF) (f : SF) : List D → SF
  | [], Γ, M => .ok (.nx Γ) M
  | d :: ds, Γ, M => match b d Γ with
    | none => .no
    | some Γ1 => (f Γ1 M).bind fun fl M2 => match fl with
      | .nx Γ2 => forL b f ds Γ2 M2
      | .ct Γ2 => forL b f ds Γ2 M2
      | .bk Γ2 => .ok (.nx Γ2) M2
      | .rt g => .ok (.rt g) M2
      | .ex x fs Γ2 => .ok (.ex x fs Γ2) M2
def sFor (fi : NF) (b : BF) (f : SF) : SF := fun Γ M => exB Γ (fi Γ M) fun ds M1 => forL b f ds Γ M1
/-- a change of a list that slot i names -/
def onMr (Γ : List G) (M : List MO) (i : Nat) (f : Nat → List D → Rz Fl) : Rz Fl := match Γ[i]? with
  | some (.mr j) => (match M[j]? with
    | some (.lst xs) => f j xs
    | _ => .no)
  | _ => .no
def sApp (i : Nat) (e : EF) : SF := fun Γ M => onMr Γ M i fun _ _ => (noEr (e Γ M)).bind fun g M1 => match g with
  | .dat d => onMr Γ M1 i fun j xs => chk (xs.length < sizeLine) (.ok (.nx Γ) (M1.set j (.lst (xs ++ [d]))))
  | _ => .no
def sRev (i : Nat) : SF := fun Γ M => onMr Γ M i fun j xs => .ok (.nx Γ) (M.set j (.lst xs.reverse))
def sSetL (i : Nat) (ei e : EF) : SF := fun Γ M => (noEr (e Γ M)).bind fun g M1 => (noEr (ei Γ M1)).bind fun k M2 => match g, k with
  | .dat d, .dat (.int k) => onMr Γ M2 i fun j xs => (match ixN xs.length k with
    | some n => .ok (.nx Γ) (M2.set j (.lst (xs.set n d)))
    | none => .no)
  | _, _ => .no
def sAug (i : Nat) (o : Int → Int → Int) (e : EF) : SF := fun Γ M => (noEr (e Γ M)).bind fun g M1 => match Γ[i]?, g with
  | some (.dat (.int a)), .dat (.int b) => .ok (.nx (Γ.set i (.dat (.int (o a b))))) M1
  | _, _ => .no
def sFrz (i : Nat) (f : SF) : SF := fun Γ M => onMr Γ M i fun j xs => f (Γ.map (frG j (.lst xs))) (M.set j .gone)
def sRaise (x : Str) : SF := fun Γ M => .ok (.ex x none Γ) M
def sNo : SF := fun _ _ => .no
def ePop (i : Nat) : EF := fun Γ M => match Γ[i]? with
  | some (.mr j) => (match M[j]? with
    | some (.lst xs) => (match xs.getLast? with
      | some d => .ok (.dat d) (M.set j (.lst xs.dropLast))
      | none => .no)
    | _ => .no)
  | _ => .no
def handK (mt : Str → Str → Option Bool) (x : Str) (fs : Flds) : List (Str × SF) → SF
  | [], Γ, M => .ok (.ex x fs Γ) M
  | (y, h) :: r, Γ, M => match mt x y with
    | some true => h Γ M
    | some false => handK mt x fs r Γ M
    | none => .no
def tryK (mt : Str → Str → Option Bool) (hs : List (Str × SF)) : Fl → List MO → Rz Fl
  | .ex x fs Γ, M => handK mt x fs hs Γ M
  | fl, M => .ok fl M
def sTry (mt : Str → Str → Option Bool) (f : SF) (hs : List (Str × SF)) : SF := fun Γ M => (f Γ M).bind (tryK mt hs)
/-- a def's meaning: its body run at its arguments; n slots, np of them arguments -/
def endK (M : List MO) : Fl → List MO → Rz D
  | .rt (.dat d), M2 => chk (M.length ≤ M2.length) (.ok d (M2.take M.length))
  | .nx _, M2 => chk (M.length ≤ M2.length) (.ok .non (M2.take M.length))
  | .ex x fs _, M2 => chk (M.length ≤ M2.length) (.er x fs (M2.take M.length))
  | _, _ => .no
def runF (np n : Nat) (f : SF) : Mn := fun gs M => chk (gs.length = np) ((noEr (f (gs ++ List.replicate (n - gs.length) .no) M)).bind (endK M))
section
variable {A : Str → Addr} {K : PySem.W.Frag} {W : WX} {te ta tb tc : TE} {tt : TT} {tu tw tz : TS} {tA : TA} {fa fb fc e : EF} {t u : TF} {fs : AF} {wi : TI} {fi n : NF} {tg : TG} {b : BF} {js : List Nat} {f h : SF} {i : Nat}
theorem exB_ok {α : Type} {Γ : List G} {r : Rz α} {k : α → List MO → Rz Fl} {fl : Fl} {M' : List MO} (h : exB Γ r k = .ok fl M') : (∃ a M, r = .ok a M ∧ k a M = .ok fl M') ∨ ∃ x fs, r = .er x fs M' ∧ fl = .ex x fs Γ := by
  cases r with
  | ok a M => exact .inl ⟨a, M, rfl, h⟩
  | er x fs M => cases h; exact .inr ⟨x, fs, rfl, rfl⟩
  | no => cases h
theorem ss_next : SS A K W tNext sNext := SS.mk fun h => by cases h; exact do_next
theorem ss_break : SS A K W tBreak sBreak := SS.mk fun h => by cases h; exact do_break
theorem ss_cont : SS A K W tCont sCont := SS.mk fun h => by cases h; exact do_cont
theorem ss_seq (h1 : SS A K W tu f) (h2 : SS A K W tw h) : SS A K W (tSeq tu tw) (sSeq f h) := SS.mk fun {Γ M fl M'} q => by
  obtain ⟨fl1, M1, q1, q⟩ := bind_ok q
  cases fl1 with
  | nx Γ1 => exact do_seq (h1.run q1) (h2.run q)
  | rt g => cases q; exact do_rt (h1.run q1)
  | bk Γ1 => cases q; exact do_bk (h1.run q1)
  | ct Γ1 => cases q; exact do_ct (h1.run q1)
  | ex x fs Γ1 => cases q; exact do_ex (h1.run q1)
theorem ss_asg (he : SE A K W te e) : SS A K W (tAsg te (gName i)) (sAsg i e) := SS.mk fun {Γ M fl M'} q => by
  rcases exB_ok q with ⟨a, M1, h1, q⟩ | ⟨x, fs, h1, rfl⟩
  · cases q; exact do_asg (he.ok h1)
  · exact do_asgX (he.er h1)
theorem ss_asgN (he : SN A K W te n) : SS A K W (tAsg te (gName i)) (sAsgN i n) := SS.mk fun {Γ M fl M'} q => by
  rcases exB_ok q with ⟨a, M1, h1, q⟩ | ⟨x, fs, h1, rfl⟩
  · cases q; exact do_asgN (he.ok h1)
  · exact do_asgX (he.er h1)
theorem ss_asgT (he : SE A K W te e) (hb : SB K tg b js) : SS A K W (tAsg te tg) (sAsgT b e) := SS.mk fun {Γ M fl M'} q => by
  rcases exB_ok q with ⟨a, M1, h1, q⟩ | ⟨x, fs, h1, rfl⟩
  · unfold asgT at q
    split at q <;> first | (cases q; done) | skip
    split at q <;> first | (cases q; done) | skip
    rename_i e1
    cases q
    exact do_asgT (he.ok h1) (hb.ok e1)
  · exact do_asgX (he.er h1)
theorem ss_ret (he : SE A K W te e) : SS A K W (tRet te) (sRet e) := SS.mk fun {Γ M fl M'} q => by
  rcases exB_ok q with ⟨a, M1, h1, q⟩ | ⟨x, fs, h1, rfl⟩
  · cases q; exact do_ret (he.ok h1)
  · exact do_retX (he.er h1)
theorem ss_retN : SS A K W tRetN sRetN := SS.mk fun h => by cases h; exact do_retN
theorem ss_drop (he : SE A K W te e) : SS A K W (tDrop te) (sDrop e) := SS.mk fun {Γ M fl M'} q => by
  rcases exB_ok q with ⟨a, M1, h1, q⟩ | ⟨x, fs, h1, rfl⟩
  · cases q; exact do_drop (he.ok h1)
  · exact do_dropX (he.er h1)
theorem ss_if (ht : ST A K W tt t) (h1 : SS A K W tu f) (h2 : SS A K W tw h) : SS A K W (tIfS tt tu tw) (sIf t f h) := SS.mk fun {Γ M fl M'} q => by
  rcases exB_ok q with ⟨c, M1, q1, q⟩ | ⟨x, fs, q1, rfl⟩
  · cases c with
    | true => rw [if_pos rfl] at q; exact do_if (ht.ok q1) (fun _ => h1.run q) (fun z => by cases z)
    | false => rw [if_neg (by simp)] at q; exact do_if (ht.ok q1) (fun z => by cases z) (fun _ => h2.run q)
  · exact fun B as F σ H E S O p => ht.er q1 B as F σ H S O _ fun dd B1 H1 e1 S1 x => p dd B1 [] σ H1 e1 (by rw [List.append_nil]; exact S1) (by rw [List.append_nil]; exact O.up e1) x
theorem ss_for (hi : SI A K W wi fi) (hb : SB K tg b js) (hs : SS A K W tu f) : SS A K W (tFor wi tg tu) (sFor fi b f) := SS.mk fun {Γ M fl M'} q => by
  rcases exB_ok q with ⟨ds, M1, q1, q⟩ | ⟨x, fs, q1, rfl⟩
  · intro B as F σ H E S O p
    refine hi.ok q1 B as F σ H S O _ fun J B1 H1 e1 S1 wk => ?_
    refine ⟨fun i k σ' H' => k = ds.length - i ∧ i ≤ ds.length ∧ ∃ Γi Mi B' bs, forL b f (ds.drop i) Γi Mi = .ok fl M' ∧ Ex B1 B' ∧ Sat K B' (as ++ bs) Mi F H' ∧ SOk K B' (as ++ bs) σ' Γi,
      ⟨ds.length, by simp, Nat.zero_le _, Γ, M1, B1, [], by simpa using q, Ex.refl _, by rw [List.append_nil]; exact S1, by rw [List.append_nil]; exact O.up e1⟩, ?_⟩
    rintro i k σ' H' ⟨rfl, hle, Γi, Mi, B', bs, hq, e', S', O'⟩
    by_cases hlt : i < ds.length
    · rw [List.drop_eq_getElem_cons hlt] at hq
      unfold forL at hq
      refine .inr ⟨wk.goes i H' hlt (e'.trans S'.ex), fun σ2 H2 => ∃ Γi Mi B' bs, forL b f (ds.drop (i + 1)) Γi Mi = .ok fl M' ∧ Ex B1 B' ∧ Sat K B' (as ++ bs) Mi F H2 ∧ SOk K B' (as ++ bs) σ2 Γi, fun σ2 H2 q2 => ⟨ds.length - (i + 1), by omega, rfl, hlt, q2⟩, fun x H2 y => ?_⟩
      obtain ⟨d, hd, hy⟩ := wk.yields i H' x H2 hlt (e'.trans S'.ex) y
      rw [List.getElem?_eq_getElem hlt] at hd
      cases (show ds[i] = d from Option.some.inj hd)
      obtain ⟨B3, e3, S3, r3⟩ := hy B' _ _ _ e' S'
      cases qb : b ds[i] Γi with
      | none => rw [qb] at hq; cases hq
      | some Γ1 =>
        rw [qb] at hq
        simp only [] at hq
        obtain ⟨fl1, M2, qf, hq⟩ := bind_ok hq
        have dz := hs.run qf
        refine hb.ok qb B3 _ σ' H2 x S3.ex (O'.up e3) r3 _ fun σ3 O3 _ _ => ?_
        have p3 : Post K W E B3 (as ++ bs) F (fl.r A M') := p.up ((e1.trans e').trans e3)
        refine dz B3 _ F σ3 H2 _ S3 O3 ?_
        cases fl1 with
        | nx Γ2 => exact fun B4 cs σ4 H4 e4 S4 O4 => ⟨Γ2, M2, B4, bs ++ cs, hq, (e'.trans e3).trans e4, by rw [← List.append_assoc]; exact S4, by rw [← List.append_assoc]; exact O4⟩
        | ct Γ2 => exact fun B4 cs σ4 H4 e4 S4 O4 => ⟨Γ2, M2, B4, bs ++ cs, hq, (e'.trans e3).trans e4, by rw [← List.append_assoc]; exact S4, by rw [← List.append_assoc]; exact O4⟩
        | bk Γ2 => cases hq; exact p3
        | rt g => cases hq; exact p3
        | ex x fs Γ2 => cases hq; exact p3
    · have ei : i = ds.length := by omega
      subst ei
      refine .inl ⟨wk.stops H' (e'.trans S'.ex), ?_⟩
      rw [List.drop_length] at hq
      cases hq
      exact p B' bs σ' H' (e1.trans e') S' O'
  · exact fun B as F σ H E S O p => hi.er q1 B as F σ H S O _ fun dd B1 H1 e1 S1 x => p dd B1 [] σ H1 e1 (by rw [List.append_nil]; exact S1) (by rw [List.append_nil]; exact O.up e1) x
theorem onMr_ok {Γ : List G} {M M' : List MO} {k : Nat → List D → Rz Fl} {fl : Fl} (q : onMr Γ M i k = .ok fl M') : ∃ j xs, Γ[i]? = some (.mr j) ∧ M[j]? = some (.lst xs) ∧ k j xs = .ok fl M' := by
  unfold onMr at q
  split at q <;> first | (cases q; done) | skip
  split at q <;> first | (cases q; done) | skip
  rename_i j e1 _ xs e2
  exact ⟨j, xs, e1, e2, q⟩
theorem ss_app (he : SE A K neverW te e) : SS A K W (tDrop (tBM K "list" rAppend (tVar i) (tCons te tNil))) (sApp i e) := SS.mk fun {Γ M fl M'} q => by
  obtain ⟨j, xs, h1, h2, q⟩ := onMr_ok q
  obtain ⟨g, M1, h3, q⟩ := bind_ok q
  cases g <;> first | (cases q; done) | skip
  obtain ⟨j', ys, h4, h5, q⟩ := onMr_ok q
  rw [h1] at h4; cases h4
  obtain ⟨hz, q⟩ := chk_ok q
  cases q
  exact do_app (ev_m h1) (he.ok (noEr_ok h3)) h5 h2 hz
theorem ss_rev : SS A K W (tDrop (tBM0 K "list" rReverse (tVar i))) (sRev i) := SS.mk fun {Γ M fl M'} q => by
  obtain ⟨j, xs, h1, h2, q⟩ := onMr_ok q
  cases q
  exact do_rev (ev_m h1) h2
theorem ss_setL {ei : EF} (hk : SE A K neverW tb ei) (he : SE A K neverW te e) : SS A K W (tAsg te (gSub (tVar i) tb rSetL)) (sSetL i ei e) := SS.mk fun {Γ M fl M'} q => by
  obtain ⟨g, M1, h1, q⟩ := bind_ok q
  obtain ⟨k, M2, h2, q⟩ := bind_ok q
  split at q <;> first | (cases q; done) | skip
  obtain ⟨j, xs, h3, h4, q⟩ := onMr_ok q
  split at q <;> first | (cases q; done) | skip
  rename_i hk'
  cases q
  exact do_setL (he.ok (noEr_ok h1)) (ev_m h3) (hk.ok (noEr_ok h2)) h4 hk'
theorem ss_aug {o : Int → Int → Int} (he : SE A K neverW te e) : SS A K W (tAug i te (ipI o)) (sAug i o e) := SS.mk fun {Γ M fl M'} q => by
  obtain ⟨g, M1, h1, q⟩ := bind_ok q
  split at q <;> first | (cases q; done) | skip
  rename_i h3
  cases q
  exact do_aug h3 (he.ok (noEr_ok h1))
theorem ss_frz (hs : SS A K W tu f) : SS A K W tu (sFrz i f) := SS.mk fun {Γ M fl M'} q => by
  obtain ⟨j, xs, h1, h2, q⟩ := onMr_ok q
  exact do_freeze h2 (hs.run q)
theorem ss_raise {x : Str} : SS A K W (fun _ σ H => (fun (_ : L2.St) (H : Hp) (Q : XK) => Q (.ref (A x)) none H) σ H fun cls d H' => W cls d σ H') (sRaise x) := SS.mk fun {Γ M fl M'} q => by
  cases q; exact do_raise0
theorem ss_no {t : TS} : SS A K W t sNo := SS.mk fun q => by cases q
theorem se_pop : SE A K W (tBM0 K "list" rPop (tVar i)) (ePop i) := by
  constructor
  · intro Γ M g M' q
    unfold ePop at q
    split at q <;> first | (cases q; done) | skip
    split at q <;> first | (cases q; done) | skip
    split at q <;> first | (cases q; done) | skip
    rename_i j h1 _ xs h2 _ d h3
    cases q
    obtain ⟨ys, rfl⟩ := List.getLast?_eq_some_iff.mp h3
    rw [List.dropLast_concat]
    exact ev_pop (ev_m h1) h2
  · intro Γ M x fs M' q
    unfold ePop at q
    split at q <;> first | (cases q; done) | skip
    split at q <;> first | (cases q; done) | skip
    split at q <;> cases q
/-- the clauses of a try -/
structure Cl (A : Str → Addr) (K : PySem.W.Frag) (W : WX) (l : List (Value × (Addr → Value → Option Addr → TS))) (hs : List (Str × SF)) : Prop where
  len : l.length = hs.length
  at' : ∀ (i : Nat) (c : Value) (ts : Addr → Value → Option Addr → TS) (y : Str) (h : SF), l[i]? = some (c, ts) → hs[i]? = some (y, h) → c = .ref (A y) ∧ ∀ a cls d, SS A K W (ts a cls d) h
theorem cl_nil : Cl A K W [] [] := ⟨rfl, fun i c ts y h h1 => by simp at h1⟩
theorem cl_cons {c : Value} {ts : Addr → Value → Option Addr → TS} {y : Str} {l : List (Value × (Addr → Value → Option Addr → TS))} {hs : List (Str × SF)} (hc : c = .ref (A y)) (h1 : ∀ a cls d, SS A K W (ts a cls d) h) (r : Cl A K W l hs) : Cl A K W ((c, ts) :: l) ((y, h) :: hs) :=
  ⟨by simp [r.len], fun i c' ts' y' h' q1 q2 => by
    cases i with
    | zero => simp at q1 q2; obtain ⟨rfl, rfl⟩ := q1; obtain ⟨rfl, rfl⟩ := q2; exact ⟨hc, h1⟩
    | succ i => simp at q1 q2; exact r.at' i c' ts' y' h' q1 q2⟩
theorem cl_tail {c : Value × (Addr → Value → Option Addr → TS)} {y : Str × SF} {l : List (Value × (Addr → Value → Option Addr → TS))} {hs : List (Str × SF)} (r : Cl A K W (c :: l) (y :: hs)) : Cl A K W l hs :=
  ⟨by simpa using r.len, fun i c' ts' y' h' q1 q2 => r.at' (i + 1) c' ts' y' h' (by simpa using q1) (by simpa using q2)⟩
def tTry (K : PySem.W.Frag) (W : WX) (tb : WX → TS) (l : List (Value × (Addr → Value → Option Addr → TS))) : TS := fun D σ H => tb (wMany K W D l) D σ H
theorem ss_try {mt : Str → Str → Option Bool} {hs : List (Str × SF)} {l : List (Value × (Addr → Value → Option Addr → TS))} {tb : WX → TS} (hm : ∀ {x y c}, mt x y = some c → PySem.W.exmOne K (.ref (A x)) (.ref (A y)) = some c) (hb : ∀ W, SS A K W (tb W) f) (hc : Cl A K W l hs) :
    SS A K W (tTry K W tb l) (sTry mt f hs) := SS.mk fun {Γ M fl M'} q0 => by
  obtain ⟨fl1, M1, q1, q⟩ := bind_ok q0
  clear q0
  intro B as F σ H E S O p
  refine (hb (wMany K W E l)).run q1 B as F σ H E S O ?_
  cases fl1 with
  | nx Γ1 => cases q; exact p
  | rt g => cases q; exact p
  | bk Γ1 => cases q; exact p
  | ct Γ1 => cases q; exact p
  | ex x xs Γ1 =>
    have q2 : handK mt x xs hs Γ1 M1 = .ok fl M' := q
    clear q
    intro dd B1 bs σ1 H1 e1 S1 O1 xr
    clear q1 hb
    induction l generalizing hs with
    | nil =>
      cases hs with
      | nil => cases q2; exact p dd B1 bs σ1 H1 e1 S1 O1 xr
      | cons z hs => have := hc.len; simp at this
    | cons c l ih =>
      cases hs with
      | nil => have := hc.len; simp at this
      | cons z hs =>
        obtain ⟨c, ts⟩ := c
        obtain ⟨y, h⟩ := z
        obtain ⟨rfl, hts⟩ := hc.at' 0 c ts y h rfl rfl
        unfold handK at q2
        split at q2
        · rename_i e
          refine ⟨true, hm e, fun _ a ha => ?_, (fun z => by cases z)⟩
          exact (hts a _ dd).run q2 B1 (as ++ bs) F σ1 H1 E S1 O1 (p.up e1)
        · rename_i e
          exact ⟨false, hm e, (fun z => by cases z), fun _ => ih (cl_tail hc) q2⟩
        · cases q2
/-! ## a def -/
theorem run_con {np nn : Nat} {gs : List G} {M : List MO} {r : R1} (h : con A (runF np nn f) gs M r) : gs.length = np := by
  rcases h with ⟨d, M', h, _⟩ | ⟨x, fs, M', h, _⟩
  · exact (chk_ok h).1
  · exact (chk_er h).1
theorem take_ok {M M2 : List MO} (h : M.length ≤ M2.length) : (M2.take M.length).length = M.length ∧ M2.take M.length ++ M2.drop M.length = M2 := ⟨by simp; omega, List.take_append_drop _ _⟩
theorem run_done {E : XK} {np nn : Nat} {t : TS} (hs : SS A K (WofE E) t f) {gs : List G} {M : List MO} {r : R1} (h : con A (runF np nn f) gs M r) : Done K E t (gs ++ List.replicate (nn - gs.length) .no) M r := by
  rcases h with ⟨d, M', h, rfl⟩ | ⟨x, fs, M', h, rfl⟩
  · obtain ⟨fl, M2, h1, h⟩ := bind_ok (chk_ok h).2
    have h1 := noEr_ok h1
    unfold endK at h
    split at h
    · obtain ⟨hl, h⟩ := chk_ok h
      cases h
      have := take_ok hl
      exact ⟨this.1, d, M2.drop M.length, rfl, .inl (by rw [this.2]; exact hs.run h1)⟩
    · obtain ⟨hl, h⟩ := chk_ok h
      cases h
      have := take_ok hl
      exact ⟨this.1, .non, M2.drop M.length, rfl, .inr ⟨rfl, _, by rw [this.2]; exact hs.run h1⟩⟩
    · cases (chk_ok h).2
    · cases h
  · rcases bind_er (chk_er h).2 with h1 | ⟨fl, M2, h1, h⟩
    · exact (noEr_er h1).elim
    · have h1 := noEr_ok h1
      unfold endK at h
      split at h
      · cases (chk_er h).2
      · cases (chk_er h).2
      · obtain ⟨hl, h⟩ := chk_er h
        cases h
        have := take_ok hl
        exact ⟨this.1, _, M2.drop M.length, by rw [this.2]; exact hs.run h1⟩
      · cases h
end
end Lw

set_option Elab.async false
set_option linter.all false
set_option maxRecDepth 100000
set_option maxHeartbeats 4000000
namespace Lw
open PySem L2
/-! ## operations -/
instance (i j : Int) : Decidable (CMulW i j) := inferInstanceAs (Decidable (_ < _))
instance (i j : Int) : Decidable (CDivW i j) := inferInstanceAs (Decidable (_ ∧ _))
instance (i j : Int) : Decidable (CPow i j) := by unfold CPow; exact inferInstance
def oI (f : Int → Int → D) : D → D → List MO → Rz G
  | .int i, .int j, M => .ok (.dat (f i j)) M
  | _, _, _ => .no
def oC (C : Int → Int → Prop) [∀ i j, Decidable (C i j)] (f : Int → Int → D) : D → D → List MO → Rz G
  | .int i, .int j, M => chk (C i j) (.ok (.dat (f i j)) M)
  | _, _, _ => .no
def oEq : D → D → List MO → Rz G := fun a b M => chk (scalD a b = true) (.ok (.dat (.bl (eqS a b))) M)
def oNe : D → D → List MO → Rz G := fun a b M => chk (scalD a b = true) (.ok (.dat (.bl (!eqS a b))) M)
def oEqD (neg : Bool) : D → D → List MO → Rz G := fun a b M => match toPy a, toPy b with
  | some p, some q => chk (SeqAt.shaped p = true ∧ SeqAt.shaped q = true) (.ok (.dat (.bl (if neg then !PyData.eqv p q else PyData.eqv p q))) M)
  | _, _ => .no
def oIsN : D → D → List MO → Rz G
  | a, .non, M => .ok (.dat (.bl (isNon a))) M
  | _, _, _ => .no
def oNotN : D → D → List MO → Rz G
  | a, .non, M => .ok (.dat (.bl (!isNon a))) M
  | _, _, _ => .no
def flV : D → Option V
  | .non => some .non | .bl b => some (.bl b) | .int i => some (.int i) | .str s => some (.str s) | _ => none
def flVs : List D → Option (List V)
  | [] => some []
  | d :: ds => match flV d, flVs ds with
    | some v, some vs => some (v :: vs)
    | _, _ => none
def oIn (neg : Bool) : D → D → List MO → Rz G := fun a b M => chk (isRow b = true) (match flV a, flVs (rowD b) with
  | some v, some vs => .ok (.dat (.bl (if neg then !inV v vs else inV v vs))) M
  | _, _ => .no)
def oCatT : D → D → List MO → Rz G
  | .tup ds, .tup es, M => chk (ds.length + es.length ≤ sizeLine) (.ok (.dat (.tup (ds ++ es))) M)
  | _, _, _ => .no
def catG : G → G → List MO → Rz (List D)
  | .dat (.lst ds), .dat (.lst es), M => chk (ds.length + es.length ≤ sizeLine) (.ok (ds ++ es) M)
  | _, _, _ => .no
def nCat (fa fb : EF) : NF := fun Γ M => (fa Γ M).bind fun g1 M1 => (fb Γ M1).bind fun g2 M2 => catG g1 g2 M2
def pNone : OF := fun _ M => .ok none M
def pSome (e : EF) : OF := fun Γ M => (noEr (e Γ M)).bind fun g M1 => match g with
  | .dat (.int i) => .ok (some i) M1
  | _ => .no
def slG (lo hi : Option Int) : G → List MO → Rz (List D)
  | .dat (.lst ds), M => .ok (cutD ds lo hi) M
  | .mr j, M => match M[j]? with
    | some (.lst ds) => .ok (cutD ds lo hi) M
    | _ => .no
  | _, _ => .no
def nSl (e : EF) (lo hi : OF) : NF := fun Γ M => (noEr (e Γ M)).bind fun g M1 => (lo Γ M1).bind fun l M2 => (hi Γ M2).bind fun h M3 => slG l h g M3
section
variable {A : Str → Addr} {K : PySem.W.Frag} {W : WX} {te ta tb : TE} {fa fb e : EF}
theorem so_I0 {fv : Int → Int → V} {fd : Int → Int → D} (hl : ∀ i j, Lit (fv i j) (fd i j)) : SO K (rI0 fv) (oI fd) := by
  constructor
  · intro a b M g M' h
    unfold oI at h
    split at h <;> first | (cases h; done) | skip
    cases h
    exact ⟨rfl, rv_I0 (hl _ _)⟩
  · intro a b M x fs M' h
    unfold oI at h
    split at h <;> cases h
theorem so_I {C : Int → Int → Prop} [∀ i j, Decidable (C i j)] {fv : Int → Int → V} {fd : Int → Int → D} (hl : ∀ i j, Lit (fv i j) (fd i j)) : SO K (rI C fv) (oC C fd) := by
  constructor
  · intro a b M g M' h
    unfold oC at h
    split at h <;> first | (cases h; done) | skip
    obtain ⟨hc, h⟩ := chk_ok h
    cases h
    exact ⟨rfl, rv_I (hl _ _) hc⟩
  · intro a b M x fs M' h
    unfold oC at h
    split at h <;> first | (cases h; done) | (cases (chk_er h).2)
theorem so_eq : SO K rEq oEq := ⟨fun h => by
  obtain ⟨hc, h⟩ := chk_ok h
  cases h
  exact ⟨rfl, rv_eq hc⟩, fun h => by cases (chk_er h).2⟩
theorem so_ne : SO K rNe oNe := ⟨fun h => by
  obtain ⟨hc, h⟩ := chk_ok h
  cases h
  exact ⟨rfl, rv_ne hc⟩, fun h => by cases (chk_er h).2⟩
theorem so_eqD : SO K (rEqD K) (oEqD false) := by
  constructor
  · intro a b M g M' h
    unfold oEqD at h
    split at h <;> first | (cases h; done) | skip
    rename_i p q h1 h2
    obtain ⟨hc, h⟩ := chk_ok h
    cases h
    exact ⟨rfl, rv_eqD h1 h2 hc.1 hc.2 rfl⟩
  · intro a b M x fs M' h
    unfold oEqD at h
    split at h <;> first | (cases h; done) | (cases (chk_er h).2)
theorem so_neD : SO K (rNeD K) (oEqD true) := by
  constructor
  · intro a b M g M' h
    unfold oEqD at h
    split at h <;> first | (cases h; done) | skip
    rename_i p q h1 h2
    obtain ⟨hc, h⟩ := chk_ok h
    cases h
    exact ⟨rfl, rv_neD h1 h2 hc.1 hc.2 rfl⟩
  · intro a b M x fs M' h
    unfold oEqD at h
    split at h <;> first | (cases h; done) | (cases (chk_er h).2)
theorem so_isN : SO K (fun x y H Q => y = .non ∧ Q (.bl (decide (x = .non))) H) oIsN := by
  constructor
  · intro a b M g M' h
    unfold oIsN at h
    split at h <;> first | (cases h; done) | skip
    cases h; exact ⟨rfl, rv_isN⟩
  · intro a b M x fs M' h
    unfold oIsN at h
    split at h <;> cases h
theorem so_notN : SO K (fun x y H Q => y = .non ∧ Q (.bl (!decide (x = .non))) H) oNotN := by
  constructor
  · intro a b M g M' h
    unfold oNotN at h
    split at h <;> first | (cases h; done) | skip
    cases h; exact ⟨rfl, rv_notN⟩
  · intro a b M x fs M' h
    unfold oNotN at h
    split at h <;> cases h
theorem flV_rep {B : Hp} {d : D} {v w : V} (h : flV d = some v) (r : Rep K B w d) : w = v ∧ flatV v = true := by
  cases r <;> cases h <;> exact ⟨rfl, rfl⟩
theorem flVs_rep {B : Hp} : ∀ {ds : List D} {vs ws : List V}, flVs ds = some vs → Reps K B ws ds → ws = vs ∧ vs.all flatV = true
  | [], vs, ws, h, r => by cases r; cases h; exact ⟨rfl, rfl⟩
  | d :: ds, vs, ws, h, r => by
    cases r with
    | cons r rs =>
      unfold flVs at h
      split at h <;> first | (cases h; done) | skip
      rename_i v vs' h1 h2
      cases h
      obtain ⟨rfl, q1⟩ := flV_rep h1 r
      obtain ⟨rfl, q2⟩ := flVs_rep h2 rs
      exact ⟨rfl, by rw [List.all_cons, q1, q2]; rfl⟩
theorem so_in {neg : Bool} : SO K (rIn K neg) (oIn neg) := by
  constructor
  · intro a b M g M' h
    obtain ⟨hb, h⟩ := chk_ok h
    split at h <;> first | (cases h; done) | skip
    rename_i v vs h1 h2
    cases h
    refine ⟨rfl, fun B as F H x y S r1 r2 Q q => ?_⟩
    obtain ⟨rfl, f1⟩ := flV_rep h1 r1
    cases b <;> first | (cases hb; done) | skip
    · cases r2 with
      | tup s r =>
        obtain ⟨rfl, f2⟩ := flVs_rep h2 r
        exact ⟨_, _, rfl, .inr (sqt S.ex s), f1, f2, q _ B H (Ex.refl B) S .bl⟩
    · cases r2 with
      | lst s r =>
        obtain ⟨rfl, f2⟩ := flVs_rep h2 r
        exact ⟨_, _, rfl, .inl (Or.inl (Or.inl (S.ex _ _ s))), f1, f2, q _ B H (Ex.refl B) S .bl⟩
    · cases r2 with
      | fz s r =>
        obtain ⟨rfl, f2⟩ := flVs_rep h2 r
        exact ⟨_, _, rfl, .inl (ex_l S.ex s), f1, f2, q _ B H (Ex.refl B) S .bl⟩
  · intro a b M x fs M' h
    have h := (chk_er h).2
    split at h <;> cases h
theorem so_catT : SO K (rCatA K) oCatT := by
  constructor
  · intro a b M g M' h
    unfold oCatT at h
    split at h <;> first | (cases h; done) | skip
    obtain ⟨hc, h⟩ := chk_ok h
    cases h
    exact ⟨rfl, rv_catA hc⟩
  · intro a b M x fs M' h
    unfold oCatT at h
    split at h <;> first | (cases h; done) | (cases (chk_er h).2)
theorem sn_cat (ha : SE A K W ta fa) (hb : SE A K W tb fb) : SN A K W (tOp rCat ta tb) (nCat fa fb) := by
  constructor
  · intro Γ M g M' h
    obtain ⟨g1, M1, h1, h⟩ := bind_ok h
    obtain ⟨g2, M2, h2, h⟩ := bind_ok h
    unfold catG at h
    split at h <;> first | (cases h; done) | skip
    obtain ⟨hc, h⟩ := chk_ok h
    cases h
    exact ev_opN (ha.ok h1) (hb.ok h2) (rn_cat hc)
  · intro Γ M x fs M' h
    rcases bind_er h with h1 | ⟨g1, M1, h1, h⟩
    · exact evx_op1 (ha.er h1)
    rcases bind_er h with h2 | ⟨g2, M2, h2, h⟩
    · exact evx_op2 (ha.ok h1) (hb.er h2)
    unfold catG at h
    split at h <;> first | (cases h; done) | (cases (chk_er h).2)
theorem sp_none : SOp A K W tNoPart pNone := ⟨fun h => by cases h; exact eo_none, fun h => by cases h⟩
theorem sp_some (he : SE A K neverW te e) : SOp A K W (tPart te) (pSome e) := by
  constructor
  · intro Γ M g M' h
    obtain ⟨g1, M1, h1, h⟩ := bind_ok h
    split at h <;> first | (cases h; done) | skip
    cases h
    exact eo_some (he.ok (noEr_ok h1))
  · intro Γ M x fs M' h
    rcases bind_er h with h1 | ⟨g1, M1, h1, h⟩
    · exact noEr_er h1
    · split at h <;> cases h
theorem sn_sl {tl th : TO} {lo hi : OF} (he : SE A K neverW te e) (h1 : SOp A K W tl lo) (h2 : SOp A K W th hi) : SN A K W (tSl (rSlL K) te tl th) (nSl e lo hi) := by
  constructor
  · intro Γ M g M' h
    obtain ⟨g1, M1, q1, h⟩ := bind_ok h
    obtain ⟨l, M2, q2, h⟩ := bind_ok h
    obtain ⟨u, M3, q3, h⟩ := bind_ok h
    unfold slG at h
    split at h <;> first | (cases h; done) | skip
    · cases h
      exact ev_slL (he.ok (noEr_ok q1)) (h1.ok q2) (h2.ok q3)
    · split at h <;> first | (cases h; done) | skip
      rename_i hm
      cases h
      exact ev_slM (he.ok (noEr_ok q1)) (h1.ok q2) (h2.ok q3) hm
  · intro Γ M x fs M' h
    rcases bind_er h with q1 | ⟨g1, M1, q1, h⟩
    · exact (noEr_er q1).elim
    rcases bind_er h with q2 | ⟨l, M2, q2, h⟩
    · exact (h1.er q2).elim
    rcases bind_er h with q3 | ⟨u, M3, q3, h⟩
    · exact (h2.er q3).elim
    unfold slG at h
    split at h <;> first | (cases h; done) | skip
    split at h <;> cases h
end
/-! ## built-in functions -/
def cLen : List G → List MO → Rz G
  | [.dat (.tup ds)], M => .ok (.dat (.int ds.length)) M
  | [.dat (.lst ds)], M => .ok (.dat (.int ds.length)) M
  | [.dat (.fz ds)], M => .ok (.dat (.int ds.length)) M
  | [.mr j], M => match M[j]? with
    | some (.lst ds) => .ok (.dat (.int ds.length)) M
    | _ => .no
  | _, _ => .no
def cI1 (f : Int → Int) : List G → List MO → Rz G
  | [.dat (.int i)], M => .ok (.dat (.int (f i))) M
  | _, _ => .no
def cI2 (f : Int → Int → Int) : List G → List MO → Rz G
  | [.dat (.int i), .dat (.int j)], M => .ok (.dat (.int (f i j))) M
  | _, _ => .no
def cInt : List G → List MO → Rz G
  | [.dat (.int i)], M => .ok (.dat (.int i)) M
  | [.dat (.bl b)], M => .ok (.dat (.int (if b then 1 else 0))) M
  | _, _ => .no
def intsOf : List D → Option (List Int)
  | [] => some []
  | .int i :: ds => (intsOf ds).map (i :: ·)
  | _ => none
def blsOf : List D → Option (List Bool)
  | [] => some []
  | .bl i :: ds => (blsOf ds).map (i :: ·)
  | _ => none
theorem intsOf_eq : ∀ {ds : List D} {ns : List Int}, intsOf ds = some ns → ds = ns.map D.int
  | [], ns, h => by cases h; rfl
  | d :: ds, ns, h => by
    cases d <;> first | (cases h; done) | skip
    unfold intsOf at h
    cases e : intsOf ds with
    | none => rw [e] at h; cases h
    | some es => rw [e] at h; cases h; rw [intsOf_eq e]; rfl
theorem blsOf_eq : ∀ {ds : List D} {ns : List Bool}, blsOf ds = some ns → ds = ns.map D.bl
  | [], ns, h => by cases h; rfl
  | d :: ds, ns, h => by
    cases d <;> first | (cases h; done) | skip
    unfold blsOf at h
    cases e : blsOf ds with
    | none => rw [e] at h; cases h
    | some es => rw [e] at h; cases h; rw [blsOf_eq e]; rfl
theorem intsOf_map : ∀ ns : List Int, intsOf (ns.map D.int) = some ns
  | [] => rfl
  | n :: ns => by unfold List.map intsOf; rw [intsOf_map ns]; rfl
theorem blsOf_map : ∀ ns : List Bool, blsOf (ns.map D.bl) = some ns
  | [] => rfl
  | n :: ns => by unfold List.map blsOf; rw [blsOf_map ns]; rfl
def cSum : List G → List MO → Rz G
  | [.dat (.lst ds)], M => okA M ((intsOf ds).map fun ns => .dat (.int ns.sum))
  | _, _ => .no
def cAll : List G → List MO → Rz G
  | [.dat (.lst ds)], M => okA M ((blsOf ds).map fun ns => .dat (.bl (ns.all id)))
  | _, _ => .no
def cAny : List G → List MO → Rz G
  | [.dat (.lst ds)], M => okA M ((blsOf ds).map fun ns => .dat (.bl (ns.any id)))
  | _, _ => .no
def cTup : List G → List MO → Rz G
  | [.dat (.tup ds)], M => .ok (.dat (.tup ds)) M
  | [.dat (.lst ds)], M => .ok (.dat (.tup ds)) M
  | [.mr j], M => match M[j]? with
    | some (.lst ds) => .ok (.dat (.tup ds)) M
    | _ => .no
  | _, _ => .no
def cList : List G → List MO → Rz (List D)
  | [.dat (.tup ds)], M => .ok ds M
  | [.dat (.lst ds)], M => .ok ds M
  | [.mr j], M => match M[j]? with
    | some (.lst ds) => .ok ds M
    | _ => .no
  | _, _ => .no
def cSorted : List G → List MO → Rz (List D)
  | [.dat (.lst ds)], M => okA M ((intsOf ds).map fun ns => (srt ns).map D.int)
  | _, _ => .no
def isK : String → D → Option Bool
  | "int", d => some (isIB d)
  | "bool", d => some (isBl d)
  | "tuple", d => some (isTup d)
  | "list", d => some (isLst d)
  | "str", d => some (isStr d)
  | _, _ => none
def cIs : List G → List MO → Rz G
  | [.dat d, .dat (.ty n)], M => chk (plainD d = true) (okA M ((isK n d).map fun b => .dat (.bl b)))
  | _, _ => .no
def rowB (d : D) (M : List MO) : Rz G := chk (plainD d = true) (.ok (.dat (.bl (isRow d))) M)
def eIsRow (e : EF) : EF := fun Γ M => (noEr (e Γ M)).bind fun g M1 => match g with
  | .dat d => rowB d M1
  | _ => .no
def eLenSet (e : EF) : EF := fun Γ M => (noEr (e Γ M)).bind fun g M1 => match g with
  | .dat (.tup ds) => (match intsOf ds with
    | some ns => chk (ns.length ≤ 4000) (.ok (.dat (.int ((ddp ns).length : Nat))) M1)
    | none => .no)
  | _ => .no
section
variable {A : Str → Addr} {K : PySem.W.Frag} {W : WX} {te ta tb : TE} {fa fb e : EF}
theorem sc_len : SC K (rLenS K) cLen := by
  constructor
  · intro gs M g M' h
    unfold cLen at h
    split at h <;> first | (cases h; done) | skip
    · cases h; exact ⟨rfl, rc_lenT⟩
    · cases h; exact ⟨rfl, rc_lenL⟩
    · cases h; exact ⟨rfl, rc_lenF⟩
    · split at h <;> first | (cases h; done) | skip
      rename_i hm
      cases h; exact ⟨rfl, rc_lenM hm⟩
  · intro gs M x fs M' h
    unfold cLen at h
    split at h <;> first | (cases h; done) | skip
    split at h <;> cases h
theorem sc_i1 {f : Int → Int} : SC K (fun xs H Q => ∃ i, xs = [.int i] ∧ Q (.int (f i)) H) (cI1 f) := by
  constructor
  · intro gs M g M' h
    unfold cI1 at h
    split at h <;> first | (cases h; done) | skip
    cases h; exact ⟨rfl, rc_i1⟩
  · intro gs M x fs M' h
    unfold cI1 at h
    split at h <;> cases h
theorem sc_i2 {f : Int → Int → Int} : SC K (fun xs H Q => ∃ i j, xs = [.int i, .int j] ∧ Q (.int (f i j)) H) (cI2 f) := by
  constructor
  · intro gs M g M' h
    unfold cI2 at h
    split at h <;> first | (cases h; done) | skip
    cases h; exact ⟨rfl, rc_i2⟩
  · intro gs M x fs M' h
    unfold cI2 at h
    split at h <;> cases h
theorem sc_gcd : SC K rGcd (cI2 fun i k => ((Nat.gcd i.natAbs k.natAbs : Nat) : Int)) := by
  constructor
  · intro gs M g M' h
    unfold cI2 at h
    split at h <;> first | (cases h; done) | skip
    cases h; exact ⟨rfl, rc_gcd⟩
  · intro gs M x fs M' h
    unfold cI2 at h
    split at h <;> cases h
theorem sc_int : SC K (fun xs H Q => (∃ i, xs = [.int i] ∧ Q (.int i) H) ∨ ∃ k, xs = [.bl k] ∧ Q (.int (if k then 1 else 0)) H) cInt := by
  constructor
  · intro gs M g M' h
    unfold cInt at h
    split at h <;> first | (cases h; done) | skip
    · cases h; exact ⟨rfl, rc_int1⟩
    · cases h; exact ⟨rfl, rc_intB⟩
  · intro gs M x fs M' h
    unfold cInt at h
    split at h <;> cases h
theorem sc_sum : SC K (rSum K) cSum := by
  constructor
  · intro gs M g M' h
    unfold cSum at h
    split at h <;> first | (cases h; done) | skip
    obtain ⟨e, rfl⟩ := okA_ok h
    cases q : intsOf _ with
    | none => rw [q] at e; cases e
    | some ns => rw [q] at e; cases e; rw [intsOf_eq q]; exact ⟨rfl, rc_sum⟩
  · intro gs M x fs M' h
    unfold cSum at h
    split at h <;> first | (cases h; done) | (exact okA_er h)
theorem sc_all : SC K (rAll K) cAll := by
  constructor
  · intro gs M g M' h
    unfold cAll at h
    split at h <;> first | (cases h; done) | skip
    obtain ⟨e, rfl⟩ := okA_ok h
    cases q : blsOf _ with
    | none => rw [q] at e; cases e
    | some ns => rw [q] at e; cases e; rw [blsOf_eq q]; exact ⟨rfl, rc_all⟩
  · intro gs M x fs M' h
    unfold cAll at h
    split at h <;> first | (cases h; done) | (exact okA_er h)
theorem rc_any {M : List MO} {bs : List Bool} : RC K (rAny K) [.dat (.lst (bs.map D.bl))] M (.dat (.bl (bs.any id))) := fun B as F H vs S rs Q q => by
  cases rs with
  | cons r rs => cases rs; cases r with
    | lst s r => exact ⟨_, bs, rfl, by rw [← r.bools]; exact Or.inl (Or.inl (S.ex _ _ s)), q _ B H (Ex.refl B) S .bl⟩
theorem sc_any : SC K (rAny K) cAny := by
  constructor
  · intro gs M g M' h
    unfold cAny at h
    split at h <;> first | (cases h; done) | skip
    obtain ⟨e, rfl⟩ := okA_ok h
    cases q : blsOf _ with
    | none => rw [q] at e; cases e
    | some ns => rw [q] at e; cases e; rw [blsOf_eq q]; exact ⟨rfl, rc_any⟩
  · intro gs M x fs M' h
    unfold cAny at h
    split at h <;> first | (cases h; done) | (exact okA_er h)
theorem sc_tup : SC K (fun xs H Q => ∃ p ys, xs = [.ref p] ∧ ((SqL K H p ys ∧ ∀ l, H l = none → Q (.ref l) (upd H l (.tup ys))) ∨ (SqT K H p ys ∧ Q (.ref p) H))) cTup := by
  constructor
  · intro gs M g M' h
    unfold cTup at h
    split at h <;> first | (cases h; done) | skip
    · cases h; exact ⟨rfl, rc_tupT⟩
    · cases h; exact ⟨rfl, rc_tupL⟩
    · split at h <;> first | (cases h; done) | skip
      rename_i hm
      cases h; exact ⟨rfl, rc_tupM hm⟩
  · intro gs M x fs M' h
    unfold cTup at h
    split at h <;> first | (cases h; done) | skip
    split at h <;> cases h
theorem sc_list : SCN K (fun xs H Q => ∃ p ys, xs = [.ref p] ∧ (SqL K H p ys ∨ SqT K H p ys) ∧ ∀ l, H l = none → Q (.ref l) (upd H l (.lst ys))) cList := by
  constructor
  · intro gs M g M' h
    unfold cList at h
    split at h <;> first | (cases h; done) | skip
    · cases h; exact ⟨rfl, rn_listT⟩
    · cases h; exact ⟨rfl, rn_listL⟩
    · split at h <;> first | (cases h; done) | skip
      rename_i hm
      cases h; exact ⟨rfl, rn_listM hm⟩
  · intro gs M x fs M' h
    unfold cList at h
    split at h <;> first | (cases h; done) | skip
    split at h <;> cases h
theorem sc_sorted : SCN K (rSortedI K) cSorted := by
  constructor
  · intro gs M g M' h
    unfold cSorted at h
    split at h <;> first | (cases h; done) | skip
    obtain ⟨e, rfl⟩ := okA_ok h
    cases q : intsOf _ with
    | none => rw [q] at e; cases e
    | some ns => rw [q] at e; cases e; rw [intsOf_eq q]; exact ⟨rfl, rn_sortedL⟩
  · intro gs M x fs M' h
    unfold cSorted at h
    split at h <;> first | (cases h; done) | (exact okA_er h)
theorem sc_is : SC K (rIsi K) cIs := by
  constructor
  · intro gs M g M' h
    unfold cIs at h
    split at h <;> first | (cases h; done) | skip
    obtain ⟨hp, h⟩ := chk_ok h
    obtain ⟨e, rfl⟩ := okA_ok h
    unfold isK at e
    split at e <;> first | (cases e; done) | skip
    · cases e; exact ⟨rfl, rc_isInt hp⟩
    · cases e; exact ⟨rfl, rc_isBool hp⟩
    · cases e; exact ⟨rfl, rc_isTuple hp⟩
    · cases e; exact ⟨rfl, rc_isList hp⟩
    · cases e; exact ⟨rfl, rc_isStr hp⟩
  · intro gs M x fs M' h
    unfold cIs at h
    split at h <;> first | (cases h; done) | (exact okA_er (chk_er h).2)
theorem se_isRow (he : SE A K neverW te e) : SE A K W (tCB (rIsiT K) (tCons te (tCons (tTup (tCons (tC (.ty "tuple")) (tCons (tC (.ty "list")) tNil))) tNil))) (eIsRow e) := by
  constructor
  · intro Γ M g M' h
    obtain ⟨g1, M1, h1, h⟩ := bind_ok h
    split at h <;> first | (cases h; done) | skip
    obtain ⟨hp, h⟩ := chk_ok h
    cases h
    exact ev_isRow (he.ok (noEr_ok h1)) hp
  · intro Γ M x fs M' h
    rcases bind_er h with h1 | ⟨g1, M1, h1, h⟩
    · exact (noEr_er h1).elim
    · split at h <;> first | (cases h; done) | (cases (chk_er h).2)
theorem se_lenSet (he : SE A K neverW te e) : SE A K W (tLenSetT K te) (eLenSet e) := by
  constructor
  · intro Γ M g M' h
    obtain ⟨g1, M1, h1, h⟩ := bind_ok h
    split at h <;> first | (cases h; done) | skip
    split at h <;> first | (cases h; done) | skip
    rename_i ns q
    obtain ⟨hl, h⟩ := chk_ok h
    cases h
    rw [intsOf_eq q] at h1
    exact ev_lenSetT (he.ok (noEr_ok h1)) hl
  · intro Γ M x fs M' h
    rcases bind_er h with h1 | ⟨g1, M1, h1, h⟩
    · exact (noEr_er h1).elim
    · split at h <;> first | (cases h; done) | skip
      split at h <;> first | (cases h; done) | (cases (chk_er h).2)
end
end Lw

set_option Elab.async false
set_option linter.all false
set_option maxRecDepth 100000
set_option maxHeartbeats 4000000
namespace Lw
open PySem L2
/-! ## instances -/
/-- the object's class is one of those -/
def clsIn (A : Str → Addr) (cs : List Str) (C : Addr) : Bool := cs.any fun c => decide (C = A c)
theorem clsIn_ok {A : Str → Addr} {cs : List Str} {C : Addr} (h : clsIn A cs C = true) : ∃ c ∈ cs, C = A c := by
  unfold clsIn at h
  obtain ⟨c, hc, e⟩ := List.any_eq_true.mp h
  exact ⟨c, hc, of_decide_eq_true e⟩
def fldG (A : Str → Addr) (cs : List Str) (f : Str) : G → List MO → Rz G
  | .dat (.obj C ns ds), M => chk (clsIn A cs C = true) (okA M (((ns.zip ds).lookup f).map G.dat))
  | .mr j, M => match M[j]? with
    | some (.ins C ns ds) => chk (clsIn A cs C = true) (okA M (((ns.zip ds).lookup f).map G.dat))
    | _ => .no
  | _, _ => .no
def eFld (A : Str → Addr) (cs : List Str) (f : Str) (e : EF) : EF := fun Γ M => (noEr (e Γ M)).bind fun g M1 => fldG A cs f g M1
def eConst (A : Str → Addr) (c f : Str) (d : D) (e : EF) : EF := fun Γ M => (noEr (e Γ M)).bind fun g M1 => match g with
  | .mr j => (match M1[j]? with
    | some (.ins C ns ds) => chk (C = A c ∧ f ∉ ns) (.ok (.dat d) M1)
    | _ => .no)
  | _ => .no
/-- self.f = e, in __init__ -/
def sSetF (A : Str → Addr) (c : Str) (f : Str) (es e : EF) : SF := fun Γ M => exB Γ (e Γ M) fun g M1 => (noEr (es Γ M1)).bind fun s M2 => match g, s with
  | .dat d, .mr j => (match M2[j]? with
    | some (.ins C ns ds) => chk (C = A c ∧ f ∉ ns ∧ ns.length < 1000) (.ok (.nx Γ) (M2.set j (.ins C (ns ++ [f]) (ds ++ [d]))))
    | _ => .no)
  | _, _ => .no
def makeM (C : Addr) (m : Mn) (gs : List G) (M : List MO) : Rz G := onDats gs M fun ds => match m (.mr 0 :: ds.map G.dat) [.ins C [] []] with
  | .ok .non [.ins C' ns es] => chk (C' = C) (.ok (.dat (.obj C ns es)) M)
  | .er x fs [.ins C' ns es] => .er x fs M
  | _ => .no
def eMake (A : Str → Addr) (c : Str) (m : Mn) (fs : AF) : EF := fun Γ M => (fs Γ M).bind (makeM (A c) m)
/-- a call of what the local name i holds, a class -/
def eMakeL (A : Str → Addr) (c : Str) (i : Nat) (m : Mn) (fs : AF) : EF := fun Γ M => match Γ[i]? with
  | some (.dat (.cls C)) => chk (C = A c) (eMake A c m fs Γ M)
  | _ => .no
def methM (C : Addr) (f : Str) (m : Mn) (fs : AF) (Γ : List G) : G → List MO → Rz G
  | .dat (.obj C' ns es), M => chk (C' = C ∧ f ∉ ns) ((noEr (fs Γ M)).bind fun gs M1 => onDats gs M1 fun ds => match m (.dat (.obj C' ns es) :: ds.map G.dat) [] with
    | .ok d [] => .ok (.dat d) M1
    | _ => .no)
  | _, _ => .no
def eMeth (A : Str → Addr) (c f : Str) (m : Mn) (e : EF) (fs : AF) : EF := fun Γ M => (noEr (e Γ M)).bind fun g M1 => methM (A c) f m fs Γ g M1
/-- C.m(..), a class method -/
def eCMeth (A : Str → Addr) (c : Str) (m : Mn) (fs : AF) : EF := fun Γ M => (noEr (fs Γ M)).bind fun gs M1 => onDats gs M1 fun ds => match m (.dat (.cls (A c)) :: ds.map G.dat) [] with
  | .ok d [] => .ok (.dat d) M1
  | _ => .no
section
variable {A : Str → Addr} {K : PySem.W.Frag} {W : WX} {te ta tv : TE} {tA : TA} {e es fa : EF} {fs : AF} {cs : List Str} {c f : Str} {m : Mn}
theorem se_fld (hc : ∀ c ∈ cs, Cls K (A c) ∧ NoAttr K (A c) f) (he : SE A K neverW te e) : SE A K W (tFld K te f) (eFld A cs f e) := by
  constructor
  · intro Γ M g M' h
    obtain ⟨g1, M1, h1, h⟩ := bind_ok h
    have h1 := noEr_ok h1
    unfold fldG at h
    split at h <;> first | (cases h; done) | skip
    · obtain ⟨hk, h9⟩ := chk_ok h
      obtain ⟨q, rfl⟩ := okA_ok h9
      obtain ⟨c, hm, rfl⟩ := clsIn_ok hk
      cases z : List.lookup f _ with
      | none => rw [z] at q; cases q
      | some d => rw [z] at q; cases q; exact ev_fld (he.ok h1) (hc c hm).1 (hc c hm).2 z
    · split at h <;> first | (cases h; done) | skip
      rename_i hj
      obtain ⟨hk, h9⟩ := chk_ok h
      obtain ⟨q, rfl⟩ := okA_ok h9
      obtain ⟨c, hm, rfl⟩ := clsIn_ok hk
      cases z : List.lookup f _ with
      | none => rw [z] at q; cases q
      | some d => rw [z] at q; cases q; exact ev_fldM (he.ok h1) hj (hc c hm).1 (hc c hm).2 z
  · intro Γ M x fs M' h
    rcases bind_er h with h1 | ⟨g1, M1, h1, h⟩
    · exact (noEr_er h1).elim
    · unfold fldG at h
      split at h <;> first | (cases h; done) | (exact (okA_er (chk_er h).2).elim) | skip
      split at h <;> first | (cases h; done) | (exact (okA_er (chk_er h).2).elim)
theorem se_const {v : V} {u : Value} {d : D} (cl : Cls K (A c)) (k : L2.Con K (A c) f v u) (l : Lit v d) (he : SE A K neverW te e) : SE A K W (tCon K te f) (eConst A c f d e) := by
  constructor
  · intro Γ M g M' h
    obtain ⟨g1, M1, h1, h⟩ := bind_ok h
    have h1 := noEr_ok h1
    split at h <;> first | (cases h; done) | skip
    split at h <;> first | (cases h; done) | skip
    rename_i hj
    obtain ⟨⟨rfl, hf⟩, h9⟩ := chk_ok h
    cases h9
    exact ev_conM (he.ok h1) hj cl k hf l
  · intro Γ M x fs M' h
    rcases bind_er h with h1 | ⟨g1, M1, h1, h⟩
    · exact (noEr_er h1).elim
    · split at h <;> first | (cases h; done) | skip
      split at h <;> first | (cases h; done) | (cases (chk_er h).2)
theorem ss_setF (cl : Cls K (A c)) (na : NoAttr K (A c) f) (hs : SE A K neverW ta es) (he : SE A K W tv e) : SS A K W (sFld K ta tv f) (sSetF A c f es e) := SS.mk fun {Γ M fl M'} q => by
  rcases exB_ok q with ⟨g, M1, h1, q⟩ | ⟨x, fs, h1, rfl⟩
  · obtain ⟨s, M2, h2, q⟩ := bind_ok q
    split at q <;> first | (cases q; done) | skip
    split at q <;> first | (cases q; done) | skip
    rename_i hj
    obtain ⟨⟨rfl, hf, hz⟩, q9⟩ := chk_ok q
    cases q9
    exact do_fld (he.ok h1) (hs.ok (noEr_ok h2)) hj cl na hf hz
  · exact fun B as F σ H E S O p => he.er h1 B as F σ H S O _ fun dd B1 H1 e1 S1 x => p dd B1 [] σ H1 e1 (by rw [List.append_nil]; exact S1) (by rw [List.append_nil]; exact O.up e1) x
theorem se_make {Es : L2.St → XK} (hE : ∀ σ cls dd H, W cls dd σ H → Es σ cls dd H) (hs : SA A K W tA fs) : SE A K W (tMakeS (A c) (spOf K (con A m)) Es tA) (eMake A c m fs) := by
  constructor
  · intro Γ M g M' h
    obtain ⟨gs, M1, h1, h⟩ := bind_ok h
    obtain ⟨ds, rfl, h2⟩ := onDats_ok h
    split at h2 <;> first | (cases h2; done) | skip
    · rename_i q
      obtain ⟨rfl, h3⟩ := chk_ok h2
      cases h3
      exact ev_makeS (hs.ok h1) (.inl ⟨.non, _, q, rfl⟩)
  · intro Γ M x fs M' h
    rcases bind_er h with h1 | ⟨g1, M1, h1, h⟩
    · exact fun B as F σ H S O Q q => hs.er h1 B as F σ H S O _ q
    obtain ⟨ds, rfl, h2⟩ := onDats_er h
    split at h2 <;> first | (cases h2; done) | (cases (chk_er h2).2; done) | skip
    rename_i q
    cases h2
    exact evx_makeS hE (hs.ok h1) (.inr ⟨x, fs, _, q, rfl⟩) (by intro z; cases z)
theorem se_makeL {i : Nat} {Es : L2.St → XK} (hE : ∀ σ cls dd H, W cls dd σ H → Es σ cls dd H) (hs : SA A K W tA fs) : SE A K W (tMakeL i (A c) (spOf K (con A m)) Es tA) (eMakeL A c i m fs) := by
  have z := se_make (c := c) (m := m) hE hs
  constructor
  · intro Γ M g M' h
    unfold eMakeL at h
    split at h <;> first | (cases h; done) | skip
    rename_i hi
    obtain ⟨rfl, h9⟩ := chk_ok h
    exact ev_makeL hi (z.ok h9)
  · intro Γ M x fs M' h
    unfold eMakeL at h
    split at h <;> first | (cases h; done) | skip
    rename_i hi
    obtain ⟨rfl, h9⟩ := chk_er h
    intro B as F σ H S O Q q
    obtain ⟨v, e, r⟩ := O.at' i _ hi (by intro z; cases z)
    cases r
    exact ⟨e, z.er h9 B as F σ H S O Q q⟩
theorem se_meth {E : XK} (he : SE A K neverW te e) (hs : SA A K neverW tA fs) : SE A K W (tMeth (A c) f (spOf K (con A m)) [] E te tA) (eMeth A c f m e fs) := by
  constructor
  · intro Γ M g M' h
    obtain ⟨g1, M1, h1, h⟩ := bind_ok h
    unfold methM at h
    split at h <;> first | (cases h; done) | skip
    obtain ⟨⟨rfl, hf⟩, h9⟩ := chk_ok h
    obtain ⟨gs, M2, h2, h8⟩ := bind_ok h9
    obtain ⟨ds, rfl, h3⟩ := onDats_ok h8
    split at h3 <;> first | (cases h3; done) | skip
    rename_i d q
    cases h3
    exact ev_meth (he.ok (noEr_ok h1)) hf (hs.ok (noEr_ok h2)) (.inl ⟨d, [], q, rfl⟩)
  · intro Γ M x fs M' h
    rcases bind_er h with h1 | ⟨g1, M1, h1, h⟩
    · exact (noEr_er h1).elim
    · unfold methM at h
      split at h <;> first | (cases h; done) | skip
      have h := (chk_er h).2
      rcases bind_er h with h2 | ⟨gs, M2, h2, h⟩
      · exact (noEr_er h2).elim
      · obtain ⟨ds, rfl, h3⟩ := onDats_er h
        split at h3 <;> cases h3
end
end Lw

set_option Elab.async false
set_option linter.all false
set_option maxRecDepth 100000
set_option maxHeartbeats 4000000
namespace L2
open PySem PySem.Spec PyProof.Rows
section
variable {X : Cx} {K : PySem.W.Frag}
theorem sl_listQ (h : X.K = K) : SlR X (rSlL K) := h ▸ sl_list
theorem op_eqDQ (h : X.K = K) (hu : X.A.units + 64 < cLine) : OpR X (compareOp .Eq) (rEqD K) := h ▸ op_eqD hu
theorem op_neDQ (h : X.K = K) (hu : X.A.units + 64 < cLine) : OpR X (compareOp .NotEq) (rNeD K) := h ▸ op_neD hu
theorem cr_anyQ (h : X.K = K) (hc : X.calm = true) : CallR X (.builtin "any") (rAny K) := h ▸ cr_any hc
theorem cr_sortedIQ (h : X.K = K) : CallR X (.builtin "sorted") (rSortedI K) := h ▸ cr_sortedI
theorem call_tuple_ofQ (h : X.K = K) : CallR X (.type "tuple") (fun xs H Q => ∃ p ys, xs = [.ref p] ∧ ((SqL K H p ys ∧ ∀ l, H l = none → Q (.ref l) (upd H l (.tup ys))) ∨ (SqT K H p ys ∧ Q (.ref p) H))) := h ▸ call_tuple_of
theorem call_list_ofQ (h : X.K = K) : CallR X (.type "list") (fun xs H Q => ∃ p ys, xs = [.ref p] ∧ (SqL K H p ys ∨ SqT K H p ys) ∧ ∀ l, H l = none → Q (.ref l) (upd H l (.lst ys))) := h ▸ call_list_of
def tTruQ (K : PySem.W.Frag) (ta : TE) : TT := fun σ H Q => ta σ H fun x H' => ∃ k, TruV K x H' k ∧ Q k H'
theorem pt_truthQ {a : Expr} {ta : TE} (h : X.K = K) (ha : PE X a ta) (he : ∀ whole, isTrue a X.env whole = (do let v ← whole; standAt a.pos; holding [v] (truthy v))) : PT X a (tTruQ K ta) := h ▸ pt_truth ha he
theorem pi_enumAQ {e : Expr} {ta : TA} {p pos tpos : Pos} {elts : List Expr} {kk : Nat} (h : X.K = K) (hg : Gl X "enumerate") (hm : X.mg "enumerate" = none) (ha : PA X [e] ta) (hs : starEach [e] X.env = [(false, eval e X.env)] := by rfl) :
    PI X (.Tuple elts kk tpos) (.Call (.Name "enumerate" p) [e] [] pos) (Lw.iEnumA K ta) := h ▸ Lw.pi_enumA hg hm ha hs
theorem ps_try_manyQ {body : List Stmt} {h₀ : ExceptHandler} {hds : List ExceptHandler} {l : List (Value × (Addr → Value → Option Addr → TS))} {pos : Pos} {tb : WX → TS} {Wout : WX} (hK : X.K = K) (h1 : X.stack = X.env :: X.outer) (h2 : X.env.frame = some X.env.locals) (tk : Takes X Wout)
    (hb : ∀ (W : WX) (pn : List (Addr × Obj)) (xe : Value → Shared → Prop), Takes (X.tr pn xe) W → PassesOwn (model X.prog X.w) X.A X.env xe → PSs (X.tr pn xe) body (tb W)) (hh : HdsOk X (h₀ :: hds) l) : PS X (.Try body (h₀ :: hds) [] [] pos) (Lw.tTry K Wout tb l) := hK ▸ ps_try_many h1 h2 tk hb hh
end
end L2
namespace Lw
open PySem L2
/-! truth of ints -/
def truG : G → List MO → Rz Bool
  | .dat (.int i), M => .ok (i != 0) M
  | .dat (.bl b), M => .ok b M
  | _, _ => .no
def tTru (e : EF) : TF := fun Γ M => (noEr (e Γ M)).bind truG
def zipG2 : List G → List MO → Rz (List D)
  | [.dat a, .dat b], M => chk (isRow a = true ∧ isRow b = true) (.ok (zipD (rowD a) (rowD b)) M)
  | _, _ => .no
instance (n : Nat) (x : Int) : Decidable (sm n x) := inferInstanceAs (Decidable (_ < _))
def cLcm : List G → List MO → Rz G
  | [.dat (.int a), .dat (.int b)], M => chk (sm 13000 a ∧ sm 13000 b) (.ok (.dat (.int ((Nat.lcm a.natAbs b.natAbs : Nat) : Int))) M)
  | _, _ => .no
def cStr : List G → List MO → Rz G
  | [.dat (.int i)], M => chk (i.natAbs.log2 < 1920) (.ok (.dat (.str (strI i))) M)
  | _, _ => .no
def cLenStr : List G → List MO → Rz G
  | [.dat (.str z)], M => chk (z.length ≤ sizeLine) (.ok (.dat (.int z.length)) M)
  | _, _ => .no
/-! dicts whose keys are tuples of ints -/
def dlook (kvs : List (List Int × D)) (k : List Int) : Option D := (kvs.find? fun p => decide (p.1 = k)).map (·.2)
def dput (kvs : List (List Int × D)) (k : List Int) (d : D) : List (List Int × D) :=
  if (kvs.any fun p => decide (p.1 = k)) = true then kvs.map (fun p => if p.1 = k then (p.1, d) else p) else kvs ++ [(k, d)]
def keyOf : G → Option (List Int)
  | .dat (.tup ds) => intsOf ds
  | _ => none
def onDic {α : Type} (Γ : List G) (M : List MO) (i : Nat) (f : Nat → List (List Int × D) → Rz α) : Rz α := match Γ[i]? with
  | some (.mr j) => (match M[j]? with
    | some (.dic kvs) => f j kvs
    | _ => .no)
  | _ => .no
def sDNew (i : Nat) : SF := fun Γ M => .ok (.nx (Γ.set i (.mr M.length))) (M ++ [.dic []])
def eDGet (i : Nat) (k : EF) : EF := fun Γ M => onDic Γ M i fun _ _ => (noEr (k Γ M)).bind fun g M1 => onDic Γ M1 i fun _ kvs => match keyOf g with
  | some ns => okA M1 ((dlook kvs ns).map G.dat)
  | none => .no
def eDGet2 (i : Nat) (k e : EF) : EF := fun Γ M => onDic Γ M i fun _ _ => (noEr (k Γ M)).bind fun g M1 => (noEr (e Γ M1)).bind fun z M2 => onDic Γ M2 i fun _ kvs => match keyOf g, z with
  | some ns, .dat z => .ok (.dat ((dlook kvs ns).getD z)) M2
  | _, _ => .no
def sDPut (i : Nat) (k e : EF) : SF := fun Γ M => (noEr (e Γ M)).bind fun z M1 => (noEr (k Γ M1)).bind fun g M2 => onDic Γ M2 i fun j kvs => match keyOf g, z with
  | some ns, .dat z => chk (kvs.length < sizeLine) (.ok (.nx Γ) (M2.set j (.dic (dput kvs ns z))))
  | _, _ => .no
abbrev kI (ns : List Int) : List L2.Key := ns.map Sum.inl
theorem kI_inj {a b : List Int} (h : kI a = kI b) : a = b := List.map_inj_right (fun x y h => Sum.inl.inj h) |>.mp h
section
variable {K : PySem.W.Frag} {B : Hp}
theorem val_zip {k : List Int} : ∀ {kvs : List (List Int × D)} {vs : List V}, kvs.length = vs.length → Reps K B vs (kvs.map (·.2)) →
    (∀ d, dlook kvs k = some d → ∃ v, valV ((kvs.map fun p => kI p.1).zip vs) (kI k) = some v ∧ Rep K B v d) ∧ (dlook kvs k = none → valV ((kvs.map fun p => kI p.1).zip vs) (kI k) = none)
  | [], _, _, _ => ⟨fun d h => (by cases h), fun _ => rfl⟩
  | (k0, d0) :: kvs, [], hl, _ => by simp at hl
  | (k0, d0) :: kvs, v :: vs, hl, r => by
    cases r with
    | cons r rs =>
      have ih := val_zip (k := k) (by simpa using hl) rs
      by_cases e : k0 = k
      · subst e
        have z : dlook ((k0, d0) :: kvs) k0 = some d0 := by simp [dlook]
        refine ⟨fun d h => ⟨v, by simp [valV], ?_⟩, fun h => ?_⟩
        · rw [z] at h; cases h; exact r
        · rw [z] at h; cases h
      · have ne : ¬ kI k0 = kI k := fun q => e (kI_inj q)
        have z : dlook ((k0, d0) :: kvs) k = dlook kvs k := by simp [dlook, List.find?_cons, e]
        have z' : valV (((k0, d0) :: kvs).map (fun p => kI p.1) |>.zip (v :: vs)) (kI k) = valV ((kvs.map fun p => kI p.1).zip vs) (kI k) := by
          simp only [List.map_cons, List.zip_cons_cons, valV, List.find?_cons]
          rw [decide_eq_false ne]
        rw [z, z']
        exact ih
theorem any_zip {k : List Int} : ∀ {kvs : List (List Int × D)} {vs : List V}, kvs.length = vs.length →
    (((kvs.map fun p => kI p.1).zip vs).any fun kv => decide (kv.1 = kI k)) = kvs.any fun p => decide (p.1 = k)
  | [], [], _ => rfl
  | [], _ :: _, hl => by simp at hl
  | _ :: _, [], hl => by simp at hl
  | (k0, d0) :: kvs, v :: vs, hl => by
    have ih := any_zip (k := k) (kvs := kvs) (vs := vs) (by simpa using hl)
    simp only [List.map_cons, List.zip_cons_cons, List.any_cons]
    rw [ih]
    congr 1
    by_cases e : k0 = k
    · subst e; simp
    · rw [decide_eq_false e, decide_eq_false (fun q => e (kI_inj q))]
theorem repl_zip {k : List Int} {v : V} {d : D} (rv : Rep K B v d) : ∀ {kvs : List (List Int × D)} {vs : List V}, kvs.length = vs.length → Reps K B vs (kvs.map (·.2)) →
    ∃ ws : List V, ((kvs.map fun p => kI p.1).zip vs).map (fun kv => if kv.1 = kI k then (kv.1, v) else kv) = ((kvs.map (fun p => if p.1 = k then (p.1, d) else p)).map fun p => kI p.1).zip ws ∧ kvs.length = ws.length ∧ Reps K B ws ((kvs.map (fun p => if p.1 = k then (p.1, d) else p)).map (·.2))
  | [], [], _, _ => ⟨[], rfl, rfl, .nil⟩
  | [], _ :: _, hl, _ => by simp at hl
  | _ :: _, [], hl, _ => by simp at hl
  | (k0, d0) :: kvs, w :: vs, hl, r => by
    cases r with
    | cons r rs =>
      obtain ⟨ws, h1, h2, h3⟩ := repl_zip (k := k) (v := v) rv (by simpa using hl) rs
      by_cases e : k0 = k
      · subst e
        refine ⟨v :: ws, ?_, by simp [h2], ?_⟩
        · simp only [List.map_cons, List.zip_cons_cons, if_true]; rw [h1]
        · simp only [List.map_cons, if_true]; exact .cons rv h3
      · have ne : ¬ kI k0 = kI k := fun q => e (kI_inj q)
        refine ⟨w :: ws, ?_, by simp [h2], ?_⟩
        · simp only [List.map_cons, List.zip_cons_cons, if_neg e, if_neg ne]; rw [h1]
        · simp only [List.map_cons, if_neg e]; exact .cons r h3
theorem put_zip {k : List Int} {v : V} {d : D} (rv : Rep K B v d) {kvs : List (List Int × D)} {vs : List V} (hl : kvs.length = vs.length) (r : Reps K B vs (kvs.map (·.2))) :
    ∃ ws : List V, putK ((kvs.map fun p => kI p.1).zip vs) (kI k) v = ((dput kvs k d).map fun p => kI p.1).zip ws ∧ (dput kvs k d).length = ws.length ∧ Reps K B ws ((dput kvs k d).map (·.2)) := by
  unfold putK dput
  rw [any_zip hl]
  by_cases c : (kvs.any fun p => decide (p.1 = k)) = true
  · rw [if_pos c, if_pos c]
    obtain ⟨ws, h1, h2, h3⟩ := repl_zip (k := k) rv hl r
    exact ⟨ws, h1, by simp [h2], h3⟩
  · rw [if_neg c, if_neg c]
    refine ⟨vs ++ [v], ?_, by simp [hl], ?_⟩
    · rw [List.map_append, List.zip_append (by simp [hl])]; rfl
    · rw [List.map_append]; exact r.append (.cons rv .nil)
end
section
variable {A : Str → Addr} {K : PySem.W.Frag} {W : WX} {te ta tb tk tx : TE} {tA : TA} {fa fb e k : EF} {fs : AF} {c : Str} {m : Mn} {i : Nat}
theorem st_tru (he : SE A K neverW te e) : ST A K W (tTruQ K te) (tTru e) := by
  constructor
  · intro Γ M g M' h
    obtain ⟨g1, M1, h1, h⟩ := bind_ok h
    have h1 := he.ok (noEr_ok h1)
    unfold truG at h
    split at h <;> first | (cases h; done) | skip
    · cases h
      intro B as F σ H S O Q q
      refine h1 B as F σ H S O _ fun v B1 H1 e1 S1 r1 => ?_
      cases r1
      exact ⟨_, rfl, q B1 H1 e1 S1⟩
    · cases h
      intro B as F σ H S O Q q
      refine h1 B as F σ H S O _ fun v B1 H1 e1 S1 r1 => ?_
      cases r1
      exact ⟨_, rfl, q B1 H1 e1 S1⟩
  · intro Γ M x fs M' h
    rcases bind_er h with h1 | ⟨g1, M1, h1, h⟩
    · exact (noEr_er h1).elim
    · unfold truG at h
      split at h <;> cases h
theorem si_zip2 (hs : SA A K W tA fs) : SI A K W (iZipB K tA) (iArgs zipG2 fs) := si_args (mk := iZipB K) (fun h B as F σ H S O Q q => h B as F σ H S O _ q) (fun {gs M ds M'} h => by
  unfold zipG2 at h
  split at h <;> first | (cases h; done) | skip
  obtain ⟨⟨ha, hb⟩, h⟩ := chk_ok h
  cases h
  refine ⟨rfl, fun h B as F σ H S O R q => h B as F σ H S O _ fun vs B1 H1 e1 S1 r1 => ?_⟩
  cases r1 with
  | cons r rs => cases rs with
    | cons r' rs' =>
      cases rs'
      obtain ⟨k, a, vs, rfl, sa, ra⟩ := row_sq (Ex.refl _) r ha
      obtain ⟨l, b, ws, rfl, sb, rb⟩ := row_sq (Ex.refl _) r' hb
      exact ⟨a, b, k, l, vs, ws, rfl, sqB_up S1.ex sa, sqB_up S1.ex sb, q _ B1 H1 e1 S1 (walkD_zipB sa ra sb rb)⟩) (fun {gs M x fs M'} h => by
  unfold zipG2 at h
  split at h <;> first | (cases h; done) | (cases (chk_er h).2)) hs
theorem sc_lcm : SC K rLcm cLcm := by
  constructor
  · intro gs M g M' h
    unfold cLcm at h
    split at h <;> first | (cases h; done) | skip
    obtain ⟨⟨ha, hb⟩, h⟩ := chk_ok h
    cases h; exact ⟨rfl, rc_lcm ha hb⟩
  · intro gs M x fs M' h
    unfold cLcm at h
    split at h <;> first | (cases h; done) | (cases (chk_er h).2)
theorem sc_str : SC K (fun xs H Q => ∃ i, xs = [.int i] ∧ i.natAbs.log2 < 1920 ∧ Q (.str (toString i)) H) cStr := by
  constructor
  · intro gs M g M' h
    unfold cStr at h
    split at h <;> first | (cases h; done) | skip
    obtain ⟨hc, h⟩ := chk_ok h
    cases h; exact ⟨rfl, rc_strI hc⟩
  · intro gs M x fs M' h
    unfold cStr at h
    split at h <;> first | (cases h; done) | (cases (chk_er h).2)
theorem sc_lenStr : SC K (fun xs H Q => ∃ z, xs = [.str z] ∧ z.length ≤ sizeLine ∧ Q (.int z.length) H) cLenStr := by
  constructor
  · intro gs M g M' h
    unfold cLenStr at h
    split at h <;> first | (cases h; done) | skip
    obtain ⟨hc, h⟩ := chk_ok h
    cases h; exact ⟨rfl, rc_lenStr hc⟩
  · intro gs M x fs M' h
    unfold cLenStr at h
    split at h <;> first | (cases h; done) | (cases (chk_er h).2)
theorem one_cls {c f : Str} (h1 : Cls K (A c)) (h2 : NoAttr K (A c) f) : ∀ c' ∈ [c], Cls K (A c') ∧ NoAttr K (A c') f := fun c' h => by
  simp at h; subst h; exact ⟨h1, h2⟩
theorem two_cls {c d f : Str} (h1 : Cls K (A c)) (h2 : NoAttr K (A c) f) (h3 : Cls K (A d)) (h4 : NoAttr K (A d) f) : ∀ c' ∈ [c, d], Cls K (A c') ∧ NoAttr K (A c') f := fun c' h => by
  simp at h
  rcases h with rfl | rfl
  · exact ⟨h1, h2⟩
  · exact ⟨h3, h4⟩
theorem se_cmeth {E : XK} (hs : SA A K neverW tA fs) : SE A K W (ClX.tCMeth (A c) (spOf K (con A m)) E (tC (.ref (A c))) tA) (eCMeth A c m fs) := by
  constructor
  · intro Γ M g M' h
    obtain ⟨gs, M1, h1, h⟩ := bind_ok h
    obtain ⟨ds, rfl, h2⟩ := onDats_ok h
    split at h2 <;> first | (cases h2; done) | skip
    rename_i d q
    cases h2
    intro B as F σ H S O Q q'
    refine ⟨rfl, hs.ok (noEr_ok h1) B as F σ H S O _ fun vs B1 H1 e1 S1 r1 => ?_⟩
    exact ⟨_, B1, [], [], _, _, .inl ⟨d, [], q, rfl⟩, .cons (Rep.cls : Rep K B1 _ (.cls (A c))) r1.ofDats, S1.call0, fun v B3 H3 e3 S3 r3 => q' v B3 H3 (e1.trans e3) (S1.back0 e3 S3) r3⟩
  · intro Γ M x fs M' h
    rcases bind_er h with h1 | ⟨g1, M1, h1, h⟩
    · exact (noEr_er h1).elim
    · obtain ⟨ds, rfl, h2⟩ := onDats_er h
      split at h2 <;> cases h2
/-! dicts -/
theorem onDic_ok {α : Type} {Γ : List G} {M M' : List MO} {f : Nat → List (List Int × D) → Rz α} {a : α} (q : onDic Γ M i f = .ok a M') : ∃ j kvs, Γ[i]? = some (.mr j) ∧ M[j]? = some (.dic kvs) ∧ f j kvs = .ok a M' := by
  unfold onDic at q
  split at q <;> first | (cases q; done) | skip
  split at q <;> first | (cases q; done) | skip
  rename_i j e1 _ kvs e2
  exact ⟨j, kvs, e1, e2, q⟩
theorem onDic_er {α : Type} {Γ : List G} {M M' : List MO} {f : Nat → List (List Int × D) → Rz α} {x : Str} {z : Flds} (q : onDic Γ M i f = .er x z M') : ∃ j kvs, f j kvs = .er x z M' := by
  unfold onDic at q
  split at q <;> first | (cases q; done) | skip
  split at q <;> first | (cases q; done) | skip
  exact ⟨_, _, q⟩
theorem keyOf_ok {g : G} {ns : List Int} (h : keyOf g = some ns) : g = .dat (.tup (ns.map D.int)) := by
  unfold keyOf at h
  split at h <;> first | (cases h; done) | skip
  rw [intsOf_eq h]
theorem key_tup {B : Hp} {v : V} {ns : List Int} (r : Rep K B v (.tup (ns.map D.int))) : ∃ b, v = .ref b ∧ B b = some (.tup ((kI ns).map kV)) := by
  cases r with
  | tup s r =>
    have e := r.ints
    subst e
    refine ⟨_, rfl, ?_⟩
    rw [s, kI, List.map_map]
    rfl
theorem ss_dnew : SS A K W (tAsg tDNewT (gName i)) (sDNew i) := SS.mk fun {Γ M fl M'} q => by
  cases q
  intro B as F σ H E S O p a ha
  have S1 := S.newM (m := .dic []) (o := .dT []) ha ⟨[], rfl, rfl, .nil⟩ (by intro z; cases z)
  refine p B [a] _ _ (Ex.refl B) S1 ((O.more).set ?_ i)
  exact ⟨a, rfl, by rw [← S.len, List.getElem?_append_right (Nat.le_refl _)]; simp⟩
theorem se_dget (hk : SE A K neverW tk k) : SE A K W (tDGet (tVar i) tk) (eDGet i k) := by
  constructor
  · intro Γ M g M' h
    obtain ⟨j, kvs0, h1, h2, h⟩ := onDic_ok h
    obtain ⟨g1, M1, h3, h⟩ := bind_ok h
    obtain ⟨j', kvs, h4, h5, h⟩ := onDic_ok h
    rw [h1] at h4; cases h4
    split at h <;> first | (cases h; done) | skip
    rename_i ns hn
    obtain ⟨e, rfl⟩ := okA_ok h
    cases z : dlook kvs ns with
    | none => rw [z] at e; cases e
    | some d =>
      rw [z] at e; cases e
      intro B as F σ H S O Q q
      refine (ev_m h1 : Ev K (tVar i) Γ M (.mr j) M) B as F σ H S O _ fun v B1 H1 e1 S1 r1 => ?_
      obtain ⟨a, rfl, ha⟩ := r1
      refine hk.ok (noEr_ok h3) B1 as F σ H1 S1 (O.up e1) _ fun w B2 H2 e2 S2 r2 => ?_
      rw [keyOf_ok hn] at r2
      obtain ⟨b, rfl, hb⟩ := key_tup r2
      obtain ⟨nb, o, ho, vs, rfl, hl, rr⟩ := S2.mu j a _ ha h5 (by intro z; cases z)
      obtain ⟨u, hu, ru⟩ := (val_zip (k := ns) hl rr).1 d z
      exact ⟨a, u, rfl, .inr ⟨_, kI ns, b, .inl ho, rfl, S2.ex _ _ hb, hu.symm⟩, q u B2 H2 (e1.trans e2) S2 ru⟩
  · intro Γ M x fs M' h
    obtain ⟨j, kvs0, h⟩ := onDic_er h
    rcases bind_er h with h1 | ⟨g1, M1, h1, h⟩
    · exact (noEr_er h1).elim
    obtain ⟨j', kvs, h⟩ := onDic_er h
    split at h <;> first | (cases h; done) | (exact (okA_er h).elim)
theorem se_dget2 (hk : SE A K neverW tk k) (he : SE A K neverW tx e) : SE A K W (tDGet2 (tVar i) tk tx) (eDGet2 i k e) := by
  constructor
  · intro Γ M g M' h
    obtain ⟨j, kvs0, h1, h2, h⟩ := onDic_ok h
    obtain ⟨g1, M1, h3, h⟩ := bind_ok h
    obtain ⟨g2, M2, h6, h⟩ := bind_ok h
    obtain ⟨j', kvs, h4, h5, h⟩ := onDic_ok h
    rw [h1] at h4; cases h4
    cases hn : keyOf g1 with
    | none => rw [hn] at h; cases h
    | some ns => ?_
    cases g2 <;> (rw [hn] at h) <;> first | (cases h; done) | skip
    rename_i z
    cases h
    intro B as F σ H S O Q q
    refine (ev_m h1 : Ev K (tVar i) Γ M (.mr j) M) B as F σ H S O _ fun v B1 H1 e1 S1 r1 => ?_
    obtain ⟨a, rfl, ha⟩ := r1
    obtain ⟨nb0, o0, ho0, vs0, rfl, hl0, rr0⟩ := S1.mu j a _ ha h2 (by intro z; cases z)
    refine ⟨a, rfl, Or.inr ⟨_, Or.inl ho0⟩, hk.ok (noEr_ok h3) B1 as F σ H1 S1 (O.up e1) _ fun w B2 H2 e2 S2 r2 => ?_⟩
    refine he.ok (noEr_ok h6) B2 as F σ H2 S2 (O.up (e1.trans e2)) _ fun u B3 H3 e3 S3 r3 => ?_
    rw [keyOf_ok hn] at r2
    obtain ⟨b, rfl, hb⟩ := key_tup r2
    obtain ⟨nb, o, ho, vs, rfl, hl, rr⟩ := S3.mu j a _ ha h5 (by intro z; cases z)
    obtain ⟨z1, z2⟩ := val_zip (k := ns) hl rr
    cases zz : dlook kvs ns with
    | none => exact ⟨none, .inr ⟨_, kI ns, b, .inl ho, rfl, S3.ex _ _ (e3 _ _ hb), (z2 zz).symm⟩, q u B3 H3 ((e1.trans e2).trans e3) S3 (by rw [zz]; exact r3)⟩
    | some d =>
      obtain ⟨y, hy, ry⟩ := z1 d zz
      exact ⟨some y, .inr ⟨_, kI ns, b, .inl ho, rfl, S3.ex _ _ (e3 _ _ hb), hy.symm⟩, q y B3 H3 ((e1.trans e2).trans e3) S3 (by rw [zz]; exact ry)⟩
  · intro Γ M x fs M' h
    obtain ⟨j, kvs0, h⟩ := onDic_er h
    rcases bind_er h with h1 | ⟨g1, M1, h1, h⟩
    · exact (noEr_er h1).elim
    rcases bind_er h with h1 | ⟨g2, M2, h1, h⟩
    · exact (noEr_er h1).elim
    obtain ⟨j', kvs, h⟩ := onDic_er h
    split at h <;> cases h
theorem ss_dput (hk : SE A K neverW tk k) (he : SE A K neverW tx e) : SS A K W (L2.sDPut (tVar i) tk tx) (sDPut i k e) := SS.mk fun {Γ M fl M'} q => by
  obtain ⟨z, M1, h1, q⟩ := bind_ok q
  obtain ⟨g, M2, h2, q⟩ := bind_ok q
  obtain ⟨j, kvs, h3, h4, q⟩ := onDic_ok q
  cases hn : keyOf g with
  | none => rw [hn] at q; cases q
  | some ns =>
    rw [hn] at q
    cases z <;> first | (cases q; done) | skip
    rename_i d
    obtain ⟨hz, q2⟩ := chk_ok q
    cases q2
    intro B as F σ H E S O p
    refine he.ok (noEr_ok h1) B as F σ H S O _ fun v B1 H1 e1 S1 r1 => ?_
    refine (ev_m h3 : Ev K (tVar i) Γ M1 (.mr j) M1) B1 as F σ H1 S1 (O.up e1) _ fun u B2 H2 e2 S2 r2 => ?_
    obtain ⟨a, rfl, ha⟩ := r2
    refine hk.ok (noEr_ok h2) B2 as F σ H2 S2 (O.up (e1.trans e2)) _ fun w B3 H3 e3 S3 r3 => ?_
    rw [keyOf_ok hn] at r3
    obtain ⟨b, rfl, hb⟩ := key_tup r3
    obtain ⟨nb, o, ho, vs, rfl, hl, rr⟩ := S3.mu j a _ ha h4 (by intro z; cases z)
    obtain ⟨ws, w1, w2, w3⟩ := put_zip (k := ns) (Rep.up r1 (e2.trans e3)) hl rr
    refine ⟨a, _, rfl, .inr ⟨_, kI ns, b, ho, rfl, S3.ex _ _ hb, ?_, rfl⟩, ?_⟩
    · rw [List.length_zip, List.length_map]; omega
    · rw [w1]
      exact p.nx0 ((e1.trans e2).trans e3) (S3.write ha h4 (by intro z; cases z) ⟨ws, rfl, w2, w3⟩ (by intro z; cases z)) (O.up ((e1.trans e2).trans e3))
end
end Lw

set_option Elab.async false
set_option linter.all false
set_option maxRecDepth 100000
set_option maxHeartbeats 4000000
namespace Lw
open PySem L2
/-! ## unpacking, parallel stores, calls with a default, sorted keys, new lists -/
def bRow (bs : List BF) : BF := fun d Γ => if isRow d = true then bGo bs (rowD d) Γ else none
/-- x, y = e, f -/
def sPar (is : List Nat) (fs : AF) : SF := fun Γ M => exB Γ (fs Γ M) fun gs M1 => if is.length = gs.length then .ok (.nx ((is.zip gs).foldl (fun Γ p => Γ.set p.1 p.2) Γ)) M1 else .no
/-- a call whose last arguments are left to their defaults -/
def eCallD (m : Mn) (ds : List D) (fs : AF) : EF := fun Γ M => (fs Γ M).bind fun gs M1 => onDats gs M1 fun es => match m ((es ++ ds).map G.dat) [] with
  | .ok d [] => .ok (.dat d) M1
  | .er x fs [] => .er x fs M1
  | _ => .no
def codeLe (top : Int) (a b : List Int) : Bool := decide (TS.code top a ≤ TS.code top b)
def keyOk (m : Nat) (top : Int) (k : List Int) : Bool := decide (k.length = m) && k.all fun i => decide (0 ≤ i) && decide (i < top)
/-- sorted(d) of the dict at slot i: pairs of ints below 1000 -/
def nSortK (i : Nat) : NF := fun Γ M => onDic Γ M i fun _ kvs => chk (kvs.length < 64 ∧ (kvs.map (·.1)).all (keyOk 2 1000) = true) (.ok (((kvs.map (·.1)).mergeSort (codeLe 1000)).map fun k => .tup (k.map D.int)) M)
/-- a def that hands back a new list -/
abbrev Mm := List D → Rz (List D)
def nCall (m : Mm) (fs : AF) : NF := fun Γ M => (fs Γ M).bind fun gs M1 => onDats gs M1 fun ds => match m ds with
  | .ok xs _ => .ok xs M1
  | _ => .no
def endN : Fl → List MO → Rz (List D)
  | .rt (.mr j), M => (match M[j]? with
    | some (.lst xs) => .ok xs []
    | _ => .no)
  | _, _ => .no
def runN (np n : Nat) (f : SF) : Mm := fun ds => chk (ds.length = np) ((noEr (f (ds.map G.dat ++ List.replicate (n - ds.length) .no) [])).bind endN)
def spN (K : PySem.W.Frag) (m : Mm) : Sp := fun vs H Q _ => ∃ ds xs B F M0, m ds = .ok xs M0 ∧ Reps K B vs ds ∧ Sat K B [] [] F H ∧ ∀ p ws B' H', Ex B B' → Sat K B' [] [] F H' → H' p = none → Reps K B' ws xs → Q (.ref p) (upd H' p (.lst ws))
section
variable {A : Str → Addr} {K : PySem.W.Frag} {W : WX} {te ta tb tk tx : TE} {tA : TA} {tt : TT} {t : TF} {fa fb e k : EF} {fs : AF} {c : Str} {m : Mn} {i : Nat} {tg : TG} {b : BF} {js vs : List Nat} {wi : TI} {fi : NF}
theorem sb_row {tgs : TGs} {bs : List BF} {n : Nat} (h : SBs K tgs bs n js) : SB K (gRow K n tgs) (bRow bs) js := ⟨fun {d Γ Γ1} q => by
  unfold bRow at q
  split at q <;> first | (cases q; done) | skip
  rename_i hd
  obtain ⟨l, q⟩ := h.ok q
  intro B as σ H v hx O r Q q'
  obtain ⟨k, a, vs, rfl, s, rs⟩ := row_sq (Ex.refl _) r hd
  exact ⟨k, a, vs, rfl, sqB_up hx s, rs.len.trans l, q B as σ H vs hx O rs Q q'⟩⟩
theorem SOk.setG {B : Hp} {as : List Addr} {σ : L2.St} {Γ : List G} (O : SOk K B as σ Γ) {v : V} {g : G} (r : RepG K B as v g) (i : Nat) : SOk K B as (σ.set i (some v)) (Γ.set i g) := O.set r i
theorem ss_par2 {i j : Nat} (hs : SA A K W tA fs) : SS A K W (tPar i j tA) (sPar [i, j] fs) := SS.mk fun {Γ M fl M'} q => by
  rcases exB_ok q with ⟨gs, M1, h1, q⟩ | ⟨x, xs, h1, rfl⟩
  · split at q <;> first | (cases q; done) | skip
    rename_i hl
    match gs, hl with
    | [g1, g2], _ =>
      cases q
      intro B as F σ H E S O p
      refine hs.ok h1 B as F σ H S O _ fun vs B1 H1 e1 S1 r1 => ?_
      cases r1 with
      | cons r rs => cases rs with
        | cons r' rs' =>
          cases rs'
          exact ⟨_, _, rfl, p.nx0 e1 S1 (((O.up e1).setG r i).setG r' j)⟩
  · exact fun B as F σ H E S O p => hs.er h1 B as F σ H S O _ fun dd B1 H1 e1 S1 x => p dd B1 [] σ H1 e1 (by rw [List.append_nil]; exact S1) (by rw [List.append_nil]; exact O.up e1) x
theorem ss_par3 {i j l : Nat} (hs : SA A K W tA fs) : SS A K W (tPar3 i j l tA) (sPar [i, j, l] fs) := SS.mk fun {Γ M fl M'} q => by
  rcases exB_ok q with ⟨gs, M1, h1, q⟩ | ⟨x, xs, h1, rfl⟩
  · split at q <;> first | (cases q; done) | skip
    rename_i hl
    match gs, hl with
    | [g1, g2, g3], _ =>
      cases q
      intro B as F σ H E S O p
      refine hs.ok h1 B as F σ H S O _ fun vs B1 H1 e1 S1 r1 => ?_
      cases r1 with
      | cons r rs => cases rs with
        | cons r' rs' => cases rs' with
          | cons r'' rs'' =>
            cases rs''
            exact ⟨_, _, _, rfl, p.nx0 e1 S1 ((((O.up e1).setG r i).setG r' j).setG r'' l)⟩
  · exact fun B as F σ H E S O p => hs.er h1 B as F σ H S O _ fun dd B1 H1 e1 S1 x => p dd B1 [] σ H1 e1 (by rw [List.append_nil]; exact S1) (by rw [List.append_nil]; exact O.up e1) x
/-- told data and the values that a def's defaults are -/
inductive Dvs (K : PySem.W.Frag) : List V → List D → Prop
  | nil : Dvs K [] []
  | cons {v : V} {d : D} {vs : List V} {ds : List D} (h : Lit v d) (r : Dvs K vs ds) : Dvs K (v :: vs) (d :: ds)
theorem Dvs.reps {B : Hp} {vs : List V} {ds : List D} (h : Dvs K vs ds) : Reps K B vs ds := by
  induction h with
  | nil => exact .nil
  | cons h _ ih => exact .cons h.rep ih
theorem Reps.gs {B : Hp} {as : List Addr} : ∀ {vs : List V} {ds : List D}, Reps K B vs ds → RepGs K B as vs (ds.map G.dat)
  | _, _, .nil => .nil
  | _, _, .cons r rs => .cons r rs.gs
theorem se_callD {dvs : List V} {ds : List D} {Es : L2.St → XK} (hv : Dvs K dvs ds) (hE : ∀ σ cls dd H, W cls dd σ H → Es σ cls dd H) (hs : SA A K W tA fs) : SE A K W (tCallSD (spOf K (con A m)) dvs Es tA) (eCallD m ds fs) := by
  constructor
  · intro Γ M g M' h
    obtain ⟨gs, M1, h1, h⟩ := bind_ok h
    obtain ⟨es, rfl, h2⟩ := onDats_ok h
    split at h2 <;> first | (cases h2; done) | skip
    rename_i d e
    cases h2
    intro B as F σ H S O Q q
    refine hs.ok h1 B as F σ H S O _ fun vs B1 H1 e1 S1 r1 => ?_
    exact ⟨_, B1, [], [], _, _, .inl ⟨d, [], e, rfl⟩, (r1.dats.append hv.reps).gs, S1.call0, fun v B2 H2 e2 S2 r2 => q v B2 H2 (e1.trans e2) (S1.back0 e2 S2) r2⟩
  · intro Γ M x fs' M' h
    rcases bind_er h with h1 | ⟨gs, M1, h1, h⟩
    · exact fun B as F σ H S O Q q => hs.er h1 B as F σ H S O _ q
    obtain ⟨es, rfl, h2⟩ := onDats_er h
    split at h2 <;> first | (cases h2; done) | skip
    rename_i e
    cases h2
    intro B as F σ H S O Q q
    refine hs.ok h1 B as F σ H S O _ fun vs B1 H1 e1 S1 r1 => ?_
    exact ⟨_, B1, [], [], _, _, .inr ⟨x, fs', [], e, rfl⟩, (r1.dats.append hv.reps).gs, S1.call0, fun dd B2 H2 e2 S2 r2 => hE _ _ _ _ (q dd B2 H2 (e1.trans e2) (S1.back0 e2 S2) r2)⟩
theorem code_inj {a b : List Int} (ha : a.length = 2) (hb : b.length = 2) (h1 : TS.Bd 1000 a) (h2 : TS.Bd 1000 b) (e : TS.code 1000 a = TS.code 1000 b) : a = b := by
  match a, ha, b, hb with
  | [p, q], _, [r, s], _ =>
    have p1 := h1 q (by simp)
    have p2 := h2 s (by simp)
    have e' : p * 1000 ^ 1 + (q * 1000 ^ 0 + 0) = r * 1000 ^ 1 + (s * 1000 ^ 0 + 0) := e
    have : p = r ∧ q = s := by omega
    rw [this.1, this.2]
theorem ground_all {F H : Hp} {as : List Addr} {M : List MO} : ∀ {bs : List Addr} {ys : List (List Int)} {B : Hp}, Sat K B as M F H → (∀ (j : Nat) (b : Addr), bs[j]? = some b → ∃ y : List Int, ys[j]? = some y ∧ H b = some (.tup (y.map V.int))) → bs.length = ys.length →
    ∃ B', Ex B B' ∧ Sat K B' as M F H ∧ Reps K B' (bs.map V.ref) (ys.map fun k => .tup (k.map D.int))
  | [], [], B, S, _, _ => ⟨B, Ex.refl B, S, .nil⟩
  | [], _ :: _, _, _, _, hl => by simp at hl
  | _ :: _, [], _, _, _, hl => by simp at hl
  | b :: bs, y :: ys, B, S, h, hl => by
    obtain ⟨y', e, hb⟩ := h 0 b rfl
    cases e
    obtain ⟨B1, e1, S1, q1⟩ : ∃ B1, Ex B B1 ∧ Sat K B1 as M F H ∧ B1 b = some (.tup (y.map V.int)) := by
      cases nb : B b with
      | none => exact ⟨_, Ex.new nb, S.ground hb nb, upd_same⟩
      | some o =>
        have := S.ex b o nb
        rw [hb] at this; cases this
        exact ⟨B, Ex.refl B, S, nb⟩
    obtain ⟨B2, e2, S2, r2⟩ := ground_all (bs := bs) (ys := ys) S1 (fun j c hc => h (j + 1) c (by simpa using hc)) (by simpa using hl)
    exact ⟨B2, e1.trans e2, S2, .cons (.tup (e2 _ _ q1) Reps.ofInts) r2⟩
theorem sn_sortK : SN A K W (tCB (rSortK 2 1000) (tCons (tVar i) tNil)) (nSortK i) := by
  constructor
  · intro Γ M g M' h
    obtain ⟨j, kvs, h1, h2, h⟩ := onDic_ok h
    obtain ⟨⟨hz, hk⟩, h⟩ := chk_ok h
    cases h
    intro B as F σ H S O Q q
    refine (ev_m h1 : Ev K (tVar i) Γ M (.mr j) M) B as F σ H S O _ fun v B1 H1 e1 S1 r1 => ?_
    obtain ⟨a, rfl, ha⟩ := r1
    obtain ⟨nb, o, ho, vs, rfl, hl, rr⟩ := S1.mu j a _ ha h2 (by intro z; cases z)
    have kb : ∀ k ∈ kvs.map (·.1), k.length = 2 ∧ TS.Bd 1000 k := fun k hm => by
      have := List.all_eq_true.mp hk k hm
      unfold keyOk at this
      rw [Bool.and_eq_true] at this
      refine ⟨of_decide_eq_true this.1, fun i hi => ?_⟩
      have := List.all_eq_true.mp this.2 i hi
      rw [Bool.and_eq_true] at this
      exact ⟨of_decide_eq_true this.1, of_decide_eq_true this.2⟩
    refine ⟨a, _, kvs.map (·.1), rfl, .inl ho, ?_, by rw [List.length_map]; exact hz, kb, fun ys bs p p1 p2 p3 p4 hp => ?_⟩
    · rw [List.map_fst_zip (by rw [List.length_map]; omega), List.map_map]; rfl
    · have es : ys = (kvs.map (·.1)).mergeSort (codeLe 1000) := by
        have hs : ((kvs.map (·.1)).mergeSort (codeLe 1000)).Pairwise (fun x y => TS.code 1000 x ≤ TS.code 1000 y) := by
          have := List.pairwise_mergeSort (le := codeLe 1000) (fun a b c h1 h2 => by unfold codeLe at *; simp at *; omega) (fun a b => by unfold codeLe; simp; omega) (kvs.map (·.1))
          exact this.imp fun {a b} h => by unfold codeLe at h; simpa using h
        refine List.Perm.eq_of_pairwise (le := fun x y => TS.code 1000 x ≤ TS.code 1000 y) (fun x y hx hy h1 h2 => ?_) p2 hs (p1.trans (List.mergeSort_perm _ _).symm)
        obtain ⟨l1, b1⟩ := kb x (p1.mem_iff.mp hx)
        obtain ⟨l2, b2⟩ := kb y ((List.mergeSort_perm _ _).mem_iff.mp hy)
        exact code_inj l1 l2 b1 b2 (Int.le_antisymm h1 h2)
      subst es
      obtain ⟨B2, e2, S2, r2⟩ := ground_all S1 p3 p4
      exact q p _ B2 H1 (e1.trans e2) S2 hp r2
  · intro Γ M x fs M' h
    obtain ⟨j, kvs, h⟩ := onDic_er h
    cases (chk_er h).2
theorem ev_callN {m : Mm} {Es : L2.St → XK} {Γ : List G} {M M1 M0 : List MO} {ds xs : List D} (ha : EvA K tA Γ M (ds.map G.dat) M1) (h : m ds = .ok xs M0) : EvN K (tCallS (spN K m) Es tA) Γ M xs M1 := fun B as F σ H S O Q q =>
  ha B as F σ H S O _ fun vs B1 H1 e1 S1 r1 => ⟨ds, xs, B1, _, M0, h, r1.dats, S1.call0, fun p ws B2 H2 e2 S2 hp r2 => q p ws B2 H2 (e1.trans e2) (S1.back0 e2 S2) hp r2⟩
theorem sn_call {m : Mm} {Es : L2.St → XK} (hs : SA A K W tA fs) : SN A K W (tCallS (spN K m) Es tA) (nCall m fs) := by
  constructor
  · intro Γ M g M' h
    obtain ⟨gs, M1, h1, h⟩ := bind_ok h
    obtain ⟨es, rfl, h2⟩ := onDats_ok h
    split at h2 <;> first | (cases h2; done) | skip
    rename_i xs M0 e
    cases h2
    exact ev_callN (hs.ok h1) e
  · intro Γ M x fs' M' h
    rcases bind_er h with h1 | ⟨gs, M1, h1, h⟩
    · exact fun B as F σ H S O Q q => hs.er h1 B as F σ H S O _ q
    obtain ⟨es, rfl, h2⟩ := onDats_er h
    split at h2 <;> cases h2
/-! a def that hands back a new list -/
theorem runN_len {np nn : Nat} {f : SF} {ds : List D} {xs : List D} {M0 : List MO} (h : runN np nn f ds = .ok xs M0) : ds.length = np := (chk_ok h).1
theorem runN_run {np nn : Nat} {f : SF} {E : XK} {t : TS} (hs : SS A K (WofE E) t f) {ds xs : List D} {M0 : List MO} (h : runN np nn f ds = .ok xs M0) {B F H : Hp} {vs : List V} {Q : L2.VK} {N : List Str} (hN : N.length = nn) (r : Reps K B vs ds) (S : Sat K B [] [] F H)
    (q : ∀ p ws B' H', Ex B B' → Sat K B' [] [] F H' → H' p = none → Reps K B' ws xs → Q (.ref p) (upd H' p (.lst ws))) : t { nx := fun _ H' => Q .non H', rt := Q } (L2.start N vs) H := by
  obtain ⟨fl, M2, h1, h⟩ := bind_ok (chk_ok h).2
  have h1 := noEr_ok h1
  unfold endN at h
  split at h <;> first | (cases h; done) | skip
  rename_i _ _ j _
  split at h <;> first | (cases h; done) | skip
  rename_i hj
  cases h
  have O := SOk.start (N := N) (r.gs (as := []))
  rw [hN, List.length_map] at O
  refine hs.run h1 B [] F _ H _ S O fun v B' bs H' e' S' r' => ?_
  obtain ⟨p, rfl, hp⟩ := r'
  rw [List.nil_append] at hp S'
  obtain ⟨nb, o, ho, ws, rfl, rr⟩ := S'.mu j p _ hp hj (by intro z; cases z)
  have z := q p ws B' (del H' p) e' ⟨fun b u e => ?_, fun b u e => ?_, rfl, List.nodup_nil, fun b hb => by simp at hb, fun i b m hb => by simp at hb, fun i b hb => by simp at hb, S'.nt⟩ del_same rr
  · rw [upd_del ho] at z
    exact z
  · rw [del_ne (ne_of_none e nb)]; exact S'.ex b u e
  · obtain ⟨q1, q2, q3⟩ := S'.fr b u e
    have ne : b ≠ p := fun z => q3 (z ▸ List.mem_of_getElem? hp)
    exact ⟨by rw [del_ne ne]; exact q1, q2, by simp⟩
end
section
variable {P : Program} {w : World} {K : PySem.W.Frag} {mg : Str → Option Value} {base : Heap} {A : Str → Addr}
open PyProof.Rows in
theorem def_okN {x qual : Str} {st : Stmt} {f : Addr} {fd : FuncData} {N ps : List Str} {k : Nat} {g : SF} (F : Fun K x qual st f fd) (S : FnScope N ps (defScope st))
    (hb : ∀ (cdv : Value) (A0 : Around) (outer : List Env) (s : Shared) (H : Hp) (E : XK), Room k (A0.deeper (envOfC qual (defScope st) s.heap.objs.size f cdv)) → Takes (cxOf (L2.CX P w) P w K mg base N qual (defScope st) f cdv A0 outer s H E) (WofE E) →
      ∃ t, PSs (cxOf (L2.CX P w) P w K mg base N qual (defScope st) f cdv A0 outer s H E) (defBody st) t ∧ SS A K (WofE E) t g) :
    FnOk P w K mg base (L2.CX P w) (k + 1) f fd ps (spN K (runN ps.length N.length g)) := by
  refine F.okX S (fun vs H Q E h => ?_) (fun cdv A0 outer s H vs Q E hr h => ?_)
  · obtain ⟨ds, xs, B, F', M0, h, r, _⟩ := h
    rw [r.len]; exact runN_len h
  · obtain ⟨t, ht, hs⟩ := hb cdv A0 outer s H E hr (takes_of rfl rfl rfl rfl)
    obtain ⟨ds, xs, B, F', M0, h, r, S', q⟩ := h
    exact ⟨t, ht, runN_run hs h rfl r S' q⟩
end
end Lw

set_option Elab.async false
set_option linter.all false
set_option maxRecDepth 100000
set_option maxHeartbeats 4000000
namespace My
open PySem L2 Lw
theorem scope_ok {N P : List Str} {sc : Scope} (a : sc.kind = .function) (b : sc.isCoroutine = false) (c : sc.isGenerator = false) (d : N.Nodup) (e : N.take P.length = P) (f : ∀ x ∈ P, sc.names.lookup x = some .local ∨ sc.names.lookup x = some .cell) (g : ∀ y ∈ sc.names, y.2 ≠ .free) : FnScope N P sc := ⟨a, b, c, d, e, f, g⟩
/-- a def that keeps its promise, as the module's names find it -/
structure DefKS (P : Program) (w : World) (K : PySem.W.Frag) (mg : Str → Option Value) (base : Heap) (x : Str) (k : Nat) (ps : List Str) (sp : Sp) (f : Addr) (fd : FuncData) : Prop where
  gm : mg x = some (.ref f)
  ok : FnOk P w K mg base (L2.CX P w) k f fd ps sp
  kp : PySem.W.keepIn K (.ref f) = true
  bd : Binds K fd ps []
/-- .. whose last parameters have defaults -/
structure DefKD (P : Program) (w : World) (K : PySem.W.Frag) (mg : Str → Option Value) (base : Heap) (x : Str) (dvs : List V) (ds : List Value) (k : Nat) (ps : List Str) (sp : Sp) (f : Addr) (fd : FuncData) : Prop where
  gm : mg x = some (.ref f)
  ok : FnOk P w K mg base (L2.CX P w) k f fd ps sp
  kp : PySem.W.keepIn K (.ref f) = true
  vs : Vals dvs ds
  bd : Binds K fd ps ds
structure IniKS (P : Program) (w : World) (K : PySem.W.Frag) (mg : Str → Option Value) (base : Heap) (C : Addr) (k : Nat) (ps : List Str) (sp : Sp) (f : Addr) (fd : FuncData) : Prop where
  ok : FnOk P w K mg base (L2.CX P w) k f fd ps sp
  bd : Binds K fd ps []
  make : Mk K C f
structure MetKS (P : Program) (w : World) (K : PySem.W.Frag) (mg : Str → Option Value) (base : Heap) (C : Addr) (m : Str) (k : Nat) (ps : List Str) (sp : Sp) (f : Addr) (fd : FuncData) : Prop where
  ok : FnOk P w K mg base (L2.CX P w) k f fd ps sp
  bd : Binds K fd ps []
  me : Meth K C m f
structure CMetKS (P : Program) (w : World) (K : PySem.W.Frag) (mg : Str → Option Value) (base : Heap) (C : Addr) (m : Str) (k : Nat) (sp : Sp) (g p : Addr) (mc : Value) : Prop where
  cr : ClX.CRead K C mc
  cm : ClX.CMet K C mc m p g
  fn : FnR P w K mg base (L2.CX P w) k g sp
end My

set_option Elab.async false
set_option linter.all false
set_option maxRecDepth 100000
set_option maxHeartbeats 4000000
/-! what a program's top leaves, told by facts that are computed -/
namespace My
open PySem L2 Lw PySem.Spec PyProof.Rows
abbrev Fg := PySem.W.Frag
/-- a def: where its function object is, and what it holds -/
structure DefX where
  adr : Fg → Addr
  name : Str
  qual : Str
  st : Stmt
  kwd : List (Str × He.Dv) := []
def DefX.kws (K : Fg) (d : DefX) : List (Str × V) := d.kwd.map fun q => (q.1, q.2.v K)
def fnX (K : Fg) (a : Addr) : He.FnW := match K.lookup a with
  | some ⟨_, _, .func fd, _⟩ => some (fd.name, fd.qualname, fd.params, fd.body, fd.scope, fd.globals, fd.closure, fd.builtins)
  | _ => none
def DefX.val (d : DefX) : He.FnW := some (d.name, d.qual, defArgs d.st, .stmts (defBody d.st), defScope d.st, mainGlobals, [], builtinsNs)
def DefX.good (K : Fg) (d : DefX) : Bool := PySem.W.keepIn K (.ref (d.adr K)) && match K.lookup (d.adr K) with
  | some ⟨_, _, .func fd, _⟩ => PySem.W.codeIn K fd.code d.qual && (He.dflB K fd.defaults [] && He.kwdB K fd.kwdefaults (d.kws K))
  | _ => false
theorem DefX.fn {K : Fg} {d : DefX} (e : fnX K (d.adr K) = d.val) (c : d.good K = true) : ∃ fd, FunD K d.name d.qual (defArgs d.st) (defBody d.st) (defScope d.st) [] (d.kws K) (d.adr K) fd := by
  unfold DefX.good at c
  rw [Bool.and_eq_true] at c
  obtain ⟨kp, c⟩ := c
  unfold fnX at e
  cases q : K.lookup (d.adr K) with
  | none => rw [q] at e; cases e
  | some o =>
    obtain ⟨oc, od, dt, osl⟩ := o
    rw [q] at c e
    cases dt <;> first | (cases e; done) | skip
    rename_i fd
    obtain ⟨a1, a2, a3, a4, a5, a6, a7, a8, a9, b1, b2, b3, b4, b5, b6⟩ := fd
    simp only [DefX.val, Option.some.injEq, Prod.mk.injEq] at e
    obtain ⟨rfl, rfl, rfl, rfl, rfl, rfl, rfl, rfl⟩ := e
    simp only [Bool.and_eq_true] at c
    exact ⟨_, ⟨oc, od, a8, a9, b1, b2, b3, b4, b5, osl, rfl, q, c.1, He.dflB_ok c.2.1, He.kwdB_ok c.2.2⟩, kp⟩
abbrev AlX : Type := Bool × List He.FnW
def lookX (fa : List (Fg → Bool)) (fn : List DefX) (K : Fg) : AlX := ((fa.all fun f => f K) && fn.all fun d => d.good K, fn.map fun d => fnX K (d.adr K))
def rightX (fn : List DefX) : AlX := (true, fn.map DefX.val)
def SaysX (fa : List (Fg → Bool)) (fn : List DefX) (K : Fg) : Prop := lookX fa fn K = rightX fn
/-- what is reached from the roots, each once -/
def bfs (g : Addr → Option Obj) : Nat → List Addr → Nat → List Addr
  | 0, _, _ => []
  | _ + 1, [], _ => []
  | n + 1, a :: r, m => match Nat.testBit m a with
    | true => bfs g n r m
    | false => a :: bfs g n ((match g a with
      | some o => He.refsD o
      | none => []) ++ r) (Nat.lor m (Nat.shiftLeft 1 a))
def lookG (n : Nat) (fa : List (Fg → Bool)) (fn : List DefX) (g : Addr → Option Obj) : AlX := lookX fa fn (He.frG g (cStatics :: bfs g n [mainGlobals] 0))
def hookX (n : Nat) (fa : List (Fg → Bool)) (fn : List DefX) : PySem.W.Hook where
  α := AlX
  obs := fun s => lookG n fa fn s.heap.get?
  val := fun _ => rightX fn
  says := fun _ h => ∃ K : Fg, K.In h ∧ SaysX fa fn K
  of := fun _ _ e => ⟨_, He.frG_in, e⟩
  keeps := fun _ _ _ ⟨K, hK, c⟩ k => ⟨K, PySem.W.Frag.In.keeps hK k, c⟩
theorem lookG_eq {n : Nat} {fa : List (Fg → Bool)} {fn : List DefX} {g : Addr → Option Obj} {s : Shared} (h : ∀ a, g a = s.heap.get? a) : lookG n fa fn g = (hookX n fa fn).obs s := by
  rw [show g = s.heap.get? from funext h]; rfl
open HandSHeadRun PySem.W in
theorem run_of {n M : Nat} {fa : List (Fg → Bool)} {fn : List DefX} {r : OpenRow} {q : Program} {ob : SharedT → AlX} {loose : List PySem.Str} {w : World}
    (h : (wholeF (fun p => stepQ (denQ tabQ) p w) fenceQ M r.prog).map (fun x => (looksF r.prog x.1.heap x.2.abs, seenQ q loose (importedModules r.prog.main.body) (fun s => xlAt q [] s && recOk r.toRowW.records s) x.2.abs, (ob x.2).1, (ob x.2).2)) = some (true, openGood q loose, true, fn.map DefX.val)) :
    RunEqI r q (hookX n fa fn) ob M loose w := by
  unfold RunEqI
  cases e : wholeF (fun p => stepQ (denQ tabQ) p w) fenceQ M r.prog with
  | none => rw [e] at h; cases h
  | some x =>
    rw [e] at h
    have h' := Option.some.inj h
    obtain ⟨h1, h2⟩ := Prod.mk.inj h'
    obtain ⟨h2, h3⟩ := Prod.mk.inj h2
    obtain ⟨h3, h4⟩ := Prod.mk.inj h3
    exact congrArg some (Prod.ext h1 (Prod.ext h2 (Prod.ext h3 h4)))
open HandSHeadRun PySem.W in
theorem run_of2 {n M : Nat} {fa : List (Fg → Bool)} {fn : List DefX} {r : OpenRow} {q : Program} {ob : SharedT → AlX} {loose : List PySem.Str} {w : World}
    (h1 : (wholeF (fun p => stepQ (denQ tabQ) p w) fenceQ M r.prog).map (fun x => (looksF r.prog x.1.heap x.2.abs, seenQ q loose (importedModules r.prog.main.body) (fun s => xlAt q [] s && recOk r.toRowW.records s) x.2.abs)) = some (true, openGood q loose))
    (h2 : (wholeF (fun p => stepQ (denQ tabQ) p w) fenceQ M r.prog).map (fun x => ((ob x.2).1, (ob x.2).2)) = some (true, fn.map DefX.val)) :
    RunEqI r q (hookX n fa fn) ob M loose w := by
  refine run_of ?_
  cases e : wholeF (fun p => stepQ (denQ tabQ) p w) fenceQ M r.prog with
  | none => rw [e] at h1; cases h1
  | some x =>
    rw [e] at h1 h2
    have a := Option.some.inj h1
    have b := Option.some.inj h2
    obtain ⟨a1, a2⟩ := Prod.mk.inj a
    obtain ⟨b1, b2⟩ := Prod.mk.inj b
    exact congrArg some (Prod.ext a1 (Prod.ext a2 (Prod.ext b1 b2)))
section
variable {fa : List (Fg → Bool)} {fn : List DefX} {K : Fg}
theorem SaysX.fact (c : SaysX fa fn K) (i : Nat) {f : Fg → Bool} (h : fa[i]? = some f := by rfl) : f K = true := by
  have z : ((fa.all fun f => f K) && fn.all fun d => d.good K) = true := congrArg Prod.fst c
  rw [Bool.and_eq_true] at z
  exact List.all_eq_true.mp z.1 f (List.mem_of_getElem? h)
theorem SaysX.def_ (c : SaysX fa fn K) (i : Nat) {d : DefX} (h : fn[i]? = some d := by rfl) : ∃ fd, FunD K d.name d.qual (defArgs d.st) (defBody d.st) (defScope d.st) [] (d.kws K) (d.adr K) fd := by
  have z : ((fa.all fun f => f K) && fn.all fun d => d.good K) = true := congrArg Prod.fst c
  rw [Bool.and_eq_true] at z
  have e : (fn.map fun d => fnX K (d.adr K))[i]? = (fn.map DefX.val)[i]? := congrArg (fun l : List He.FnW => l[i]?) (congrArg Prod.snd c)
  rw [List.getElem?_map, List.getElem?_map, h] at e
  exact DefX.fn (Option.some.inj e) (List.all_eq_true.mp z.2 d (List.mem_of_getElem? h))
theorem funOf {x qual : Str} {st : Stmt} {kws : List (Str × V)} {f : Addr} {fd : FuncData} (F : FunD K x qual (defArgs st) (defBody st) (defScope st) [] kws f fd) : Fun K x qual st f fd := by
  obtain ⟨oc, od, dV, kV, doc, pm, an, cdv, ct, osl, rfl, lk, hcd, hD, _⟩ := F.ex
  rcases hD with ⟨_, rfl⟩ | ⟨e, _⟩
  · exact ⟨⟨oc, od, kV, doc, pm, an, cdv, ct, osl, rfl, lk, hcd⟩, F.kp⟩
  · exact absurd rfl e
end
/-! the facts -/
abbrev ga := He.ga
abbrev ma := He.ma
def faB (x id : Str) (b : String) : Fg → Bool := fun K => He.eqO (PySem.W.nsIn K mainGlobals x) (some (some (.builtin b)))
def faE (x : Str) : Fg → Bool := fun K => PySem.W.excIn K (ga K x) [.type "Exception", .type "BaseException", .type "object"] "Exception.__new__" && (PySem.W.keepIn K (.ref (ga K x)) && (decide (PySem.W.subIn K (.ref (ga K x)) (.type "BaseException") = some true) && decide (PySem.W.typeIn K (.ref (ga K x)) = some (.type "type"))))
/-- a constant int of a class -/
def faC (c f : Str) (i : Int) : Fg → Bool := fun K => (match PySem.W.findIn K (.ref (ga K c)) f with
  | some (some (.int j t)) => decide (j = i) && decide (PySem.W.specialIn K (.int j t) "__get__" = some none)
  | _ => false) && !PySem.W.copiedNames.contains f
/-- a class method: its record, its def -/
def cmA (c m : Str) (K : Fg) : Addr := match PySem.W.recIn K (ma K (ga K c) m) "classmethod" with
  | some (.ref g :: _) => g
  | _ => 0
def faM (c m : Str) : Fg → Bool := fun K => PySem.W.readsIn K (ga K c) (.type "type") && (decide (PySem.W.specialIn K (.ref (ga K c)) "__getattribute__" = some (some (.builtin "type.__getattribute__"))) &&
  ((match PySem.W.findCls K (.ref (ga K c)) (.type "type") m with
    | some (.get (.builtin b) (.ref p) .none (.ref d)) => decide (b = "classmethod.__get__") && (decide (p = ma K (ga K c) m) && decide (d = ga K c))
    | _ => false) && ((match PySem.W.recIn K (ma K (ga K c) m) "classmethod" with
    | some (.ref _ :: _) => true
    | _ => false) && PySem.W.fnIn K (cmA c m K))))
section
variable {K : Fg} {h : Heap} {mg : Str → Option Value}
theorem faB_ok (X : K.In h) (G : h.Ns mainGlobals mg) {x : Str} {b : String} (c : faB x x b K = true) : mg x = some (.builtin b) := PySem.W.mg_of X G (He.eqO_ok c)
theorem faE_ok (X : K.In h) (G : h.Ns mainGlobals mg) {x : Str} (c : faE x K = true) (g : (He.Fa.glo x).ok K = true) : Er0 K mg x (ga K x) := by
  unfold faE at c
  simp only [Bool.and_eq_true] at c
  exact ⟨He.glo_ok X G g, c.1, c.2.1, of_decide_eq_true c.2.2.1, of_decide_eq_true c.2.2.2⟩
theorem faC_ok {x f : Str} {i : Int} (c : faC x f i K = true) : ∃ t, L2.Con K (ga K x) f (.int i) (.int i t) := by
  unfold faC at c
  rw [Bool.and_eq_true] at c
  obtain ⟨c1, c2⟩ := c
  split at c1 <;> first | (cases c1; done) | skip
  rename_i j t e
  rw [Bool.and_eq_true] at c1
  obtain ⟨c3, c4⟩ := c1
  cases of_decide_eq_true c3
  exact ⟨t, e, ⟨t, rfl⟩, of_decide_eq_true c4, by simpa using c2⟩
theorem faM_ok {x m : Str} (c : faM x m K = true) : ClX.CRead K (ga K x) (.type "type") ∧ ClX.CMet K (ga K x) (.type "type") m (ma K (ga K x) m) (cmA x m K) := by
  unfold faM at c
  simp only [Bool.and_eq_true] at c
  obtain ⟨c1, c2, c3, c4, c5⟩ := c
  refine ⟨⟨c1, of_decide_eq_true c2⟩, ?_, ?_, c5⟩
  · split at c3 <;> first | (cases c3; done) | skip
    rename_i e
    simp only [Bool.and_eq_true, decide_eq_true_eq] at c3
    obtain ⟨rfl, e1, e2⟩ := c3
    rw [e, e1, e2]
  · split at c4 <;> first | (cases c4; done) | skip
    rename_i g r e
    refine ⟨r, ?_⟩
    unfold cmA
    rw [e]
theorem bd_plain {x qual : Str} {st : Stmt} {f : Addr} {fd : FuncData} {ps : List Str} (F : FunD K x qual (defArgs st) (defBody st) (defScope st) [] [] f fd)
    (h : ∀ (kV doc pm : Value) (an : Option Addr) (cdv ct : Value) (us : List Value), us.length = ps.length → bindArgs (PySem.W.fnOf x qual (defArgs st) (defBody st) (defScope st) .none kV doc pm an cdv ct) ⟨us, []⟩ = pure (ps.zip us)) : Binds K fd ps [] := F.bindsN h
theorem exm_tab {tab : List ((Str × Str) × Bool)} (h : (tab.all fun q => (He.Fa.exm q.1.1 q.1.2 q.2).ok K) = true) {x y : Str} {c : Bool} (e : tab.lookup (x, y) = some c) : PySem.W.exmOne K (.ref (ga K x)) (.ref (ga K y)) = some c := by
  have hm : ((x, y), c) ∈ tab := by
    have : ∀ (l : List ((Str × Str) × Bool)), l.lookup (x, y) = some c → ((x, y), c) ∈ l := by
      intro l
      induction l with
      | nil => intro e; cases e
      | cons q l ih =>
        intro e
        rw [List.lookup_cons] at e
        split at e
        · rename_i he
          cases e
          have := beq_iff_eq.mp he
          rw [this]
          exact List.mem_cons_self
        · exact List.mem_cons_of_mem _ (ih e)
    exact this tab e
  exact He.exm_ok (List.all_eq_true.mp h _ hm)
end
theorem fnr_of {P : Program} {w : World} {K : Fg} {mg : Str → Option Value} {base : Heap} {CX : CXT} {k : Nat} {f : Addr} {fd : FuncData} {ps : List Str} {sp : Sp} (F : FnOk P w K mg base CX k f fd ps sp) (hb : Binds K fd ps []) : FnR P w K mg base CX k f sp :=
  (F.raw hb .nil).imp fun vs H Q E h => by rw [List.append_nil]; exact h
theorem never_cx {P : Program} {w : World} (H : Hp) (s : Shared) (e : Value) (s' : Shared) (h : L2.CX P w [] H s (fun _ _ _ => False) e s') : False := by
  obtain ⟨_, _, _, _, _, _, _, _, _, _, _, _, z⟩ := h
  exact z.elim
/-- the law's own promise: at every list of ints it says True -/
def spLaw (K : Fg) : Sp := fun vs H Q _ => ∃ (a : Addr) (ns : List Int), vs = [.ref a] ∧ SqL K H a (ns.map V.int) ∧ ns.length ≤ 63 ∧ ∀ H', Q (.bl true) H'
/-- the law raises nothing -/
theorem calm_law {P : Program} {w : World} {K : Fg} {mg : Str → Option Value} {base : Heap} {k : Nat} {f : Addr} {fd : FuncData} {ps : List Str} (F : FnOk P w K mg base (L2.CX P w) k f fd ps (spLaw K)) : FnOk P w K mg base CX0 k f fd ps (spLaw K) :=
  ⟨F.len, fun A outer s H args us vs Q E hr e0 hb hv hs => codeAny_mono (F.run A outer s H args us vs Q (fun _ _ _ => False) hr e0 hb hv hs) fun r s' q => by
    cases r with
    | error u =>
      obtain ⟨_, _, _, _, _, _, _, _, _, _, _, _, z⟩ := (show L2.CX P w outer H s (fun _ _ _ => False) u s' from q)
      exact z.elim
    | ok fl => cases fl <;> exact q⟩
/-- the law walked: what a machine's run asks of it -/
theorem walk_law {l : PySem.W.OpenLaw} {k : Nat} {q : Program} {loose : List Str} {XP : (Str → Option Value) → Heap → Prop} {YP : World → Heap → Prop} {d : DefRec} {x : Str} (hn : l.most = some 63) (hdf : d.params.defaults = []) (hr : Room k callerA)
    (F : ∀ (w : World) (mg : Str → Option Value) (fa : Addr) (h : Heap), YP w h → h.Ns mainGlobals mg → mg d.name = some (.ref fa) →
      ∃ (K : Fg) (fd : FuncData), K.In h ∧ (∀ (s : Shared) (u : Value), BindsTo s fd ⟨[u], []⟩ [(x, u)]) ∧ ∀ base : Heap, FnOk l.prog w K mg base (L2.CX l.prog w) k fa fd [x] (spLaw K)) :
    PySem.W.WalkO q loose XP YP l.row.toRowW d [] (fun f vs => PySem.call f vs) :=
  walk_ofE (CX := CX0) hn (by decide) hdf hr (fun w mg fa h Y G hmg => by
    obtain ⟨K, fd, KX, hb, hF⟩ := F w mg fa h Y G hmg
    exact ⟨K, fd, spLaw K, KX, hb, fun H a ns hl _ hS => ⟨a, ns, rfl, hS, hl, fun _ => rfl⟩, fun base _ _ => calm_law (hF base)⟩) (fun _ _ _ _ z => z)
theorem law_sp {A : Str → Addr} {K : Fg} {m : Mn} (hm : ∀ ns : List Int, ns.length ≤ 63 → m [.dat (.fz (ns.map D.int))] [] = .ok (.bl true) []) : ∀ vs H Q E, spLaw K vs H Q E → spOf K (con A m) vs H Q E := fun vs H Q E h => by
  obtain ⟨a, ns, rfl, s, hl, q⟩ := h
  refine ⟨[.dat (.fz (ns.map D.int))], H, [], [], fun _ => none, .ret (.dat (.bl true)) [], .inl ⟨_, _, hm ns hl, rfl⟩, .cons (.fz s Reps.ofInts) .nil, ⟨Ex.refl H, (fun a o e => nomatch e), rfl, List.nodup_nil, (fun a ha => absurd ha (by simp)), (fun i a m ha => absurd ha (by simp)), (fun i a ha => absurd ha (by simp)), (fun a xs e => nomatch e)⟩, fun v B' H' e S r => ?_⟩
  cases r
  exact q H'
end My

set_option Elab.async false
set_option linter.all false
set_option maxRecDepth 100000
set_option maxHeartbeats 4000000
set_option exponentiation.threshold 100000
namespace My
open PySem L2 Lw
def exmTab : List ((Str × Str) × Bool) := [(("WebsError", "BadRatio"), false), (("BadRatio", "BadRatio"), true), (("BadCount", "BadRatio"), false), (("BadPlace", "BadRatio"), false), (("BadTie", "BadRatio"), false), (("BadPull", "BadRatio"), false), (("BadLot", "BadRatio"), false), (("BadSaying", "BadRatio"), false), (("BadBundle", "BadRatio"), false), (("TooMany", "BadRatio"), false), (("BadSpread", "BadRatio"), false), (("NotWebs", "BadRatio"), false), (("BadTable", "BadRatio"), false)]
def exmT (x y : Str) : Option Bool := exmTab.lookup (x, y)
def f_l_draws (A : Str → Addr) : SF :=
  (sSeq (sAsgN 1 (nLst aNil))
  (sSeq (sFor (iArgs rng1G (aCons (eCB (cI2 fun i j => if j < i then j else i) (aCons (eCB cLen (aCons (eVar 0) aNil)) (aCons (eCon (.int 63)) aNil))) aNil)) (bName 2) (sSeq (sAsg 3 (eCB cInt (aCons (eIx (eVar 0) (eVar 2)) aNil)))
  (sSeq (sIf (tOf (eOp (oI fun i j => .bl (decide (i < j))) (eVar 3) (eCon (.int 0)))) (sAsg 3 (eOp (oI fun i j => .int (i - j)) (eCon (.int 2)) (eVar 3))) sNext)
  (sIf (tOf (eOp (oI fun i j => .bl (decide (j ≤ i))) (eVar 3) (eOp (oC CPow fun i j => .int (i ^ j.toNat)) (eCon (.int 10)) (eCon (.int 18))))) (sFor (iArgs rng1G (aCons (eCon (.int 48)) aNil)) (bName 4) (sIf (tOf (eOp (oI fun i j => .bl (decide (j < i))) (eVar 3) (eCon (.int 0)))) (sSeq (sApp 1 (eOp (oC (fun _ j => j ≠ 0) fun i j => .int (i.fmod j)) (eCB cInt (aCons (eVar 3) aNil)) (eCon (.int 30))))
  (sAsg 3 (eOp (oC CDivW fun i j => .int (i / j)) (eVar 3) (eCon (.int 30))))) sNext)) (sSeq (sAsg 5 (eOp (oC (fun _ j => j ≠ 0) fun i j => .int (i.fmod j)) (eCB cInt (aCons (eOp (oI fun i j => .int (i + j)) (eOp (oI fun i j => .int (i + j)) (eOp (oC CMulW fun i j => .int (i * j)) (eVar 3) (eCon (.int 69069))) (eOp (oC CMulW fun i j => .int (i * j)) (eVar 2) (eCon (.int 4099)))) (eCon (.int 5))) aNil)) (eCon (.int 998244353))))
  (sFor (iArgs rng1G (aCons (eCon (.int 6)) aNil)) (bName 4) (sSeq (sAsg 5 (eOp (oC (fun _ j => j ≠ 0) fun i j => .int (i.fmod j)) (eCB cInt (aCons (eOp (oI fun i j => .int (i + j)) (eOp (oI fun i j => .int (i + j)) (eOp (oI fun i j => .int (i + j)) (eOp (oI fun i j => .int (i + j)) (eOp (oC CMulW fun i j => .int (i * j)) (eVar 5) (eVar 5)) (eOp (oC CMulW fun i j => .int (i * j)) (eVar 5) (eCon (.int 3)))) (eOp (oC CMulW fun i j => .int (i * j)) (eVar 4) (eCon (.int 7919)))) (eOp (oC CMulW fun i j => .int (i * j)) (eVar 2) (eCon (.int 101)))) (eCon (.int 11))) aNil)) (eCon (.int 998244353))))
  (sApp 1 (eVar 5)))))))))
  (sSeq (sRev 1)
  (sRet (eVar 1)))))
def m_l_draws (A : Str → Addr) : Mm := runN 1 6 (f_l_draws A)
def f_l_take (A : Str → Addr) : SF :=
  (sSeq (sIf (tOf (eOp oEq (eCB cLen (aCons (eVar 0) aNil)) (eCon (.int 0)))) (sRet (eCon (.int 0))) sNext)
  (sRet (eOp (oC (fun _ j => j ≠ 0) fun i j => .int (i.fmod j)) (eCB cInt (aCons (ePop 0) aNil)) (eVar 1))))
def m_l_take (A : Str → Addr) : Mn := runF 2 2 (f_l_take A)
def f_l_pull (A : Str → Addr) : SF :=
  (sSeq (sAsg 2 (eNew (nLst (aCons (eTup (aCons (eCon (.int 1)) (aCons (eCon (.int 2)) aNil))) (aCons (eTup (aCons (eCon (.int 1)) (aCons (eCon (.int 3)) aNil))) (aCons (eTup (aCons (eCon (.int 2)) (aCons (eCon (.int 3)) aNil))) (aCons (eTup (aCons (eCon (.int 1)) (aCons (eCon (.int 4)) aNil))) (aCons (eTup (aCons (eCon (.int 3)) (aCons (eCon (.int 5)) aNil))) (aCons (eTup (aCons (eCon (.int 1)) (aCons (eCon (.int 10)) aNil))) (aCons (eTup (aCons (eCon (.int 9)) (aCons (eCon (.int 10)) aNil))) (aCons (eTup (aCons (eCon (.int 2)) (aCons (eCon (.int 7)) aNil))) (aCons (eTup (aCons (eCon (.int 3)) (aCons (eCon (.int 4)) aNil))) (aCons (eTup (aCons (eCon (.int 1)) (aCons (eCon (.int 5)) aNil))) aNil)))))))))))))
  (sSeq (sAsg 3 (eIx (eVar 2) (eCall (m_l_take A) (aCons (eVar 0) (aCons (eCon (.int 10)) aNil)))))
  (sSeq (sIf (tOf (eOp oEq (eVar 1) (eCon (.str "positive")))) (sRet (eVar 3)) sNext)
  (sSeq (sAsg 4 (eCall (m_l_take A) (aCons (eVar 0) (aCons (eCon (.int 6)) aNil))))
  (sSeq (sIf (tOf (eOp oEq (eVar 4) (eCon (.int 5)))) (sRet (eTup (aCons (eCon (.int 0)) (aCons (eCon (.int 1)) aNil)))) sNext)
  (sSeq (sIf (fAnd (tOf (eOp oEq (eVar 1) (eCon (.str "any")))) (tOf (eOp (oI fun i j => .bl (decide (j ≤ i))) (eVar 4) (eCon (.int 3))))) (sRet (eTup (aCons (eUn (fun i => .int (-i)) (eIx (eVar 3) (eCon (.int 0)))) (aCons (eIx (eVar 3) (eCon (.int 1))) aNil)))) sNext)
  (sRet (eVar 3))))))))
def m_l_pull (A : Str → Addr) : Mn := runF 2 5 (f_l_pull A)
def f_is_integer (A : Str → Addr) : SF :=
  (sRet (eAnd (eCB cIs (aCons (eVar 0) (aCons (eCon (.ty "int")) aNil))) (eNot (eCB cIs (aCons (eVar 0) (aCons (eCon (.ty "bool")) aNil))))))
def m_is_integer (A : Str → Addr) : Mn := runF 1 1 (f_is_integer A)
def f_is_row (A : Str → Addr) : SF :=
  (sRet (eIsRow (eVar 0)))
def m_is_row (A : Str → Addr) : Mn := runF 1 1 (f_is_row A)
def f_is_ratio (A : Str → Addr) : SF :=
  (sSeq (sIf (tOf (eCall (m_is_integer A) (aCons (eVar 0) aNil))) (sRet (eCon (.bl true))) sNext)
  (sSeq (sIf (fOr (fNot (tOf (eCall (m_is_row A) (aCons (eVar 0) aNil)))) (tOf (eOp oNe (eCB cLen (aCons (eVar 0) aNil)) (eCon (.int 2))))) (sRet (eCon (.bl false))) sNext)
  (sRet (eAnd (eCall (m_is_integer A) (aCons (eIx (eVar 0) (eCon (.int 0))) aNil)) (eAnd (eCall (m_is_integer A) (aCons (eIx (eVar 0) (eCon (.int 1))) aNil)) (eOp (oI fun i j => .bl (decide (j ≤ i))) (eIx (eVar 0) (eCon (.int 1))) (eCon (.int 1))))))))
def m_is_ratio (A : Str → Addr) : Mn := runF 1 1 (f_is_ratio A)
def f_lowest (A : Str → Addr) : SF :=
  (sSeq (sAsg 2 (eCB (cI2 fun i k => ((Nat.gcd i.natAbs k.natAbs : Nat) : Int)) (aCons (eVar 0) (aCons (eVar 1) aNil))))
  (sRet (eTup (aCons (eOp (oC CDivW fun i j => .int (i / j)) (eVar 0) (eVar 2)) (aCons (eOp (oC CDivW fun i j => .int (i / j)) (eVar 1) (eVar 2)) aNil)))))
def m_lowest (A : Str → Addr) : Mn := runF 2 3 (f_lowest A)
def f_ratio_of (A : Str → Addr) : SF :=
  (sSeq (sIf (fNot (tOf (eCall (m_is_ratio A) (aCons (eVar 0) aNil)))) (sRaise "BadRatio") sNext)
  (sSeq (sIf (tOf (eCall (m_is_integer A) (aCons (eVar 0) aNil))) (sRet (eTup (aCons (eCB cInt (aCons (eVar 0) aNil)) (aCons (eCon (.int 1)) aNil)))) sNext)
  (sRet (eCall (m_lowest A) (aCons (eCB cInt (aCons (eIx (eVar 0) (eCon (.int 0))) aNil)) (aCons (eCB cInt (aCons (eIx (eVar 0) (eCon (.int 1))) aNil)) aNil))))))
def m_ratio_of (A : Str → Addr) : Mn := runF 1 1 (f_ratio_of A)
def f_pull_of (A : Str → Addr) : SF :=
  (sSeq (sAsgT (bRow [(bName 1), (bName 2)]) (eCall (m_ratio_of A) (aCons (eVar 0) aNil)))
  (sSeq (sIf (tOf (eOp (oI fun i j => .bl (decide (j ≤ i))) (eCB (cI1 fun i => if i < 0 then -i else i) (aCons (eVar 1) aNil)) (eVar 2))) (sRaise "BadRatio") sNext)
  (sRet (eTup (aCons (eVar 1) (aCons (eVar 2) aNil))))))
def m_pull_of (A : Str → Addr) : Mn := runF 1 3 (f_pull_of A)
def f_times (A : Str → Addr) : SF :=
  (sSeq (sAsgT (bRow [(bName 2), (bName 3)]) (eCall (m_ratio_of A) (aCons (eVar 0) aNil)))
  (sSeq (sAsgT (bRow [(bName 4), (bName 5)]) (eCall (m_ratio_of A) (aCons (eVar 1) aNil)))
  (sRet (eCall (m_lowest A) (aCons (eOp (oC CMulW fun i j => .int (i * j)) (eVar 2) (eVar 4)) (aCons (eOp (oC CMulW fun i j => .int (i * j)) (eVar 3) (eVar 5)) aNil))))))
def m_times (A : Str → Addr) : Mn := runF 2 6 (f_times A)
def f_star_means (A : Str → Addr) : SF :=
  (sSeq (sPar [3, 4, 5] (aCons (eCall (m_pull_of A) (aCons (eVar 0) aNil)) (aCons (eCall (m_pull_of A) (aCons (eVar 1) aNil)) (aCons (eCall (m_pull_of A) (aCons (eVar 2) aNil)) aNil))))
  (sRet (eTup (aCons (eCall (m_times A) (aCons (eVar 3) (aCons (eVar 4) aNil))) (aCons (eCall (m_times A) (aCons (eVar 3) (aCons (eVar 5) aNil))) (aCons (eCall (m_times A) (aCons (eVar 4) (aCons (eVar 5) aNil))) aNil))))))
def m_star_means (A : Str → Addr) : Mn := runF 3 6 (f_star_means A)
def f_minus (A : Str → Addr) : SF :=
  (sSeq (sAsgT (bRow [(bName 2), (bName 3)]) (eCall (m_ratio_of A) (aCons (eVar 0) aNil)))
  (sSeq (sAsgT (bRow [(bName 4), (bName 5)]) (eCall (m_ratio_of A) (aCons (eVar 1) aNil)))
  (sRet (eCall (m_lowest A) (aCons (eOp (oI fun i j => .int (i - j)) (eOp (oC CMulW fun i j => .int (i * j)) (eVar 2) (eVar 5)) (eOp (oC CMulW fun i j => .int (i * j)) (eVar 4) (eVar 3))) (aCons (eOp (oC CMulW fun i j => .int (i * j)) (eVar 3) (eVar 5)) aNil))))))
def m_minus (A : Str → Addr) : Mn := runF 2 6 (f_minus A)
def f_over (A : Str → Addr) : SF :=
  (sSeq (sAsgT (bRow [(bName 2), (bName 3)]) (eCall (m_ratio_of A) (aCons (eVar 0) aNil)))
  (sSeq (sAsgT (bRow [(bName 4), (bName 5)]) (eCall (m_ratio_of A) (aCons (eVar 1) aNil)))
  (sSeq (sIf (tOf (eOp oEq (eVar 4) (eCon (.int 0)))) (sRaise "BadRatio") sNext)
  (sSeq (sIf (tOf (eOp (oI fun i j => .bl (decide (i < j))) (eVar 4) (eCon (.int 0)))) (sRet (eCall (m_lowest A) (aCons (eOp (oC CMulW fun i j => .int (i * j)) (eUn (fun i => .int (-i)) (eVar 2)) (eVar 5)) (aCons (eOp (oC CMulW fun i j => .int (i * j)) (eUn (fun i => .int (-i)) (eVar 3)) (eVar 4)) aNil)))) sNext)
  (sRet (eCall (m_lowest A) (aCons (eOp (oC CMulW fun i j => .int (i * j)) (eVar 2) (eVar 5)) (aCons (eOp (oC CMulW fun i j => .int (i * j)) (eVar 3) (eVar 4)) aNil))))))))
def m_over (A : Str → Addr) : Mn := runF 2 6 (f_over A)
def f_plus (A : Str → Addr) : SF :=
  (sSeq (sAsgT (bRow [(bName 2), (bName 3)]) (eCall (m_ratio_of A) (aCons (eVar 0) aNil)))
  (sSeq (sAsgT (bRow [(bName 4), (bName 5)]) (eCall (m_ratio_of A) (aCons (eVar 1) aNil)))
  (sRet (eCall (m_lowest A) (aCons (eOp (oI fun i j => .int (i + j)) (eOp (oC CMulW fun i j => .int (i * j)) (eVar 2) (eVar 5)) (eOp (oC CMulW fun i j => .int (i * j)) (eVar 4) (eVar 3))) (aCons (eOp (oC CMulW fun i j => .int (i * j)) (eVar 3) (eVar 5)) aNil))))))
def m_plus (A : Str → Addr) : Mn := runF 2 6 (f_plus A)
def f_double_at (A : Str → Addr) : SF :=
  (sSeq (sPar [3, 4, 5] (aCons (eCall (m_times A) (aCons (eVar 0) (aCons (eVar 0) aNil))) (aCons (eCall (m_times A) (aCons (eVar 1) (aCons (eVar 1) aNil))) (aCons (eCall (m_times A) (aCons (eVar 2) (aCons (eVar 2) aNil))) aNil))))
  (sSeq (sAsg 6 (eCall (m_times A) (aCons (eCon (.int 2)) (aCons (eCall (m_times A) (aCons (eCall (m_times A) (aCons (eVar 0) (aCons (eVar 1) aNil))) (aCons (eCall (m_minus A) (aCons (eCon (.int 1)) (aCons (eVar 5) aNil))) aNil))) aNil))))
  (sRet (eCall (m_over A) (aCons (eVar 6) (aCons (eCall (m_minus A) (aCons (eCall (m_plus A) (aCons (eCon (.int 1)) (aCons (eCall (m_times A) (aCons (eVar 3) (aCons (eVar 4) aNil))) aNil))) (aCons (eCall (m_times A) (aCons (eVar 5) (aCons (eCall (m_plus A) (aCons (eVar 3) (aCons (eVar 4) aNil))) aNil))) aNil))) aNil))))))
def m_double_at (A : Str → Addr) : Mn := runF 3 7 (f_double_at A)
def f_triangle_doubles (A : Str → Addr) : SF :=
  (sSeq (sPar [3, 4, 5] (aCons (eCall (m_pull_of A) (aCons (eVar 0) aNil)) (aCons (eCall (m_pull_of A) (aCons (eVar 1) aNil)) (aCons (eCall (m_pull_of A) (aCons (eVar 2) aNil)) aNil))))
  (sRet (eTup (aCons (eCall (m_double_at A) (aCons (eVar 3) (aCons (eVar 4) (aCons (eVar 5) aNil)))) (aCons (eCall (m_double_at A) (aCons (eVar 3) (aCons (eVar 5) (aCons (eVar 4) aNil)))) (aCons (eCall (m_double_at A) (aCons (eVar 4) (aCons (eVar 5) (aCons (eVar 3) aNil)))) aNil))))))
def m_triangle_doubles (A : Str → Addr) : Mn := runF 3 6 (f_triangle_doubles A)
def f_double_pull (A : Str → Addr) : SF :=
  (sSeq (sAsg 1 (eCall (m_pull_of A) (aCons (eVar 0) aNil)))
  (sRet (eCall (m_over A) (aCons (eCall (m_times A) (aCons (eCon (.int 2)) (aCons (eVar 1) aNil))) (aCons (eCall (m_plus A) (aCons (eCon (.int 1)) (aCons (eCall (m_times A) (aCons (eVar 1) (aCons (eVar 1) aNil))) aNil))) aNil)))))
def m_double_pull (A : Str → Addr) : Mn := runF 1 2 (f_double_pull A)
def f_square_of_double (A : Str → Addr) : SF :=
  (sSeq (sAsg 1 (eCall (m_pull_of A) (aCons (eVar 0) aNil)))
  (sRet (eCall (m_over A) (aCons (eCall (m_plus A) (aCons (eCon (.int 1)) (aCons (eVar 1) aNil))) (aCons (eCall (m_minus A) (aCons (eCon (.int 1)) (aCons (eVar 1) aNil))) aNil)))))
def m_square_of_double (A : Str → Addr) : Mn := runF 1 2 (f_square_of_double A)
def f_l_told (A : Str → Addr) : SF :=
  (sSeq (sAsg 2 (eNew (nLst (aCons (eCon (.str "none")) (aCons (eCon (.int 0)) aNil)))))
  (sSeq (sTry exmT (sIf (tOf (eOp oEq (eVar 0) (eCon (.str "means")))) (sAsg 2 (eNew (nLst (aCons (eCon (.str "fine")) (aCons (eCall (m_star_means A) (aCons (eIx (eVar 1) (eCon (.int 0))) (aCons (eIx (eVar 1) (eCon (.int 1))) (aCons (eIx (eVar 1) (eCon (.int 2))) aNil)))) aNil))))) (sIf (tOf (eOp oEq (eVar 0) (eCon (.str "doubles")))) (sAsg 2 (eNew (nLst (aCons (eCon (.str "fine")) (aCons (eCall (m_triangle_doubles A) (aCons (eIx (eVar 1) (eCon (.int 0))) (aCons (eIx (eVar 1) (eCon (.int 1))) (aCons (eIx (eVar 1) (eCon (.int 2))) aNil)))) aNil))))) (sIf (tOf (eOp oEq (eVar 0) (eCon (.str "double")))) (sAsg 2 (eNew (nLst (aCons (eCon (.str "fine")) (aCons (eCall (m_double_pull A) (aCons (eIx (eVar 1) (eCon (.int 0))) aNil)) aNil))))) (sAsg 2 (eNew (nLst (aCons (eCon (.str "fine")) (aCons (eCall (m_square_of_double A) (aCons (eIx (eVar 1) (eCon (.int 0))) aNil)) aNil)))))))) [("BadRatio", (sAsg 2 (eNew (nLst (aCons (eCon (.str "ratio")) (aCons (eCon (.int 0)) aNil))))))])
  (sRet (eVar 2))))
def m_l_told (A : Str → Addr) : Mn := runF 2 3 (f_l_told A)
def f_l_refused (A : Str → Addr) : SF :=
  (sSeq (sFor (iRow (eNew (nLst (aCons (eCon (.int 1)) (aCons (eUn (fun i => .int (-i)) (eCon (.int 1))) (aCons (eTup (aCons (eCon (.int 4)) (aCons (eCon (.int 3)) aNil))) (aCons (eTup (aCons (eCon (.int 2)) (aCons (eCon (.int 2)) aNil))) (aCons (eTup (aCons (eUn (fun i => .int (-i)) (eCon (.int 7))) (aCons (eCon (.int 6)) aNil))) (aCons (eTup (aCons (eCon (.int 1)) (aCons (eCon (.int 0)) aNil))) (aCons (eTup (aCons (eCon (.int 1)) (aCons (eUn (fun i => .int (-i)) (eCon (.int 2))) aNil))) (aCons (eTup (aCons (eCon (.bl true)) (aCons (eCon (.int 2)) aNil))) (aCons (eCon (.bl false)) (aCons (eCon (.str "0")) (aCons (eCon .non) (aCons (eTup (aCons (eCon (.int 1)) (aCons (eCon (.int 2)) (aCons (eCon (.int 3)) aNil)))) aNil))))))))))))))) (bName 1) (sSeq (sIf (fOr (tOf (eOp (oEqD true) (eCall (m_l_told A) (aCons (eCon (.str "double")) (aCons (eNew (nLst (aCons (eVar 1) aNil))) aNil))) (eNew (nLst (aCons (eCon (.str "ratio")) (aCons (eCon (.int 0)) aNil)))))) (tOf (eOp (oEqD true) (eCall (m_l_told A) (aCons (eCon (.str "square")) (aCons (eNew (nLst (aCons (eVar 1) aNil))) aNil))) (eNew (nLst (aCons (eCon (.str "ratio")) (aCons (eCon (.int 0)) aNil))))))) (sRet (eCon (.bl false))) sNext)
  (sFor (iRow (eNew (nLst (aCons (eCon (.str "means")) (aCons (eCon (.str "doubles")) aNil))))) (bName 2) (sFor (iArgs rng1G (aCons (eCon (.int 3)) aNil)) (bName 3) (sIf (tOf (eOp (oEqD true) (eCall (m_l_told A) (aCons (eVar 2) (aCons (eNew (nCat (eNew (nCat (eNew (nSl (eVar 0) pNone (pSome (eVar 3)))) (eNew (nLst (aCons (eVar 1) aNil))))) (eNew (nSl (eVar 0) (pSome (eOp (oI fun i j => .int (i + j)) (eVar 3) (eCon (.int 1)))) pNone)))) aNil))) (eNew (nLst (aCons (eCon (.str "ratio")) (aCons (eCon (.int 0)) aNil)))))) (sRet (eCon (.bl false))) sNext)))))
  (sRet (eCon (.bl true))))
def m_l_refused (A : Str → Addr) : Mn := runF 1 4 (f_l_refused A)
def f_l_no (A : Str → Addr) : SF :=
  (sRet (eOp (oC (fun _ j => j ≠ 0) fun i j => .int (i.fmod j)) (eCB cInt (aCons (eOp (oC (fun _ j => 0 ≤ j) fun i j => .int (i / 2 ^ j.toNat)) (eVar 1) (eOp (oI fun i j => .int (i - j)) (eOp (oI fun i j => .int (i - j)) (eVar 0) (eCon (.int 1))) (eVar 2))) aNil)) (eCon (.int 2))))
def m_l_no (A : Str → Addr) : Mn := runF 3 3 (f_l_no A)
def f_l_weights (A : Str → Addr) : SF :=
  (sSeq (sAsgN 2 (nLc (iArgs rng1G (aCons (eOp (oC CPow fun i j => .int (i * 2 ^ j.toNat)) (eCon (.int 1)) (eVar 0)) aNil)) (bName 7) tTrue (eCon (.int 1)) [7]))
  (sSeq (sAsg 3 (eCon (.int 1)))
  (sSeq (sFor (iRow (eVar 1)) (bName 4) (sSeq (sAsg 5 (eIx (eIx (eVar 4) (eCon (.int 2))) (eCon (.int 0))))
  (sSeq (sAsg 6 (eIx (eIx (eVar 4) (eCon (.int 2))) (eCon (.int 1))))
  (sSeq (sAsg 3 (eOp (oC CMulW fun i j => .int (i * j)) (eVar 3) (eVar 6)))
  (sFor (iArgs rng1G (aCons (eOp (oC CPow fun i j => .int (i * 2 ^ j.toNat)) (eCon (.int 1)) (eVar 0)) aNil)) (bName 7) (sIf (tOf (eOp (oEqD false) (eCall (m_l_no A) (aCons (eVar 0) (aCons (eVar 7) (aCons (eIx (eVar 4) (eCon (.int 0))) aNil)))) (eCall (m_l_no A) (aCons (eVar 0) (aCons (eVar 7) (aCons (eIx (eVar 4) (eCon (.int 1))) aNil)))))) (sSetL 2 (eVar 7) (eOp (oC CMulW fun i j => .int (i * j)) (eIx (eVar 2) (eVar 7)) (eOp (oI fun i j => .int (i + j)) (eVar 6) (eVar 5)))) (sSetL 2 (eVar 7) (eOp (oC CMulW fun i j => .int (i * j)) (eIx (eVar 2) (eVar 7)) (eOp (oI fun i j => .int (i - j)) (eVar 6) (eVar 5))))))))))
  (sFrz 2 (sRet (eNew (nLst (aCons (eVar 2) (aCons (eVar 3) aNil)))))))))
def m_l_weights (A : Str → Addr) : Mn := runF 2 8 (f_l_weights A)
def f_l_star_boxes (A : Str → Addr) : SF :=
  (sSeq (sAsg 1 (eNew (nLc (iArgs rng1G (aCons (eCon (.int 3)) aNil)) (bName 6) tTrue (eTup (aCons (eCon (.int 0)) (aCons (eOp (oI fun i j => .int (i + j)) (eVar 6) (eCon (.int 1))) (aCons (eIx (eVar 0) (eVar 6)) aNil)))) [6])))
  (sSeq (sAsg 2 (eIx (eCall (m_l_weights A) (aCons (eCon (.int 4)) (aCons (eVar 1) aNil))) (eCon (.int 0))))
  (sSeq (sAsg 3 (eNew (nLc (iArgs rng1G (aCons (eCon (.int 8)) aNil)) (bName 7) tTrue (eOp (oI fun i j => .int (i + j)) (eIx (eVar 2) (eVar 7)) (eIx (eVar 2) (eOp (oI fun i j => .int (i + j)) (eVar 7) (eCon (.int 8))))) [7])))
  (sSeq (sAsgN 4 (nLst aNil))
  (sSeq (sFor (iRow (eNew (nLst (aCons (eTup (aCons (eCon (.int 4)) (aCons (eCon (.int 2)) aNil))) (aCons (eTup (aCons (eCon (.int 4)) (aCons (eCon (.int 1)) aNil))) (aCons (eTup (aCons (eCon (.int 2)) (aCons (eCon (.int 1)) aNil))) aNil)))))) (bName 5) (sApp 4 (eTup (aCons (eOp (oC CMulW fun i j => .int (i * j)) (eIx (eVar 3) (eCon (.int 0))) (eIx (eVar 3) (eOp (oI fun i j => .int (i + j)) (eIx (eVar 5) (eCon (.int 0))) (eIx (eVar 5) (eCon (.int 1)))))) (aCons (eOp (oC CMulW fun i j => .int (i * j)) (eIx (eVar 3) (eIx (eVar 5) (eCon (.int 0)))) (eIx (eVar 3) (eIx (eVar 5) (eCon (.int 1))))) aNil)))))
  (sRet (eVar 4)))))))
def m_l_star_boxes (A : Str → Addr) : Mm := runN 1 8 (f_l_star_boxes A)
def f_l_int (A : Str → Addr) : SF :=
  (sRet (eAnd (eCB cIs (aCons (eVar 0) (aCons (eCon (.ty "int")) aNil))) (eNot (eCB cIs (aCons (eVar 0) (aCons (eCon (.ty "bool")) aNil))))))
def m_l_int (A : Str → Addr) : Mn := runF 1 1 (f_l_int A)
def f_l_common (A : Str → Addr) : SF :=
  (sSeq (sAsg 2 (eCB (cI1 fun i => if i < 0 then -i else i) (aCons (eVar 0) aNil)))
  (sSeq (sAsg 3 (eCB (cI1 fun i => if i < 0 then -i else i) (aCons (eVar 1) aNil)))
  (sSeq (sFor (iArgs rng1G (aCons (eOp (oI fun i j => .int (i + j)) (eOp (oC CMulW fun i j => .int (i * j)) (eCon (.int 5)) (eCB cLenStr (aCons (eCB cStr (aCons (eVar 3) aNil)) aNil))) (eCon (.int 6))) aNil)) (bName 4) (sIf (tOf (eOp (oI fun i j => .bl (decide (j < i))) (eVar 3) (eCon (.int 0)))) (sSeq (sAsg 5 (eOp (oC (fun _ j => j ≠ 0) fun i j => .int (i.fmod j)) (eCB cInt (aCons (eVar 2) aNil)) (eVar 3)))
  (sSeq (sAsg 2 (eVar 3))
  (sAsg 3 (eVar 5)))) sNext))
  (sRet (eVar 2)))))
def m_l_common (A : Str → Addr) : Mn := runF 2 6 (f_l_common A)
def f_l_ratio (A : Str → Addr) : SF :=
  (sSeq (sIf (fOr (fNot (tOf (eCB cIs (aCons (eVar 0) (aCons (eCon (.ty "tuple")) aNil))))) (tOf (eOp oNe (eCB cLen (aCons (eVar 0) aNil)) (eCon (.int 2))))) (sRet (eCon (.bl false))) sNext)
  (sSeq (sIf (fOr (fNot (tOf (eCall (m_l_int A) (aCons (eIx (eVar 0) (eCon (.int 0))) aNil)))) (fOr (fNot (tOf (eCall (m_l_int A) (aCons (eIx (eVar 0) (eCon (.int 1))) aNil)))) (tOf (eOp (oI fun i j => .bl (decide (i < j))) (eIx (eVar 0) (eCon (.int 1))) (eCon (.int 1)))))) (sRet (eCon (.bl false))) sNext)
  (sRet (eOp oEq (eCall (m_l_common A) (aCons (eIx (eVar 0) (eCon (.int 0))) (aCons (eIx (eVar 0) (eCon (.int 1))) aNil))) (eCon (.int 1))))))
def m_l_ratio (A : Str → Addr) : Mn := runF 1 1 (f_l_ratio A)
def f_l_is (A : Str → Addr) : SF :=
  (sRet (eAnd (eCall (m_l_ratio A) (aCons (eVar 0) aNil)) (eOp oEq (eOp (oC CMulW fun i j => .int (i * j)) (eIx (eVar 0) (eCon (.int 0))) (eIx (eVar 1) (eCon (.int 1)))) (eOp (oC CMulW fun i j => .int (i * j)) (eIx (eVar 1) (eCon (.int 0))) (eIx (eVar 0) (eCon (.int 1)))))))
def m_l_is (A : Str → Addr) : Mn := runF 2 2 (f_l_is A)
def f_l_three_are (A : Str → Addr) : SF :=
  (sSeq (sIf (fOr (fNot (tOf (eCB cIs (aCons (eVar 0) (aCons (eCon (.ty "tuple")) aNil))))) (tOf (eOp oNe (eCB cLen (aCons (eVar 0) aNil)) (eCon (.int 3))))) (sRet (eCon (.bl false))) sNext)
  (sRet (eCB cAll (aCons (eNew (nLc (iArgs rng1G (aCons (eCon (.int 3)) aNil)) (bName 2) tTrue (eCall (m_l_is A) (aCons (eIx (eVar 0) (eVar 2)) (aCons (eIx (eVar 1) (eVar 2)) aNil))) [2])) aNil))))
def m_l_three_are (A : Str → Addr) : Mn := runF 2 3 (f_l_three_are A)
def f_l_times (A : Str → Addr) : SF :=
  (sRet (eTup (aCons (eOp (oC CMulW fun i j => .int (i * j)) (eIx (eVar 0) (eCon (.int 0))) (eIx (eVar 1) (eCon (.int 0)))) (aCons (eOp (oC CMulW fun i j => .int (i * j)) (eIx (eVar 0) (eCon (.int 1))) (eIx (eVar 1) (eCon (.int 1)))) aNil))))
def m_l_times (A : Str → Addr) : Mn := runF 2 2 (f_l_times A)
def f_over_common (A : Str → Addr) : SF :=
  (sSeq (sAsg 1 (eCon (.int 1)))
  (sSeq (sFor (iRow (eVar 0)) (bName 2) (sAsg 1 (eCB cLcm (aCons (eVar 1) (aCons (eIx (eVar 2) (eCon (.int 1))) aNil)))))
  (sRet (eTup (aCons (eNew (nLc (iRow (eVar 0)) (bRow [(bName 3), (bName 4)]) tTrue (eOp (oC CMulW fun i j => .int (i * j)) (eVar 3) (eOp (oC CDivW fun i j => .int (i / j)) (eVar 1) (eVar 4))) [3, 4])) (aCons (eVar 1) aNil))))))
def m_over_common (A : Str → Addr) : Mn := runF 1 5 (f_over_common A)
def f_sum_of (A : Str → Addr) : SF :=
  (sSeq (sAsgT (bRow [(bName 1), (bName 2)]) (eCall (m_over_common A) (aCons (eVar 0) aNil)))
  (sRet (eCall (m_lowest A) (aCons (eCB cSum (aCons (eVar 1) aNil)) (aCons (eVar 2) aNil)))))
def m_sum_of (A : Str → Addr) : Mn := runF 1 3 (f_sum_of A)
def f_sums_of_three (A : Str → Addr) : SF :=
  (sSeq (sAsg 3 (eTup (aCons (eTup (aCons (eCon (.int 1)) (aCons (eCon (.int 1)) (aCons (eCon (.int 1)) aNil)))) (aCons (eTup (aCons (eCon (.int 1)) (aCons (eUn (fun i => .int (-i)) (eCon (.int 1))) (aCons (eUn (fun i => .int (-i)) (eCon (.int 1))) aNil)))) (aCons (eTup (aCons (eUn (fun i => .int (-i)) (eCon (.int 1))) (aCons (eCon (.int 1)) (aCons (eUn (fun i => .int (-i)) (eCon (.int 1))) aNil)))) (aCons (eTup (aCons (eUn (fun i => .int (-i)) (eCon (.int 1))) (aCons (eUn (fun i => .int (-i)) (eCon (.int 1))) (aCons (eCon (.int 1)) aNil)))) aNil))))))
  (sRet (eNew (nLc (iRow (eVar 3)) (bRow [(bName 4), (bName 5), (bName 6)]) tTrue (eCall (m_sum_of A) (aCons (eNew (nLst (aCons (eTup (aCons (eCon (.int 1)) (aCons (eCon (.int 1)) aNil))) (aCons (eCall (m_times A) (aCons (eVar 4) (aCons (eVar 0) aNil))) (aCons (eCall (m_times A) (aCons (eVar 5) (aCons (eVar 1) aNil))) (aCons (eCall (m_times A) (aCons (eVar 6) (aCons (eVar 2) aNil))) aNil)))))) aNil)) [4, 5, 6]))))
def m_sums_of_three (A : Str → Addr) : Mn := runF 3 7 (f_sums_of_three A)
def f_sign_of (A : Str → Addr) : SF :=
  (sSeq (sAsg 1 (eIx (eCall (m_ratio_of A) (aCons (eVar 0) aNil)) (eCon (.int 0))))
  (sSeq (sIf (tOf (eOp oEq (eVar 1) (eCon (.int 0)))) (sRet (eCon (.int 0))) sNext)
  (sRet (eIf (tOf (eOp (oI fun i j => .bl (decide (j < i))) (eVar 1) (eCon (.int 0)))) (eCon (.int 1)) (eUn (fun i => .int (-i)) (eCon (.int 1)))))))
def m_sign_of (A : Str → Addr) : Mn := runF 1 2 (f_sign_of A)
def f_sums_above (A : Str → Addr) : SF :=
  (sSeq (sAsg 3 (eCall (m_sums_of_three A) (aCons (eCall (m_ratio_of A) (aCons (eVar 0) aNil)) (aCons (eCall (m_ratio_of A) (aCons (eVar 1) aNil)) (aCons (eCall (m_ratio_of A) (aCons (eVar 2) aNil)) aNil)))))
  (sSeq (sFor (iArgs enumG (aCons (eVar 3) aNil)) (bRow [(bName 4), (bName 5)]) (sIf (tOf (eOp (oI fun i j => .bl (decide (i ≤ j))) (eCall (m_sign_of A) (aCons (eVar 5) aNil)) (eCon (.int 0)))) sNo sNext))
  (sRet (eVar 3))))
def m_sums_above (A : Str → Addr) : Mn := runF 3 6 (f_sums_above A)
def f_triangle_squares (A : Str → Addr) : SF :=
  (sSeq (sAsgT (bRow [(bName 3), (bName 4), (bName 5), (bName 6)]) (eCall (m_sums_above A) (aCons (eVar 0) (aCons (eVar 1) (aCons (eVar 2) aNil)))))
  (sRet (eTup (aCons (eCall (m_over A) (aCons (eCall (m_times A) (aCons (eVar 3) (aCons (eVar 4) aNil))) (aCons (eCall (m_times A) (aCons (eVar 5) (aCons (eVar 6) aNil))) aNil))) (aCons (eCall (m_over A) (aCons (eCall (m_times A) (aCons (eVar 3) (aCons (eVar 5) aNil))) (aCons (eCall (m_times A) (aCons (eVar 4) (aCons (eVar 6) aNil))) aNil))) (aCons (eCall (m_over A) (aCons (eCall (m_times A) (aCons (eVar 3) (aCons (eVar 6) aNil))) (aCons (eCall (m_times A) (aCons (eVar 4) (aCons (eVar 5) aNil))) aNil))) aNil))))))
def m_triangle_squares (A : Str → Addr) : Mn := runF 3 7 (f_triangle_squares A)
def f_count_of (A : Str → Addr) : SF :=
  (sSeq (sIf (fOr (fNot (tOf (eCall (m_is_integer A) (aCons (eVar 0) aNil)))) (tOf (eOp (oI fun i j => .bl (decide (i < j))) (eVar 0) (eCon (.int 1))))) (sRaise "BadCount") sNext)
  (sSeq (sIf (tOf (eOp (oI fun i j => .bl (decide (j < i))) (eVar 0) (eVar 1))) sNo sNext)
  (sRet (eCB cInt (aCons (eVar 0) aNil)))))
def m_count_of (A : Str → Addr) : Mn := runF 2 2 (f_count_of A)
def f_is_place (A : Str → Addr) : SF :=
  (sRet (eAnd (eCall (m_is_integer A) (aCons (eVar 0) aNil)) (eChain (oI fun i j => .bl (decide (i ≤ j))) (oI fun i j => .bl (decide (i < j))) (eCon (.int 0)) (eVar 0) (eVar 1))))
def m_is_place (A : Str → Addr) : Mn := runF 2 2 (f_is_place A)
def f_tie_of (A : Str → Addr) : SF :=
  (sSeq (sIf (fOr (fNot (tOf (eCall (m_is_row A) (aCons (eVar 1) aNil)))) (tOf (eOp oNe (eCB cLen (aCons (eVar 1) aNil)) (eCon (.int 3))))) sNo sNext)
  (sSeq (sAsgT (bRow [(bName 3), (bName 4), (bName 5)]) (eVar 1))
  (sSeq (sIf (fOr (fNot (tOf (eCall (m_is_place A) (aCons (eVar 3) (aCons (eVar 2) aNil))))) (fOr (fNot (tOf (eCall (m_is_place A) (aCons (eVar 4) (aCons (eVar 2) aNil))))) (fNot (tOf (eCall (m_is_ratio A) (aCons (eVar 5) aNil)))))) sNo sNext)
  (sSeq (sAsgT (bRow [(bName 6), (bName 7)]) (eCall (m_ratio_of A) (aCons (eVar 5) aNil)))
  (sSeq (sIf (tOf (eOp (oI fun i j => .bl (decide (j ≤ i))) (eCB (cI1 fun i => if i < 0 then -i else i) (aCons (eVar 6) aNil)) (eVar 7))) sNo sNext)
  (sRet (eTup (aCons (eCB cInt (aCons (eVar 3) aNil)) (aCons (eCB cInt (aCons (eVar 4) aNil)) (aCons (eTup (aCons (eVar 6) (aCons (eVar 7) aNil))) aNil))))))))))
def m_tie_of (A : Str → Addr) : Mn := runF 3 8 (f_tie_of A)
def f_ties_of (A : Str → Addr) : SF :=
  (sSeq (sIf (fNot (tOf (eCall (m_is_row A) (aCons (eVar 0) aNil)))) sNo sNext)
  (sSeq (sIf (tOf (eOp (oI fun i j => .bl (decide (j < i))) (eCB cLen (aCons (eVar 0) aNil)) (eVar 2))) sNo sNext)
  (sRet (eCB cTup (aCons (eNew (nLc (iArgs enumG (aCons (eVar 0) aNil)) (bRow [(bName 3), (bName 4)]) tTrue (eCall (m_tie_of A) (aCons (eVar 3) (aCons (eVar 4) (aCons (eVar 1) aNil)))) [3, 4])) aNil)))))
def m_ties_of (A : Str → Addr) : Mn := runF 3 5 (f_ties_of A)
def f_Web_init (A : Str → Addr) : SF :=
  (sSeq (sSetF A "Web" "many" (eVar 0) (eCall (m_count_of A) (aCons (eVar 1) (aCons (eConst A "Web" "most_places" (.int 10) (eVar 0)) aNil))))
  (sSetF A "Web" "ties" (eVar 0) (eCall (m_ties_of A) (aCons (eVar 2) (aCons (eFld A ["Web"] "many" (eVar 0)) (aCons (eConst A "Web" "most_ties" (.int 10) (eVar 0)) aNil))))))
def m_Web_init (A : Str → Addr) : Mn := runF 3 3 (f_Web_init A)
def f_pairs_of (A : Str → Addr) : SF :=
  (sRet (eNew (nLc2 (iArgs rng1G (aCons (eVar 0) aNil)) (bName 1) tTrue (iArgs rng2G (aCons (eOp (oI fun i j => .int (i + j)) (eVar 1) (eCon (.int 1))) (aCons (eVar 0) aNil))) (bName 2) tTrue (eTup (aCons (eVar 1) (aCons (eVar 2) aNil))) [1, 2] [2])))
def m_pairs_of (A : Str → Addr) : Mn := runF 1 3 (f_pairs_of A)
def f_is_saying (A : Str → Addr) : SF :=
  (sSeq (sIf (fOr (fNot (tOf (eCall (m_is_row A) (aCons (eVar 0) aNil)))) (fNot (tOf (eChain (oI fun i j => .bl (decide (i ≤ j))) (oI fun i j => .bl (decide (i ≤ j))) (eVar 1) (eCB cLen (aCons (eVar 0) aNil)) (eVar 2))))) (sRet (eCon (.bl false))) sNext)
  (sRet (eCB cAll (aCons (eNew (nLc (iRow (eVar 0)) (bName 3) tTrue (eAnd (eCall (m_is_integer A) (aCons (eVar 3) aNil)) (eOp (oIn false) (eVar 3) (eTup (aCons (eCon (.int 1)) (aCons (eUn (fun i => .int (-i)) (eCon (.int 1))) aNil))))) [3])) aNil))))
def m_is_saying (A : Str → Addr) : Mn := runF 3 4 (f_is_saying A)
def f_saying_of (A : Str → Addr) : SF :=
  (sSeq (sAsg 2 (eCall (m_count_of A) (aCons (eVar 1) (aCons (eCon (.int 10)) aNil))))
  (sSeq (sIf (fNot (tOf (eCall (m_is_saying A) (aCons (eVar 0) (aCons (eVar 2) (aCons (eVar 2) aNil)))))) (sRaise "BadSaying") sNext)
  (sRet (eCB cTup (aCons (eNew (nLc (iRow (eVar 0)) (bName 3) tTrue (eCB cInt (aCons (eVar 3) aNil)) [3])) aNil)))))
def m_saying_of (A : Str → Addr) : Mn := runF 2 4 (f_saying_of A)
def f_changed (A : Str → Addr) : SF :=
  (sRet (eCB cTup (aCons (eNew (nLc (iArgs enumG (aCons (eVar 0) aNil)) (bRow [(bName 2), (bName 3)]) tTrue (eIf (tOf (eOp (oIn false) (eVar 2) (eVar 1))) (eUn (fun i => .int (-i)) (eVar 3)) (eVar 3)) [2, 3])) aNil)))
def m_changed (A : Str → Addr) : Mn := runF 2 4 (f_changed A)
def f_index_of_no (A : Str → Addr) : SF :=
  (sRet (eCB cSum (aCons (eNew (nLc (iRow (eVar 0)) (bName 2) tTrue (eOp (oC CPow fun i j => .int (i * 2 ^ j.toNat)) (eCon (.int 1)) (eOp (oI fun i j => .int (i - j)) (eOp (oI fun i j => .int (i - j)) (eVar 1) (eCon (.int 1))) (eVar 2))) [2])) aNil)))
def m_index_of_no (A : Str → Addr) : Mn := runF 2 3 (f_index_of_no A)
def f_index_of (A : Str → Addr) : SF :=
  (sRet (eCall (m_index_of_no A) (aCons (eNew (nLc (iArgs enumG (aCons (eVar 0) aNil)) (bRow [(bName 1), (bName 2)]) (tCalm (tOf (eOp oEq (eVar 2) (eUn (fun i => .int (-i)) (eCon (.int 1)))))) (eVar 1) [1, 2])) (aCons (eCB cLen (aCons (eVar 0) aNil)) aNil))))
def m_index_of (A : Str → Addr) : Mn := runF 1 3 (f_index_of A)
def f_Spread_chance (A : Str → Addr) : SF :=
  (sRet (eIx (eFld A ["Spread"] "rows" (eVar 0)) (eCall (m_index_of A) (aCons (eCall (m_saying_of A) (aCons (eVar 1) (aCons (eFld A ["Spread"] "many" (eVar 0)) aNil))) aNil))))
def m_Spread_chance (A : Str → Addr) : Mn := runF 2 2 (f_Spread_chance A)
def f_Spread_box (A : Str → Addr) : SF :=
  (sSeq (sIf (fOr (fNot (tOf (eCall (m_is_place A) (aCons (eVar 1) (aCons (eFld A ["Spread"] "many" (eVar 0)) aNil))))) (fOr (fNot (tOf (eCall (m_is_place A) (aCons (eVar 2) (aCons (eFld A ["Spread"] "many" (eVar 0)) aNil))))) (tOf (eOp (oEqD false) (eVar 1) (eVar 2))))) (sRaise "BadPlace") sNext)
  (sSeq (sAsg 4 (eCall (m_saying_of A) (aCons (eVar 3) (aCons (eFld A ["Spread"] "many" (eVar 0)) aNil))))
  (sSeq (sIf (tOf (eOp (oEqD true) (eIx (eVar 4) (eVar 1)) (eIx (eVar 4) (eVar 2)))) (sAsg 4 (eCall (m_changed A) (aCons (eVar 4) (aCons (eTup (aCons (eVar 2) aNil)) aNil)))) sNext)
  (sSeq (sAsg 5 (eCall (m_times A) (aCons (eMeth A "Spread" "chance" (m_Spread_chance A) (eVar 0) (aCons (eVar 4) aNil)) (aCons (eMeth A "Spread" "chance" (m_Spread_chance A) (eVar 0) (aCons (eCall (m_changed A) (aCons (eVar 4) (aCons (eTup (aCons (eVar 1) (aCons (eVar 2) aNil))) aNil))) aNil)) aNil))))
  (sSeq (sAsg 6 (eCall (m_times A) (aCons (eMeth A "Spread" "chance" (m_Spread_chance A) (eVar 0) (aCons (eCall (m_changed A) (aCons (eVar 4) (aCons (eTup (aCons (eVar 1) aNil)) aNil))) aNil)) (aCons (eMeth A "Spread" "chance" (m_Spread_chance A) (eVar 0) (aCons (eCall (m_changed A) (aCons (eVar 4) (aCons (eTup (aCons (eVar 2) aNil)) aNil))) aNil)) aNil))))
  (sRet (eCall (m_over A) (aCons (eVar 5) (aCons (eVar 6) aNil)))))))))
def m_Spread_box (A : Str → Addr) : Mn := runF 4 7 (f_Spread_box A)
def f_sayings (A : Str → Addr) : SF :=
  (sSeq (sAsg 1 (eCall (m_count_of A) (aCons (eVar 0) (aCons (eCon (.int 10)) aNil))))
  (sSeq (sAsg 2 (eNew (nLst (aCons (eTup aNil) aNil))))
  (sSeq (sFor (iArgs rng1G (aCons (eVar 1) aNil)) (bName 3) (sAsg 2 (eNew (nLc2 (iRow (eVar 2)) (bName 4) tTrue (iRow (eTup (aCons (eCon (.int 1)) (aCons (eUn (fun i => .int (-i)) (eCon (.int 1))) aNil)))) (bName 5) tTrue (eOp oCatT (eVar 4) (eTup (aCons (eVar 5) aNil))) [4, 5] [5]))))
  (sRet (eVar 2)))))
def m_sayings (A : Str → Addr) : Mn := runF 1 6 (f_sayings A)
def f_unlike_saying (A : Str → Addr) : SF :=
  (sSeq (sAsg 3 (eMeth A "Spread" "box" (m_Spread_box A) (eVar 0) (aCons (eVar 1) (aCons (eVar 2) (aCons (eNew (nLc (iArgs rng1G (aCons (eFld A ["Web", "Spread"] "many" (eVar 0)) aNil)) (bName 5) tTrue (eCon (.int 1)) [5])) aNil)))))
  (sSeq (sFor (iRow (eCall (m_sayings A) (aCons (eFld A ["Web", "Spread"] "many" (eVar 0)) aNil))) (bName 4) (sIf (fAnd (tOf (eOp oEq (eIx (eVar 4) (eVar 1)) (eCon (.int 1)))) (fAnd (tOf (eOp oEq (eIx (eVar 4) (eVar 2)) (eCon (.int 1)))) (tOf (eOp (oEqD true) (eMeth A "Spread" "box" (m_Spread_box A) (eVar 0) (aCons (eVar 1) (aCons (eVar 2) (aCons (eVar 4) aNil)))) (eVar 3))))) (sRet (eVar 4)) sNext))
  (sRet (eCon .non))))
def m_unlike_saying (A : Str → Addr) : Mn := runF 3 6 (f_unlike_saying A)
def f_unlike_boxes (A : Str → Addr) : SF :=
  (sSeq (sFor (iRow (eCall (m_pairs_of A) (aCons (eFld A ["Web", "Spread"] "many" (eVar 0)) aNil))) (bRow [(bName 1), (bName 2)]) (sSeq (sAsg 3 (eCall (m_unlike_saying A) (aCons (eVar 0) (aCons (eVar 1) (aCons (eVar 2) aNil)))))
  (sIf (tOf (eOp oNotN (eVar 3) (eCon .non))) (sRet (eTup (aCons (eVar 1) (aCons (eVar 2) (aCons (eCB cTup (aCons (eNew (nLc (iArgs rng1G (aCons (eFld A ["Web", "Spread"] "many" (eVar 0)) aNil)) (bName 4) tTrue (eCon (.int 1)) [4])) aNil)) (aCons (eVar 3) aNil)))))) sNext)))
  (sRet (eCon .non)))
def m_unlike_boxes (A : Str → Addr) : Mn := runF 1 5 (f_unlike_boxes A)
def f_squares (A : Str → Addr) : SF :=
  (sSeq (sAsg 1 (eCall (m_unlike_boxes A) (aCons (eVar 0) aNil)))
  (sSeq (sIf (tOf (eOp oNotN (eVar 1) (eCon .non))) sNo sNext)
  (sSeq (sAsg 2 (eNew (nLc (iArgs rng1G (aCons (eFld A ["Web", "Spread"] "many" (eVar 0)) aNil)) (bName 3) tTrue (eCon (.int 1)) [3])))
  (sRet (eCB cTup (aCons (eNew (nLc (iRow (eCall (m_pairs_of A) (aCons (eFld A ["Web", "Spread"] "many" (eVar 0)) aNil))) (bRow [(bName 4), (bName 5)]) tTrue (eTup (aCons (eTup (aCons (eVar 4) (aCons (eVar 5) aNil))) (aCons (eMeth A "Spread" "box" (m_Spread_box A) (eVar 0) (aCons (eVar 4) (aCons (eVar 5) (aCons (eVar 2) aNil)))) aNil))) [4, 5])) aNil))))))
def m_squares (A : Str → Addr) : Mn := runF 1 6 (f_squares A)
def f_signs_of (A : Str → Addr) : SF :=
  (sSeq (sAsg 2 (eNew (nLst (aCons (eCon (.int 1)) aNil))))
  (sSeq (sFor (iArgs rng1G (aCons (eVar 1) aNil)) (bName 3) (sSeq (sAsg 4 (eIf (tOf (eOp (oIn false) (eVar 3) (eVar 0))) (eUn (fun i => .int (-i)) (eCon (.int 1))) (eCon (.int 1))))
  (sAsg 2 (eNew (nLc2 (iRow (eVar 2)) (bName 5) tTrue (iRow (eTup (aCons (eVar 5) (aCons (eOp (oC CMulW fun i j => .int (i * j)) (eVar 4) (eVar 5)) aNil)))) (bName 6) tTrue (eVar 6) [5, 6] [6])))))
  (sRet (eVar 2))))
def m_signs_of (A : Str → Addr) : Mn := runF 2 7 (f_signs_of A)
def f_distinct_numbers (A : Str → Addr) : SF :=
  (sSeq (sIf (fNot (tOf (eCall (m_is_row A) (aCons (eVar 0) aNil)))) (sRet (eCon .non)) sNext)
  (sSeq (sIf (fNot (tOf (eCB cAll (aCons (eNew (nLc (iRow (eVar 0)) (bName 2) tTrue (eAnd (eCall (m_is_integer A) (aCons (eVar 2) aNil)) (eOp (oI fun i j => .bl (decide (j ≤ i))) (eVar 2) (eCon (.int 0)))) [2])) aNil)))) (sRet (eCon .non)) sNext)
  (sSeq (sAsg 1 (eCB cTup (aCons (eNew (nCB cSorted (aCons (eNew (nLc (iRow (eVar 0)) (bName 2) tTrue (eCB cInt (aCons (eVar 2) aNil)) [2])) aNil))) aNil)))
  (sSeq (sIf (tOf (eOp (oI fun i j => .bl (decide (i < j))) (eLenSet (eVar 1)) (eCB cLen (aCons (eVar 1) aNil)))) (sRet (eCon .non)) sNext)
  (sRet (eVar 1))))))
def m_distinct_numbers (A : Str → Addr) : Mn := runF 1 3 (f_distinct_numbers A)
def f_joined (A : Str → Addr) : SF :=
  (sSeq (sAsg 2 (eCall (m_distinct_numbers A) (aCons (eVar 0) aNil)))
  (sSeq (sIf (tOf (eOp oIsN (eVar 2) (eCon .non))) (sRaise "BadLot") sNext)
  (sSeq (sAsg 3 (eCall (m_distinct_numbers A) (aCons (eVar 1) aNil)))
  (sSeq (sIf (tOf (eOp oIsN (eVar 3) (eCon .non))) (sRaise "BadLot") sNext)
  (sRet (eCB cTup (aCons (eNew (nCB cSorted (aCons (eNew (nCat (eNew (nLc (iRow (eVar 2)) (bName 4) (tCalm (tOf (eOp (oIn true) (eVar 4) (eVar 3)))) (eVar 4) [4])) (eNew (nLc (iRow (eVar 3)) (bName 4) (tCalm (tOf (eOp (oIn true) (eVar 4) (eVar 2)))) (eVar 4) [4])))) aNil))) aNil)))))))
def m_joined (A : Str → Addr) : Mn := runF 2 5 (f_joined A)
def f_weight_tops (A : Str → Addr) : SF :=
  (sSeq (sAsg 1 (eNew (nLc (iArgs rng1G (aCons (eOp (oC CPow fun i j => .int (i * 2 ^ j.toNat)) (eCon (.int 1)) (eFld A ["Web", "Spread"] "many" (eVar 0))) aNil)) (bName 7) tTrue (eCon (.int 1)) [7])))
  (sSeq (sFor (iRow (eFld A ["Web"] "ties" (eVar 0))) (bRow [(bName 2), (bName 3), (bRow [(bName 4), (bName 5)])]) (sSeq (sAsg 6 (eCall (m_signs_of A) (aCons (eCall (m_joined A) (aCons (eTup (aCons (eVar 2) aNil)) (aCons (eTup (aCons (eVar 3) aNil)) aNil))) (aCons (eFld A ["Web", "Spread"] "many" (eVar 0)) aNil))))
  (sAsg 1 (eNew (nLc (iArgs zipG2 (aCons (eVar 1) (aCons (eVar 6) aNil))) (bRow [(bName 8), (bName 9)]) tTrue (eOp (oC CMulW fun i j => .int (i * j)) (eVar 8) (eOp (oI fun i j => .int (i + j)) (eVar 5) (eOp (oC CMulW fun i j => .int (i * j)) (eVar 4) (eVar 9)))) [8, 9])))))
  (sRet (eVar 1))))
def m_weight_tops (A : Str → Addr) : Mn := runF 1 10 (f_weight_tops A)
def f_places_told (A : Str → Addr) : SF :=
  (sSeq (sIf (tOf (eCall (m_is_row A) (aCons (eVar 0) aNil))) (sFor (iArgs rng2G (aCons (eCon (.int 1)) (aCons (eOp (oI fun i j => .int (i + j)) (eCon (.int 7)) (eCon (.int 1))) aNil))) (bName 1) (sIf (tOf (eOp oEq (eCB cLen (aCons (eVar 0) aNil)) (eOp (oC CPow fun i j => .int (i * 2 ^ j.toNat)) (eCon (.int 1)) (eVar 1)))) (sRet (eVar 1)) sNext)) sNext)
  sNo)
def m_places_told (A : Str → Addr) : Mn := runF 1 2 (f_places_told A)
def f_chances_of (A : Str → Addr) : SF :=
  (sSeq (sFor (iArgs enumG (aCons (eVar 0) aNil)) (bRow [(bName 1), (bName 2)]) (sIf (fOr (fNot (tOf (eCall (m_is_ratio A) (aCons (eVar 2) aNil)))) (tOf (eOp (oI fun i j => .bl (decide (i ≤ j))) (eCall (m_sign_of A) (aCons (eVar 2) aNil)) (eCon (.int 0))))) sNo sNext))
  (sSeq (sAsg 3 (eCB cTup (aCons (eNew (nLc (iRow (eVar 0)) (bName 2) tTrue (eCall (m_ratio_of A) (aCons (eVar 2) aNil)) [2])) aNil)))
  (sSeq (sFor (iArgs enumG (aCons (eVar 3) aNil)) (bRow [(bName 1), (bName 2)]) (sIf (tOf (eOp (oEqD true) (eVar 2) (eIx (eVar 3) (eOp (oI fun i j => .int (i - j)) (eOp (oI fun i j => .int (i - j)) (eCB cLen (aCons (eVar 3) aNil)) (eCon (.int 1))) (eVar 1))))) sNo sNext))
  (sSeq (sIf (tOf (eOp (oEqD true) (eCall (m_sum_of A) (aCons (eVar 3) aNil)) (eTup (aCons (eCon (.int 1)) (aCons (eCon (.int 1)) aNil))))) sNo sNext)
  (sRet (eVar 3))))))
def m_chances_of (A : Str → Addr) : Mn := runF 1 4 (f_chances_of A)
def f_Spread_init (A : Str → Addr) : SF :=
  (sSeq (sSetF A "Spread" "many" (eVar 0) (eCall (m_places_told A) (aCons (eVar 1) aNil)))
  (sSetF A "Spread" "rows" (eVar 0) (eCall (m_chances_of A) (aCons (eVar 1) aNil))))
def m_Spread_init (A : Str → Addr) : Mn := runF 2 2 (f_Spread_init A)
def f_Spread_of (A : Str → Addr) : SF :=
  (sSeq (sIf (tOf (eOp (oI fun i j => .bl (decide (j < i))) (eFld A ["Web", "Spread"] "many" (eVar 1)) (eCon (.int 7)))) sNo sNext)
  (sSeq (sAsg 2 (eCall (m_weight_tops A) (aCons (eVar 1) aNil)))
  (sSeq (sAsg 3 (eCB cSum (aCons (eVar 2) aNil)))
  (sRet (eMakeL A "Spread" 0 (m_Spread_init A) (aCons (eNew (nLc (iRow (eVar 2)) (bName 4) tTrue (eCall (m_lowest A) (aCons (eVar 4) (aCons (eVar 3) aNil))) [4])) aNil))))))
def m_Spread_of (A : Str → Addr) : Mn := runF 2 5 (f_Spread_of A)
def f_lot_of (A : Str → Addr) : SF :=
  (sSeq (sAsg 2 (eCall (m_count_of A) (aCons (eVar 1) (aCons (eCon (.int 10)) aNil))))
  (sSeq (sAsg 3 (eCall (m_distinct_numbers A) (aCons (eVar 0) aNil)))
  (sSeq (sIf (fOr (tOf (eOp oIsN (eVar 3) (eCon .non))) (fNot (tOf (eCB cAll (aCons (eNew (nLc (iRow (eVar 3)) (bName 4) tTrue (eOp (oI fun i j => .bl (decide (i < j))) (eVar 4) (eVar 2)) [4])) aNil))))) (sRaise "BadLot") sNext)
  (sRet (eVar 3)))))
def m_lot_of (A : Str → Addr) : Mn := runF 2 5 (f_lot_of A)
def f_Spread_left_out (A : Str → Addr) : SF :=
  (sSeq (sAsg 2 (eCall (m_lot_of A) (aCons (eVar 1) (aCons (eFld A ["Spread"] "many" (eVar 0)) aNil))))
  (sSeq (sIf (tOf (eOp oEq (eCB cLen (aCons (eVar 2) aNil)) (eFld A ["Spread"] "many" (eVar 0)))) (sRaise "BadLot") sNext)
  (sSeq (sAsg 3 (eNew (nLc (iArgs rng1G (aCons (eFld A ["Spread"] "many" (eVar 0)) aNil)) (bName 10) (tCalm (tOf (eOp (oIn true) (eVar 10) (eVar 2)))) (eVar 10) [10])))
  (sSeq (sAsgT (bRow [(bName 4), (bName 5)]) (eCall (m_over_common A) (aCons (eFld A ["Spread"] "rows" (eVar 0)) aNil)))
  (sSeq (sDNew 6)
  (sSeq (sFor (iArgs zipG2 (aCons (eCall (m_sayings A) (aCons (eFld A ["Spread"] "many" (eVar 0)) aNil)) (aCons (eVar 4) aNil))) (bRow [(bName 7), (bName 8)]) (sSeq (sAsg 9 (eCB cTup (aCons (eNew (nLc (iRow (eVar 3)) (bName 10) tTrue (eIx (eVar 7) (eVar 10)) [10])) aNil)))
  (sDPut 6 (eVar 9) (eOp (oI fun i j => .int (i + j)) (eDGet2 6 (eVar 9) (eCon (.int 0))) (eVar 8)))))
  (sRet (eMake A "Spread" (m_Spread_init A) (aCons (eNew (nLc (iRow (eCall (m_sayings A) (aCons (eCB cLen (aCons (eVar 3) aNil)) aNil))) (bName 9) tTrue (eCall (m_lowest A) (aCons (eDGet 6 (eVar 9)) (aCons (eVar 5) aNil))) [9])) aNil)))))))))
def m_Spread_left_out (A : Str → Addr) : Mn := runF 2 11 (f_Spread_left_out A)
def f_merged_pull (A : Str → Addr) : SF :=
  (sSeq (sAsgT (bRow [(bName 2), (bName 3)]) (eVar 0))
  (sSeq (sAsgT (bRow [(bName 4), (bName 5)]) (eVar 1))
  (sRet (eCall (m_lowest A) (aCons (eOp (oI fun i j => .int (i + j)) (eOp (oC CMulW fun i j => .int (i * j)) (eVar 2) (eVar 5)) (eOp (oC CMulW fun i j => .int (i * j)) (eVar 4) (eVar 3))) (aCons (eOp (oI fun i j => .int (i + j)) (eOp (oC CMulW fun i j => .int (i * j)) (eVar 3) (eVar 5)) (eOp (oC CMulW fun i j => .int (i * j)) (eVar 2) (eVar 4))) aNil))))))
def m_merged_pull (A : Str → Addr) : Mn := runF 2 6 (f_merged_pull A)
def f_Web_merged (A : Str → Addr) : SF :=
  (sSeq (sDNew 1)
  (sSeq (sFor (iRow (eFld A ["Web"] "ties" (eVar 0))) (bRow [(bName 2), (bName 3), (bName 4)]) (sIf (tOf (eOp (oEqD true) (eVar 2) (eVar 3))) (sSeq (sAsg 5 (eTup (aCons (eCB (cI2 fun i j => if j < i then j else i) (aCons (eVar 2) (aCons (eVar 3) aNil))) (aCons (eCB (cI2 fun i j => if j > i then j else i) (aCons (eVar 2) (aCons (eVar 3) aNil))) aNil))))
  (sDPut 1 (eVar 5) (eCall (m_merged_pull A) (aCons (eDGet2 1 (eVar 5) (eTup (aCons (eCon (.int 0)) (aCons (eCon (.int 1)) aNil)))) (aCons (eVar 4) aNil))))) sNext))
  (sRet (eMake A "Web" (m_Web_init A) (aCons (eFld A ["Web"] "many" (eVar 0)) (aCons (eNew (nLc (iRow (eNew (nSortK 1))) (bRow [(bName 2), (bName 3)]) (tCalm (tOf (eOp (oEqD true) (eDGet 1 (eTup (aCons (eVar 2) (aCons (eVar 3) aNil)))) (eTup (aCons (eCon (.int 0)) (aCons (eCon (.int 1)) aNil)))))) (eTup (aCons (eVar 2) (aCons (eVar 3) (aCons (eDGet 1 (eTup (aCons (eVar 2) (aCons (eVar 3) aNil)))) aNil)))) [2, 3])) aNil))))))
def m_Web_merged (A : Str → Addr) : Mn := runF 1 6 (f_Web_merged A)
def f_mean (A : Str → Addr) : SF :=
  (sSeq (sAsg 3 (eCall (m_lot_of A) (aCons (eVar 1) (aCons (eFld A ["Web", "Spread"] "many" (eVar 0)) aNil))))
  (sSeq (sIf (tOf (eOp oNotN (eVar 2) (eCon .non))) (sSeq (sIf (fNot (tOf (eCall (m_is_place A) (aCons (eVar 2) (aCons (eFld A ["Web", "Spread"] "many" (eVar 0)) aNil))))) (sRaise "BadPlace") sNext)
  (sIf (tTru (eOp (oI fun i j => .int (Builtin.bitAnd i j)) (eCB cLen (aCons (eVar 3) aNil)) (eCon (.int 1)))) (sAsg 3 (eCall (m_joined A) (aCons (eVar 3) (aCons (eTup (aCons (eVar 2) aNil)) aNil)))) sNext)) sNext)
  (sSeq (sAsg 4 (eCall (m_weight_tops A) (aCons (eVar 0) aNil)))
  (sSeq (sAsg 5 (eCall (m_signs_of A) (aCons (eVar 3) (aCons (eFld A ["Web", "Spread"] "many" (eVar 0)) aNil))))
  (sRet (eCall (m_lowest A) (aCons (eCB cSum (aCons (eNew (nLc (iArgs zipG2 (aCons (eVar 4) (aCons (eVar 5) aNil))) (bRow [(bName 6), (bName 7)]) tTrue (eOp (oC CMulW fun i j => .int (i * j)) (eVar 6) (eVar 7)) [6, 7])) aNil)) (aCons (eCB cSum (aCons (eVar 4) aNil)) aNil))))))))
def m_mean (A : Str → Addr) : Mn := runF 3 8 (f_mean A)
def f_l_doubled (A : Str → Addr) : SF :=
  (sSeq (sAsg 1 (eCall (m_double_pull A) (aCons (eNew (nCB cList (aCons (eVar 0) aNil))) aNil)))
  (sSeq (sAsg 2 (eTup (aCons (eOp (oC CMulW fun i j => .int (i * j)) (eOp (oC CMulW fun i j => .int (i * j)) (eCon (.int 2)) (eIx (eVar 0) (eCon (.int 0)))) (eIx (eVar 0) (eCon (.int 1)))) (aCons (eOp (oI fun i j => .int (i + j)) (eOp (oC CMulW fun i j => .int (i * j)) (eIx (eVar 0) (eCon (.int 1))) (eIx (eVar 0) (eCon (.int 1)))) (eOp (oC CMulW fun i j => .int (i * j)) (eIx (eVar 0) (eCon (.int 0))) (eIx (eVar 0) (eCon (.int 0))))) aNil))))
  (sSeq (sAsg 3 (eMake A "Web" (m_Web_init A) (aCons (eCon (.int 2)) (aCons (eNew (nLst (aCons (eTup (aCons (eCon (.int 0)) (aCons (eCon (.int 1)) (aCons (eVar 0) aNil)))) (aCons (eTup (aCons (eCon (.int 1)) (aCons (eCon (.int 0)) (aCons (eVar 0) aNil)))) aNil)))) aNil))))
  (sSeq (sIf (fOr (fNot (tOf (eCall (m_l_is A) (aCons (eVar 1) (aCons (eVar 2) aNil))))) (fOr (tOf (eOp (oEqD true) (eCallD (m_mean A) [.non] (aCons (eVar 3) (aCons (eTup (aCons (eCon (.int 0)) (aCons (eCon (.int 1)) aNil))) aNil))) (eVar 1))) (tOf (eOp (oEqD true) (eFld A ["Web"] "ties" (eMeth A "Web" "merged" (m_Web_merged A) (eVar 3) aNil)) (eFld A ["Web"] "ties" (eMeth A "Web" "merged" (m_Web_merged A) (eMake A "Web" (m_Web_init A) (aCons (eCon (.int 2)) (aCons (eNew (nLst (aCons (eTup (aCons (eCon (.int 0)) (aCons (eCon (.int 1)) (aCons (eVar 1) aNil)))) aNil))) aNil))) aNil)))))) (sRet (eCon (.bl false))) sNext)
  (sSeq (sAsg 4 (eOp (oI fun i j => .int (i + j)) (eIx (eVar 0) (eCon (.int 1))) (eIx (eVar 0) (eCon (.int 0)))))
  (sSeq (sAsg 5 (eOp (oI fun i j => .int (i - j)) (eIx (eVar 0) (eCon (.int 1))) (eIx (eVar 0) (eCon (.int 0)))))
  (sRet (eCall (m_l_is A) (aCons (eCall (m_square_of_double A) (aCons (eVar 1) aNil)) (aCons (eTup (aCons (eOp (oC CMulW fun i j => .int (i * j)) (eVar 4) (eVar 4)) (aCons (eOp (oC CMulW fun i j => .int (i * j)) (eVar 5) (eVar 5)) aNil))) aNil))))))))))
def m_l_doubled (A : Str → Addr) : Mn := runF 1 6 (f_l_doubled A)
def f_l_pulls_hold (A : Str → Addr) : SF :=
  (sSeq (sAsg 1 (eNew (nCall (m_l_star_boxes A) (aCons (eVar 0) aNil))))
  (sSeq (sAsg 2 (eNew (nLc (iRow (eVar 1)) (bName 9) tTrue (eTup (aCons (eOp (oI fun i j => .int (i - j)) (eIx (eVar 9) (eCon (.int 0))) (eIx (eVar 9) (eCon (.int 1)))) (aCons (eOp (oI fun i j => .int (i + j)) (eIx (eVar 9) (eCon (.int 0))) (eIx (eVar 9) (eCon (.int 1)))) aNil))) [9])))
  (sSeq (sAsg 3 (eCall (m_triangle_doubles A) (aCons (eIx (eVar 0) (eCon (.int 0))) (aCons (eNew (nCB cList (aCons (eIx (eVar 0) (eCon (.int 1))) aNil))) (aCons (eIx (eVar 0) (eCon (.int 2))) aNil)))))
  (sSeq (sIf (fNot (tOf (eCall (m_l_three_are A) (aCons (eVar 3) (aCons (eVar 2) aNil))))) (sRet (eCon (.bl false))) sNext)
  (sSeq (sAsg 4 (eCall (m_star_means A) (aCons (eIx (eVar 0) (eCon (.int 0))) (aCons (eIx (eVar 0) (eCon (.int 1))) (aCons (eNew (nCB cList (aCons (eIx (eVar 0) (eCon (.int 2))) aNil))) aNil)))))
  (sSeq (sAsg 5 (eNew (nLst (aCons (eCall (m_l_times A) (aCons (eIx (eVar 0) (eCon (.int 0))) (aCons (eIx (eVar 0) (eCon (.int 1))) aNil))) (aCons (eCall (m_l_times A) (aCons (eIx (eVar 0) (eCon (.int 0))) (aCons (eIx (eVar 0) (eCon (.int 2))) aNil))) (aCons (eCall (m_l_times A) (aCons (eIx (eVar 0) (eCon (.int 1))) (aCons (eIx (eVar 0) (eCon (.int 2))) aNil))) aNil))))))
  (sSeq (sIf (fOr (fNot (tOf (eCall (m_l_three_are A) (aCons (eVar 4) (aCons (eVar 5) aNil))))) (fNot (tOf (eCall (m_l_three_are A) (aCons (eCall (m_triangle_squares A) (aCons (eIx (eVar 4) (eCon (.int 0))) (aCons (eIx (eVar 4) (eCon (.int 1))) (aCons (eIx (eVar 4) (eCon (.int 2))) aNil)))) (aCons (eVar 1) aNil)))))) (sRet (eCon (.bl false))) sNext)
  (sSeq (sAsg 6 (eMake A "Web" (m_Web_init A) (aCons (eCon (.int 4)) (aCons (eNew (nLc (iArgs rng1G (aCons (eCon (.int 3)) aNil)) (bName 8) tTrue (eTup (aCons (eCon (.int 0)) (aCons (eOp (oI fun i j => .int (i + j)) (eVar 8) (eCon (.int 1))) (aCons (eIx (eVar 0) (eVar 8)) aNil)))) [8])) aNil))))
  (sSeq (sAsg 7 (eCall (m_squares A) (aCons (eMeth A "Spread" "left_out" (m_Spread_left_out A) (eCMeth A "Spread" (m_Spread_of A) (aCons (eVar 6) aNil)) (aCons (eTup (aCons (eCon (.int 0)) aNil)) aNil)) aNil)))
  (sSeq (sFor (iArgs rng1G (aCons (eCon (.int 3)) aNil)) (bName 8) (sIf (fOr (tOf (eOp (oEqD true) (eIx (eVar 7) (eVar 8)) (eTup (aCons (eIx (eNew (nLst (aCons (eTup (aCons (eCon (.int 0)) (aCons (eCon (.int 1)) aNil))) (aCons (eTup (aCons (eCon (.int 0)) (aCons (eCon (.int 2)) aNil))) (aCons (eTup (aCons (eCon (.int 1)) (aCons (eCon (.int 2)) aNil))) aNil))))) (eVar 8)) (aCons (eCall (m_square_of_double A) (aCons (eIx (eVar 3) (eVar 8)) aNil)) aNil))))) (fNot (tOf (eCall (m_l_is A) (aCons (eIx (eIx (eVar 7) (eVar 8)) (eCon (.int 1))) (aCons (eIx (eVar 1) (eVar 8)) aNil)))))) (sRet (eCon (.bl false))) sNext))
  (sRet (eCB cAll (aCons (eNew (nLc (iRow (eVar 0)) (bName 10) tTrue (eCall (m_l_doubled A) (aCons (eVar 10) aNil)) [10])) aNil)))))))))))))
def m_l_pulls_hold (A : Str → Addr) : Mn := runF 1 11 (f_l_pulls_hold A)
def f_law (A : Str → Addr) : SF :=
  (sSeq (sAsgN 1 (nCall (m_l_draws A) (aCons (eVar 0) aNil)))
  (sSeq (sAsg 2 (eIx (eNew (nLst (aCons (eCon (.str "any")) (aCons (eCon (.str "positive")) aNil)))) (eCall (m_l_take A) (aCons (eVar 1) (aCons (eCon (.int 2)) aNil)))))
  (sSeq (sAsg 3 (eNew (nLcX (iArgs rng1G (aCons (eCon (.int 3)) aNil)) (bName 8) tTrue (eCall (m_l_pull A) (aCons (eVar 1) (aCons (eVar 2) aNil))) [8])))
  (sSeq (sIf (fOr (fNot (tOf (eCall (m_l_pulls_hold A) (aCons (eVar 3) aNil)))) (fNot (tOf (eCall (m_l_refused A) (aCons (eVar 3) aNil))))) (sRet (eCon (.bl false))) sNext)
  (sSeq (sAsg 4 (eCall (m_triangle_doubles A) (aCons (eIx (eVar 3) (eCon (.int 0))) (aCons (eIx (eVar 3) (eCon (.int 1))) (aCons (eIx (eVar 3) (eCon (.int 2))) aNil)))))
  (sSeq (sIf (fNot (tOf (eCall (m_l_three_are A) (aCons (eCall (m_triangle_doubles A) (aCons (eIx (eVar 3) (eCon (.int 2))) (aCons (eIx (eVar 3) (eCon (.int 0))) (aCons (eIx (eVar 3) (eCon (.int 1))) aNil)))) (aCons (eNew (nLst (aCons (eIx (eVar 4) (eCon (.int 1))) (aCons (eIx (eVar 4) (eCon (.int 2))) (aCons (eIx (eVar 4) (eCon (.int 0))) aNil))))) aNil))))) (sRet (eCon (.bl false))) sNext)
  (sSeq (sAsg 5 (eCall (m_l_take A) (aCons (eVar 1) (aCons (eCon (.int 3)) aNil))))
  (sSeq (sAsgN 6 (nCB cList (aCons (eVar 3) aNil)))
  (sSeq (sSetL 6 (eVar 5) (eTup (aCons (eUn (fun i => .int (-i)) (eIx (eIx (eVar 3) (eVar 5)) (eCon (.int 0)))) (aCons (eIx (eIx (eVar 3) (eVar 5)) (eCon (.int 1))) aNil))))
  (sFrz 6 (sSeq (sAsg 7 (eCall (m_triangle_doubles A) (aCons (eIx (eVar 6) (eCon (.int 0))) (aCons (eIx (eVar 6) (eCon (.int 1))) (aCons (eIx (eVar 6) (eCon (.int 2))) aNil)))))
  (sSeq (sFor (iArgs rng1G (aCons (eCon (.int 3)) aNil)) (bName 8) (sSeq (sAsg 9 (eCon (.int 1)))
  (sSeq (sIf (tOf (eOp (oIn false) (eVar 5) (eIx (eNew (nLst (aCons (eTup (aCons (eCon (.int 0)) (aCons (eCon (.int 1)) aNil))) (aCons (eTup (aCons (eCon (.int 0)) (aCons (eCon (.int 2)) aNil))) (aCons (eTup (aCons (eCon (.int 1)) (aCons (eCon (.int 2)) aNil))) aNil))))) (eVar 8)))) (sAsg 9 (eUn (fun i => .int (-i)) (eCon (.int 1)))) sNext)
  (sIf (fNot (tOf (eCall (m_l_is A) (aCons (eIx (eVar 7) (eVar 8)) (aCons (eTup (aCons (eOp (oC CMulW fun i j => .int (i * j)) (eVar 9) (eIx (eIx (eVar 4) (eVar 8)) (eCon (.int 0)))) (aCons (eIx (eIx (eVar 4) (eVar 8)) (eCon (.int 1))) aNil))) aNil))))) (sRet (eCon (.bl false))) sNext))))
  (sSeq (sAsg 10 (eNew (nLcX (iArgs rng1G (aCons (eCon (.int 3)) aNil)) (bName 8) tTrue (eCall (m_l_pull A) (aCons (eVar 1) (aCons (eCon (.str "any")) aNil))) [8])))
  (sRet (eAnd (eCall (m_l_pulls_hold A) (aCons (eVar 10) aNil)) (eCall (m_l_three_are A) (aCons (eCall (m_triangle_doubles A) (aCons (eIx (eVar 3) (eCon (.int 0))) (aCons (eIx (eVar 3) (eCon (.int 1))) (aCons (eIx (eVar 3) (eCon (.int 2))) aNil)))) (aCons (eVar 4) aNil))))))))))))))))))
def m_law (A : Str → Addr) : Mn := runF 1 11 (f_law A)
end My

set_option Elab.async false
set_option linter.all false
set_option maxRecDepth 100000
set_option maxHeartbeats 4000000
set_option exponentiation.threshold 100000
namespace My
open PySem L2 Lw
def topS (i : Nat) : Stmt := PySem.Challenge.pw_leanwebs_k21_star_triangle_doubles.main.body.getD i (.Pass ⟨0, 0, 0, 0⟩)
structure Txt (K : PySem.W.Frag) (A : Str → Addr) (mg : Str → Option Value) : Prop where
  abs : mg "abs" = none
  all : mg "all" = none
  bool : mg "bool" = none
  enumerate : mg "enumerate" = none
  int : mg "int" = none
  isinstance : mg "isinstance" = none
  len : mg "len" = none
  list : mg "list" = none
  max : mg "max" = none
  min : mg "min" = none
  range : mg "range" = none
  set : mg "set" = none
  sorted : mg "sorted" = none
  str : mg "str" = none
  sum : mg "sum" = none
  tuple : mg "tuple" = none
  zip : mg "zip" = none
  gcd : mg "gcd" = some (.builtin "math.gcd")
  lcm : mg "lcm" = some (.builtin "math.lcm")
  k_MOST_PLACES : ∃ t, mg "MOST_PLACES" = some (.int 10 t)
  k_MOST_SPREAD : ∃ t, mg "MOST_SPREAD" = some (.int 7 t)
  x_BadCount : Er0 K mg "BadCount" (A "BadCount")
  x_BadLot : Er0 K mg "BadLot" (A "BadLot")
  x_BadPlace : Er0 K mg "BadPlace" (A "BadPlace")
  x_BadRatio : Er0 K mg "BadRatio" (A "BadRatio")
  x_BadSaying : Er0 K mg "BadSaying" (A "BadSaying")
  g_WebsError : mg "WebsError" = some (.ref (A "WebsError"))
  g_BadRatio : mg "BadRatio" = some (.ref (A "BadRatio"))
  g_BadCount : mg "BadCount" = some (.ref (A "BadCount"))
  g_BadPlace : mg "BadPlace" = some (.ref (A "BadPlace"))
  g_BadTie : mg "BadTie" = some (.ref (A "BadTie"))
  g_BadPull : mg "BadPull" = some (.ref (A "BadPull"))
  g_BadLot : mg "BadLot" = some (.ref (A "BadLot"))
  g_BadSaying : mg "BadSaying" = some (.ref (A "BadSaying"))
  g_BadBundle : mg "BadBundle" = some (.ref (A "BadBundle"))
  g_TooMany : mg "TooMany" = some (.ref (A "TooMany"))
  g_BadSpread : mg "BadSpread" = some (.ref (A "BadSpread"))
  g_NotWebs : mg "NotWebs" = some (.ref (A "NotWebs"))
  g_BadTable : mg "BadTable" = some (.ref (A "BadTable"))
  g_Web : mg "Web" = some (.ref (A "Web"))
  c_Web : Cls K (A "Web")
  n_Web_many : NoAttr K (A "Web") "many"
  n_Web_ties : NoAttr K (A "Web") "ties"
  k_Web_most_places : ∃ t, L2.Con K (A "Web") "most_places" (.int 10) (.int 10 t)
  k_Web_most_ties : ∃ t, L2.Con K (A "Web") "most_ties" (.int 10) (.int 10 t)
  g_Spread : mg "Spread" = some (.ref (A "Spread"))
  c_Spread : Cls K (A "Spread")
  n_Spread_many : NoAttr K (A "Spread") "many"
  n_Spread_rows : NoAttr K (A "Spread") "rows"
  exm : ∀ {x y c}, exmT x y = some c → PySem.W.exmOne K (.ref (A x)) (.ref (A y)) = some c
end My

section
set_option Elab.async false
set_option linter.all false
set_option maxRecDepth 100000
set_option maxHeartbeats 0
namespace My
open PySem L2 Lw PySem.Spec PyProof.Rows
abbrev st_l_draws : Stmt := topS 73
abbrev st_l_take : Stmt := topS 74
abbrev st_l_pull : Stmt := topS 80
abbrev st_is_integer : Stmt := topS 17
abbrev st_is_row : Stmt := topS 18
abbrev st_is_ratio : Stmt := topS 19
abbrev st_lowest : Stmt := topS 20
abbrev st_ratio_of : Stmt := topS 21
abbrev st_pull_of : Stmt := topS 22
abbrev st_times : Stmt := topS 25
abbrev st_star_means : Stmt := topS 56
abbrev st_minus : Stmt := topS 24
abbrev st_over : Stmt := topS 26
abbrev st_plus : Stmt := topS 23
abbrev st_double_at : Stmt := topS 57
abbrev st_triangle_doubles : Stmt := topS 58
abbrev st_double_pull : Stmt := topS 59
abbrev st_square_of_double : Stmt := topS 60
abbrev st_l_told : Stmt := topS 83
abbrev st_l_refused : Stmt := topS 86
abbrev st_l_no : Stmt := topS 81
abbrev st_l_weights : Stmt := topS 82
abbrev st_l_star_boxes : Stmt := topS 84
abbrev st_l_int : Stmt := topS 75
abbrev st_l_common : Stmt := topS 76
abbrev st_l_ratio : Stmt := topS 77
abbrev st_l_is : Stmt := topS 78
abbrev st_l_three_are : Stmt := topS 85
abbrev st_l_times : Stmt := topS 79
abbrev st_over_common : Stmt := topS 28
abbrev st_sum_of : Stmt := topS 29
abbrev st_sums_of_three : Stmt := topS 53
abbrev st_sign_of : Stmt := topS 27
abbrev st_sums_above : Stmt := topS 54
abbrev st_triangle_squares : Stmt := topS 55
abbrev st_count_of : Stmt := topS 32
abbrev st_is_place : Stmt := topS 33
abbrev st_tie_of : Stmt := topS 46
abbrev st_ties_of : Stmt := topS 47
abbrev st_Web_init : Stmt := inClass (topS 51) 2
abbrev st_pairs_of : Stmt := topS 68
abbrev st_is_saying : Stmt := topS 38
abbrev st_saying_of : Stmt := topS 39
abbrev st_changed : Stmt := topS 66
abbrev st_index_of_no : Stmt := topS 43
abbrev st_index_of : Stmt := topS 65
abbrev st_Spread_chance : Stmt := inClass (topS 67) 2
abbrev st_Spread_box : Stmt := inClass (topS 67) 5
abbrev st_sayings : Stmt := topS 37
abbrev st_unlike_saying : Stmt := topS 69
abbrev st_unlike_boxes : Stmt := topS 70
abbrev st_squares : Stmt := topS 71
abbrev st_signs_of : Stmt := topS 41
abbrev st_distinct_numbers : Stmt := topS 34
abbrev st_joined : Stmt := topS 36
abbrev st_weight_tops : Stmt := topS 42
abbrev st_places_told : Stmt := topS 63
abbrev st_chances_of : Stmt := topS 64
abbrev st_Spread_init : Stmt := inClass (topS 67) 0
abbrev st_Spread_of : Stmt := inClass (topS 67) 1
abbrev st_lot_of : Stmt := topS 35
abbrev st_Spread_left_out : Stmt := inClass (topS 67) 4
abbrev st_merged_pull : Stmt := topS 50
abbrev st_Web_merged : Stmt := inClass (topS 51) 14
abbrev st_mean : Stmt := topS 44
abbrev st_l_doubled : Stmt := topS 87
abbrev st_l_pulls_hold : Stmt := topS 88
abbrev st_law : Stmt := topS 89
abbrev R0 : PySem.W.OpenRow := PySem.W.OpenLaw.row PySem.Challenge.rw_leanwebs_k21_star_triangle_doubles
def fa0 : List (Fg → Bool) := [(He.Fa.free "abs").ok, (He.Fa.free "all").ok, (He.Fa.free "bool").ok, (He.Fa.free "enumerate").ok, (He.Fa.free "int").ok, (He.Fa.free "isinstance").ok, (He.Fa.free "len").ok, (He.Fa.free "list").ok, (He.Fa.free "max").ok, (He.Fa.free "min").ok, (He.Fa.free "range").ok, (He.Fa.free "set").ok, (He.Fa.free "sorted").ok, (He.Fa.free "str").ok, (He.Fa.free "sum").ok, (He.Fa.free "tuple").ok, (He.Fa.free "zip").ok, faB "gcd" "gcd" "math.gcd", faB "lcm" "lcm" "math.lcm", (He.Fa.int "MOST_PLACES" 10).ok, (He.Fa.int "MOST_SPREAD" 7).ok, (He.Fa.glo "WebsError").ok, (He.Fa.glo "BadRatio").ok, (He.Fa.glo "BadCount").ok, (He.Fa.glo "BadPlace").ok, (He.Fa.glo "BadTie").ok, (He.Fa.glo "BadPull").ok, (He.Fa.glo "BadLot").ok, (He.Fa.glo "BadSaying").ok, (He.Fa.glo "BadBundle").ok]
def fa1 : List (Fg → Bool) := [(He.Fa.glo "TooMany").ok, (He.Fa.glo "BadSpread").ok, (He.Fa.glo "NotWebs").ok, (He.Fa.glo "BadTable").ok, (He.Fa.glo "Web").ok, (He.Fa.glo "Spread").ok, faE "BadCount", faE "BadLot", faE "BadPlace", faE "BadRatio", faE "BadSaying", (He.Fa.cls "Web").ok, (He.Fa.noat "Web" "many").ok, (He.Fa.noat "Web" "ties").ok, faC "Web" "most_places" 10, faC "Web" "most_ties" 10, (He.Fa.cls "Spread").ok, (He.Fa.noat "Spread" "many").ok, (He.Fa.noat "Spread" "rows").ok, fun K => exmTab.all fun q => (He.Fa.exm q.1.1 q.1.2 q.2).ok K, (He.Fa.glo "_law_draws").ok, (He.Fa.glo "_law_take").ok, (He.Fa.glo "_law_pull").ok, (He.Fa.glo "is_integer").ok, (He.Fa.glo "is_row").ok, (He.Fa.glo "is_ratio").ok, (He.Fa.glo "lowest").ok, (He.Fa.glo "ratio_of").ok, (He.Fa.glo "pull_of").ok, (He.Fa.glo "times").ok]
def fa2 : List (Fg → Bool) := [(He.Fa.glo "star_means").ok, (He.Fa.glo "minus").ok, (He.Fa.glo "over").ok, (He.Fa.glo "plus").ok, (He.Fa.glo "double_at").ok, (He.Fa.glo "triangle_doubles").ok, (He.Fa.glo "double_pull").ok, (He.Fa.glo "square_of_double").ok, (He.Fa.glo "_law_told").ok, (He.Fa.glo "_law_refused").ok, (He.Fa.glo "_law_no").ok, (He.Fa.glo "_law_weights").ok, (He.Fa.glo "_law_star_boxes").ok, (He.Fa.glo "_law_int").ok, (He.Fa.glo "_law_common").ok, (He.Fa.glo "_law_ratio").ok, (He.Fa.glo "_law_is").ok, (He.Fa.glo "_law_three_are").ok, (He.Fa.glo "_law_times").ok, (He.Fa.glo "over_common").ok, (He.Fa.glo "sum_of").ok, (He.Fa.glo "sums_of_three").ok, (He.Fa.glo "sign_of").ok, (He.Fa.glo "sums_above").ok, (He.Fa.glo "triangle_squares").ok, (He.Fa.glo "count_of").ok, (He.Fa.glo "is_place").ok, (He.Fa.glo "tie_of").ok, (He.Fa.glo "ties_of").ok, (He.Fa.mkr "Web").ok]
def fa3 : List (Fg → Bool) := [(He.Fa.glo "pairs_of").ok, (He.Fa.glo "is_saying").ok, (He.Fa.glo "saying_of").ok, (He.Fa.glo "changed").ok, (He.Fa.glo "index_of_no").ok, (He.Fa.glo "index_of").ok, (He.Fa.meth "Spread" "chance").ok, (He.Fa.meth "Spread" "box").ok, (He.Fa.glo "sayings").ok, (He.Fa.glo "unlike_saying").ok, (He.Fa.glo "unlike_boxes").ok, (He.Fa.glo "squares").ok, (He.Fa.glo "signs_of").ok, (He.Fa.glo "distinct_numbers").ok, (He.Fa.glo "joined").ok, (He.Fa.glo "weight_tops").ok, (He.Fa.glo "places_told").ok, (He.Fa.glo "chances_of").ok, (He.Fa.mkr "Spread").ok, faM "Spread" "of", (He.Fa.glo "lot_of").ok, (He.Fa.meth "Spread" "left_out").ok, (He.Fa.glo "merged_pull").ok, (He.Fa.meth "Web" "merged").ok, (He.Fa.glo "mean").ok, (He.Fa.glo "_law_doubled").ok, (He.Fa.glo "_law_pulls_hold").ok, (He.Fa.glo "law").ok]
def fa : List (Fg → Bool) := fa0 ++ fa1 ++ fa2 ++ fa3
def fn0 : List DefX := [⟨fun K => ga K "_law_draws", "_law_draws", "_law_draws", st_l_draws, []⟩, ⟨fun K => ga K "_law_take", "_law_take", "_law_take", st_l_take, []⟩, ⟨fun K => ga K "_law_pull", "_law_pull", "_law_pull", st_l_pull, []⟩, ⟨fun K => ga K "is_integer", "is_integer", "is_integer", st_is_integer, []⟩, ⟨fun K => ga K "is_row", "is_row", "is_row", st_is_row, []⟩, ⟨fun K => ga K "is_ratio", "is_ratio", "is_ratio", st_is_ratio, []⟩, ⟨fun K => ga K "lowest", "lowest", "lowest", st_lowest, []⟩, ⟨fun K => ga K "ratio_of", "ratio_of", "ratio_of", st_ratio_of, []⟩, ⟨fun K => ga K "pull_of", "pull_of", "pull_of", st_pull_of, []⟩, ⟨fun K => ga K "times", "times", "times", st_times, []⟩, ⟨fun K => ga K "star_means", "star_means", "star_means", st_star_means, []⟩, ⟨fun K => ga K "minus", "minus", "minus", st_minus, []⟩, ⟨fun K => ga K "over", "over", "over", st_over, []⟩, ⟨fun K => ga K "plus", "plus", "plus", st_plus, []⟩, ⟨fun K => ga K "double_at", "double_at", "double_at", st_double_at, []⟩, ⟨fun K => ga K "triangle_doubles", "triangle_doubles", "triangle_doubles", st_triangle_doubles, []⟩, ⟨fun K => ga K "double_pull", "double_pull", "double_pull", st_double_pull, []⟩, ⟨fun K => ga K "square_of_double", "square_of_double", "square_of_double", st_square_of_double, []⟩, ⟨fun K => ga K "_law_told", "_law_told", "_law_told", st_l_told, []⟩, ⟨fun K => ga K "_law_refused", "_law_refused", "_law_refused", st_l_refused, []⟩, ⟨fun K => ga K "_law_no", "_law_no", "_law_no", st_l_no, []⟩, ⟨fun K => ga K "_law_weights", "_law_weights", "_law_weights", st_l_weights, []⟩, ⟨fun K => ga K "_law_star_boxes", "_law_star_boxes", "_law_star_boxes", st_l_star_boxes, []⟩, ⟨fun K => ga K "_law_int", "_law_int", "_law_int", st_l_int, []⟩, ⟨fun K => ga K "_law_common", "_law_common", "_law_common", st_l_common, []⟩, ⟨fun K => ga K "_law_ratio", "_law_ratio", "_law_ratio", st_l_ratio, []⟩, ⟨fun K => ga K "_law_is", "_law_is", "_law_is", st_l_is, []⟩, ⟨fun K => ga K "_law_three_are", "_law_three_are", "_law_three_are", st_l_three_are, []⟩, ⟨fun K => ga K "_law_times", "_law_times", "_law_times", st_l_times, []⟩, ⟨fun K => ga K "over_common", "over_common", "over_common", st_over_common, []⟩]
def fn1 : List DefX := [⟨fun K => ga K "sum_of", "sum_of", "sum_of", st_sum_of, []⟩, ⟨fun K => ga K "sums_of_three", "sums_of_three", "sums_of_three", st_sums_of_three, []⟩, ⟨fun K => ga K "sign_of", "sign_of", "sign_of", st_sign_of, []⟩, ⟨fun K => ga K "sums_above", "sums_above", "sums_above", st_sums_above, []⟩, ⟨fun K => ga K "triangle_squares", "triangle_squares", "triangle_squares", st_triangle_squares, []⟩, ⟨fun K => ga K "count_of", "count_of", "count_of", st_count_of, []⟩, ⟨fun K => ga K "is_place", "is_place", "is_place", st_is_place, []⟩, ⟨fun K => ga K "tie_of", "tie_of", "tie_of", st_tie_of, []⟩, ⟨fun K => ga K "ties_of", "ties_of", "ties_of", st_ties_of, []⟩, ⟨fun K => ma K (ga K "Web") "__init__", "__init__", "Web.__init__", st_Web_init, []⟩, ⟨fun K => ga K "pairs_of", "pairs_of", "pairs_of", st_pairs_of, []⟩, ⟨fun K => ga K "is_saying", "is_saying", "is_saying", st_is_saying, []⟩, ⟨fun K => ga K "saying_of", "saying_of", "saying_of", st_saying_of, []⟩, ⟨fun K => ga K "changed", "changed", "changed", st_changed, []⟩, ⟨fun K => ga K "index_of_no", "index_of_no", "index_of_no", st_index_of_no, []⟩, ⟨fun K => ga K "index_of", "index_of", "index_of", st_index_of, []⟩, ⟨fun K => ma K (ga K "Spread") "chance", "chance", "Spread.chance", st_Spread_chance, []⟩, ⟨fun K => ma K (ga K "Spread") "box", "box", "Spread.box", st_Spread_box, []⟩, ⟨fun K => ga K "sayings", "sayings", "sayings", st_sayings, []⟩, ⟨fun K => ga K "unlike_saying", "unlike_saying", "unlike_saying", st_unlike_saying, []⟩, ⟨fun K => ga K "unlike_boxes", "unlike_boxes", "unlike_boxes", st_unlike_boxes, []⟩, ⟨fun K => ga K "squares", "squares", "squares", st_squares, []⟩, ⟨fun K => ga K "signs_of", "signs_of", "signs_of", st_signs_of, []⟩, ⟨fun K => ga K "distinct_numbers", "distinct_numbers", "distinct_numbers", st_distinct_numbers, []⟩, ⟨fun K => ga K "joined", "joined", "joined", st_joined, []⟩, ⟨fun K => ga K "weight_tops", "weight_tops", "weight_tops", st_weight_tops, []⟩, ⟨fun K => ga K "places_told", "places_told", "places_told", st_places_told, []⟩, ⟨fun K => ga K "chances_of", "chances_of", "chances_of", st_chances_of, []⟩, ⟨fun K => ma K (ga K "Spread") "__init__", "__init__", "Spread.__init__", st_Spread_init, []⟩, ⟨cmA "Spread" "of", "of", "Spread.of", st_Spread_of, []⟩]
def fn2 : List DefX := [⟨fun K => ga K "lot_of", "lot_of", "lot_of", st_lot_of, []⟩, ⟨fun K => ma K (ga K "Spread") "left_out", "left_out", "Spread.left_out", st_Spread_left_out, []⟩, ⟨fun K => ga K "merged_pull", "merged_pull", "merged_pull", st_merged_pull, []⟩, ⟨fun K => ma K (ga K "Web") "merged", "merged", "Web.merged", st_Web_merged, []⟩, ⟨fun K => ga K "mean", "mean", "mean", st_mean, [("floor", .non)]⟩, ⟨fun K => ga K "_law_doubled", "_law_doubled", "_law_doubled", st_l_doubled, []⟩, ⟨fun K => ga K "_law_pulls_hold", "_law_pulls_hold", "_law_pulls_hold", st_l_pulls_hold, []⟩, ⟨fun K => ga K "law", "law", "law", st_law, []⟩]
def fn : List DefX := fn0 ++ fn1 ++ fn2
def loose0 : List Str := ["gcd", "lcm", "_wall", "WebsError", "BadRatio", "BadCount", "BadPlace", "BadTie", "BadPull", "BadLot", "BadSaying", "BadBundle", "TooMany", "BadSpread", "NotWebs", "BadTable", "is_integer", "is_row", "is_ratio", "lowest", "ratio_of", "pull_of", "plus", "minus", "times", "over", "sign_of", "over_common", "sum_of", "MOST_PLACES"]
def loose1 : List Str := ["count_of", "is_place", "distinct_numbers", "lot_of", "joined", "sayings", "is_saying", "saying_of", "signs_of", "weight_tops", "index_of_no", "mean", "tie_of", "ties_of", "tie_number", "bundle_numbers", "merged_pull", "Web", "sums_of_three", "sums_above", "triangle_squares", "star_means", "double_at", "triangle_doubles", "double_pull", "square_of_double", "MOST_SPREAD", "places_told", "chances_of", "index_of"]
def loose2 : List Str := ["changed", "Spread", "pairs_of", "unlike_saying", "unlike_boxes", "squares", "_law_draws", "_law_take", "_law_int", "_law_common", "_law_ratio", "_law_is", "_law_times", "_law_pull", "_law_no", "_law_weights", "_law_told", "_law_star_boxes", "_law_three_are", "_law_refused", "_law_doubled", "_law_pulls_hold"]
def loose : List Str := loose0 ++ loose1 ++ loose2
abbrev hk : PySem.W.Hook := hookX 20000 fa fn
def ob (s : PySem.W.SharedT) : AlX := lookG 20000 fa fn (HandSHeadRun.getT s)
theorem ob_eq (s : PySem.W.SharedT) : ob s = hk.obs s.abs := lookG_eq (HandSHeadRun.getT_eq s)
open HandSHeadRun PySem.W in
noncomputable abbrev Wh (w : World) := wholeF (fun p => stepQ (denQ tabQ) p w) fenceQ 40000 R0.prog
open HandSHeadRun PySem.W in
theorem runB (w : World) : (Wh w).map (fun x => (looksF R0.prog x.1.heap x.2.abs, seenQ (view R0.prog [89]) loose (importedModules R0.prog.main.body) (fun s => xlAt (view R0.prog [89]) [] s && recOk R0.toRowW.records s) x.2.abs)) = some (true, openGood (view R0.prog [89]) loose) := by kernel_rfl
open HandSHeadRun PySem.W in
theorem runC (w : World) : (Wh w).map (fun x => ((ob x.2).1, (ob x.2).2)) = some (true, fn.map DefX.val) := by kernel_rfl
theorem run (w : World) : HandSHeadRun.RunEqI R0 (PySem.W.view R0.prog [89]) hk ob 40000 loose w := run_of2 (runB w) (runC w)
end My
end

set_option Elab.async false
set_option linter.all false
set_option maxRecDepth 100000
set_option maxHeartbeats 4000000
set_option exponentiation.threshold 100000
namespace My
open PySem L2 Lw
section
variable {P : Program} {w : World} {K : PySem.W.Frag} {A : Str → Addr} {mg : Str → Option Value} {base : Heap} {f : Addr} {fd : FuncData}
theorem sc_l_draws : FnScope ["_law_script", "_law_draws_here", "_law_at", "_law_cell", "_law_k", "_law_mixed"] ["_law_script"] (defScope st_l_draws) := scope_ok rfl rfl rfl (by decide +kernel) rfl (by decide +kernel) (by decide +kernel)
theorem ok_l_draws (F : Fun K "_law_draws" "_law_draws" st_l_draws f fd) (T : Txt K A mg) : FnOk P w K mg base (L2.CX P w) 1 f fd ["_law_script"] (spN K (m_l_draws A)) := by
  refine def_okN (A := A) F sc_l_draws (fun cdv A0 outer s H E hr tk => ?_)
  refine ⟨_, (pss_cons (ps_set (i := 1) sc_l_draws.nd rfl (.inl rfl) (pe_lst pa_nil))
      (pss_cons (ps_for (passes_of rfl) rfl (pi_range1 (by rfl) T.range (pa_cons (pe_callB (call_min2 rfl) (by rfl) T.min (by decide +kernel) (pa_cons (pe_callB (call_len_seqQ (K := K) rfl) (by rfl) T.len PySem.boot_len (pa_cons (pv 0) pa_nil)) (pa_cons pe_int pa_nil))) pa_nil)) (pg_name (i := 2) sc_l_draws.nd rfl (.inl rfl)) (pss_cons (ps_set (i := 3) sc_l_draws.nd rfl (.inl rfl) (pe_callTy call_int1 (by rfl) T.int (by decide +kernel) (pa_cons (pe_ix (ix_seqQ (K := K) rfl) (pv 0) (pv 2) (fun _ _ => rfl)) pa_nil)))
      (pss_cons (ps_if (pt_cmpR op_lt (pv 3) pe_int (nomark _)) (pss_one (ps_set (i := 3) sc_l_draws.nd rfl (.inl rfl) (pe_op op_sub pe_int (pv 3)))) pss_nil)
      (pss_one (ps_if (pt_cmpR op_ge (pv 3) (pe_op op_pow pe_int pe_int) (nomark _)) (pss_one (ps_for (passes_of rfl) rfl (pi_range1 (by rfl) T.range (pa_cons pe_int pa_nil)) (pg_name (i := 4) sc_l_draws.nd rfl (.inl rfl)) (pss_one (ps_if (pt_cmpR op_gt (pv 3) pe_int (nomark _)) (pss_cons (ps_expr (pe_bm PySem.F.plainAttrs_list PySem.F.slot_list_append PySem.F.type_list_append mt_append (pv 1) (pa_cons (pe_op op_modN (pe_callTy call_int1 (by rfl) T.int (by decide +kernel) (pa_cons (pv 3) pa_nil)) pe_int) pa_nil)))
      (pss_one (ps_set (i := 3) sc_l_draws.nd rfl (.inl rfl) (pe_op op_fdivW (pv 3) pe_int)))) pss_nil)))) (pss_cons (ps_set (i := 5) sc_l_draws.nd rfl (.inl rfl) (pe_op op_modN (pe_callTy call_int1 (by rfl) T.int (by decide +kernel) (pa_cons (pe_op op_add (pe_op op_add (pe_op op_mulW (pv 3) pe_int) (pe_op op_mulW (pv 2) pe_int)) pe_int) pa_nil)) pe_int))
      (pss_one (ps_for (passes_of rfl) rfl (pi_range1 (by rfl) T.range (pa_cons pe_int pa_nil)) (pg_name (i := 4) sc_l_draws.nd rfl (.inl rfl)) (pss_cons (ps_set (i := 5) sc_l_draws.nd rfl (.inl rfl) (pe_op op_modN (pe_callTy call_int1 (by rfl) T.int (by decide +kernel) (pa_cons (pe_op op_add (pe_op op_add (pe_op op_add (pe_op op_add (pe_op op_mulW (pv 5) (pv 5)) (pe_op op_mulW (pv 5) pe_int)) (pe_op op_mulW (pv 4) pe_int)) (pe_op op_mulW (pv 2) pe_int)) pe_int) pa_nil)) pe_int))
      (pss_one (ps_expr (pe_bm PySem.F.plainAttrs_list PySem.F.slot_list_append PySem.F.type_list_append mt_append (pv 1) (pa_cons (pv 5) pa_nil)))))))))))))
      (pss_cons (ps_expr (pe_bm0 PySem.F.plainAttrs_list PySem.F.slot_list_reverse PySem.F.type_list_reverse mt_reverse (pv 1)))
      (pss_one (ps_ret (pv 1)))))), ?_⟩
  exact (ss_seq (ss_asgN (sn_lst sa_nil))
  (ss_seq (ss_for (si_rng1 (sa_cons (se_cb sc_i2 (sa_cons (se_cb sc_len (sa_cons se_var sa_nil)) (sa_cons se_int sa_nil))) sa_nil)) sb_name (ss_seq (ss_asg (se_cb sc_int (sa_cons (se_ix se_var se_var) sa_nil)))
  (ss_seq (ss_if (st_test (se_op (so_I0 fun _ _ => .bl) se_var se_int)) (ss_asg (se_op (so_I0 fun _ _ => .int) se_int se_var)) ss_next)
  (ss_if (st_test (se_op (so_I0 fun _ _ => .bl) se_var (se_op (so_I fun _ _ => .int) se_int se_int))) (ss_for (si_rng1 (sa_cons se_int sa_nil)) sb_name (ss_if (st_test (se_op (so_I0 fun _ _ => .bl) se_var se_int)) (ss_seq (ss_app (se_op (so_I fun _ _ => .int) (se_cb sc_int (sa_cons se_var sa_nil)) se_int))
  (ss_asg (se_op (so_I fun _ _ => .int) se_var se_int))) ss_next)) (ss_seq (ss_asg (se_op (so_I fun _ _ => .int) (se_cb sc_int (sa_cons (se_op (so_I0 fun _ _ => .int) (se_op (so_I0 fun _ _ => .int) (se_op (so_I fun _ _ => .int) se_var se_int) (se_op (so_I fun _ _ => .int) se_var se_int)) se_int) sa_nil)) se_int))
  (ss_for (si_rng1 (sa_cons se_int sa_nil)) sb_name (ss_seq (ss_asg (se_op (so_I fun _ _ => .int) (se_cb sc_int (sa_cons (se_op (so_I0 fun _ _ => .int) (se_op (so_I0 fun _ _ => .int) (se_op (so_I0 fun _ _ => .int) (se_op (so_I0 fun _ _ => .int) (se_op (so_I fun _ _ => .int) se_var se_var) (se_op (so_I fun _ _ => .int) se_var se_int)) (se_op (so_I fun _ _ => .int) se_var se_int)) (se_op (so_I fun _ _ => .int) se_var se_int)) se_int) sa_nil)) se_int))
  (ss_app se_var))))))))
  (ss_seq ss_rev
  (ss_ret se_var))))
theorem sc_l_take : FnScope ["_law_draws_here", "_law_many"] ["_law_draws_here", "_law_many"] (defScope st_l_take) := scope_ok rfl rfl rfl (by decide +kernel) rfl (by decide +kernel) (by decide +kernel)
theorem ok_l_take (F : Fun K "_law_take" "_law_take" st_l_take f fd) (T : Txt K A mg) : FnOk P w K mg base (L2.CX P w) 1 f fd ["_law_draws_here", "_law_many"] (spOf K (con A (m_l_take A))) := by
  refine def_okT F sc_l_take (fun gs M r h => run_con h) (fun cdv A0 outer s H E hr tk => ?_)
  refine ⟨_, (pss_cons (ps_if (pt_cmpR op_eq (pe_callB (call_len_seqQ (K := K) rfl) (by rfl) T.len PySem.boot_len (pa_cons (pv 0) pa_nil)) pe_int (nomark _)) (pss_one (ps_ret pe_int)) pss_nil)
      (pss_one (ps_ret (pe_op op_modN (pe_callTy call_int1 (by rfl) T.int (by decide +kernel) (pa_cons (pe_bm0 PySem.F.plainAttrs_list PySem.F.slot_list_pop PySem.F.type_list_pop mt_pop (pv 0)) pa_nil)) (pv 1))))), fun gs M r h => run_done (f := f_l_take A) ?_ h⟩
  exact (ss_seq (ss_if (st_test (se_op so_eq (se_cb sc_len (sa_cons se_var sa_nil)) se_int)) (ss_ret se_int) ss_next)
  (ss_ret (se_op (so_I fun _ _ => .int) (se_cb sc_int (sa_cons se_pop sa_nil)) se_var)))
theorem sc_l_pull : FnScope ["_law_draws_here", "_law_sort", "_law_menu", "_law_pull_here", "_law_word"] ["_law_draws_here", "_law_sort"] (defScope st_l_pull) := scope_ok rfl rfl rfl (by decide +kernel) rfl (by decide +kernel) (by decide +kernel)
theorem ok_l_pull (F : Fun K "_law_pull" "_law_pull" st_l_pull f fd) (T : Txt K A mg) {a_l_take : Addr} {d_l_take : FuncData} (h_l_take : DefKS P w K mg base "_law_take" 1 ["_law_draws_here", "_law_many"] (spOf K (con A (m_l_take A))) a_l_take d_l_take) : FnOk P w K mg base (L2.CX P w) 2 f fd ["_law_draws_here", "_law_sort"] (spOf K (con A (m_l_pull A))) := by
  refine def_okT F sc_l_pull (fun gs M r h => run_con h) (fun cdv A0 outer s H E hr tk => ?_)
  refine ⟨_, (pss_cons (ps_set (i := 2) sc_l_pull.nd rfl (.inl rfl) (pe_lst (pa_cons (pe_tup (pa_cons pe_int (pa_cons pe_int pa_nil))) (pa_cons (pe_tup (pa_cons pe_int (pa_cons pe_int pa_nil))) (pa_cons (pe_tup (pa_cons pe_int (pa_cons pe_int pa_nil))) (pa_cons (pe_tup (pa_cons pe_int (pa_cons pe_int pa_nil))) (pa_cons (pe_tup (pa_cons pe_int (pa_cons pe_int pa_nil))) (pa_cons (pe_tup (pa_cons pe_int (pa_cons pe_int pa_nil))) (pa_cons (pe_tup (pa_cons pe_int (pa_cons pe_int pa_nil))) (pa_cons (pe_tup (pa_cons pe_int (pa_cons pe_int pa_nil))) (pa_cons (pe_tup (pa_cons pe_int (pa_cons pe_int pa_nil))) (pa_cons (pe_tup (pa_cons pe_int (pa_cons pe_int pa_nil))) pa_nil))))))))))))
      (pss_cons (ps_set (i := 3) sc_l_pull.nd rfl (.inl rfl) (pe_ix (ix_seqQ (K := K) rfl) (pv 2) (pe_callS h_l_take.ok (hr.mono (by decide)) (by rfl) h_l_take.gm h_l_take.kp h_l_take.bd (fun σ => passAt tk σ) (pa_cons (pv 0) (pa_cons pe_int pa_nil))) (fun _ _ => rfl)))
      (pss_cons (ps_if (pt_cmpR op_eq (pv 1) pe_str (nomark _)) (pss_one (ps_ret (pv 3))) pss_nil)
      (pss_cons (ps_set (i := 4) sc_l_pull.nd rfl (.inl rfl) (pe_callS h_l_take.ok (hr.mono (by decide)) (by rfl) h_l_take.gm h_l_take.kp h_l_take.bd (fun σ => passAt tk σ) (pa_cons (pv 0) (pa_cons pe_int pa_nil))))
      (pss_cons (ps_if (pt_cmpR op_eq (pv 4) pe_int (nomark _)) (pss_one (ps_ret (pe_tup (pa_cons pe_int (pa_cons pe_int pa_nil))))) pss_nil)
      (pss_cons (ps_if (PW.pt (pw_and (pt_cmpR op_eq (pv 1) pe_str (nomark _)) (pw_and1 (pt_cmpR op_ge (pv 4) pe_int (nomark _))))) (pss_one (ps_ret (pe_tup (pa_cons (pe_un un_neg (pe_ix (ix_seqQ (K := K) rfl) (pv 3) pe_int (fun _ _ => rfl))) (pa_cons (pe_ix (ix_seqQ (K := K) rfl) (pv 3) pe_int (fun _ _ => rfl)) pa_nil))))) pss_nil)
      (pss_one (ps_ret (pv 3))))))))), fun gs M r h => run_done (f := f_l_pull A) ?_ h⟩
  exact (ss_seq (ss_asg (se_new (sn_lst (sa_cons (se_tup (sa_cons se_int (sa_cons se_int sa_nil))) (sa_cons (se_tup (sa_cons se_int (sa_cons se_int sa_nil))) (sa_cons (se_tup (sa_cons se_int (sa_cons se_int sa_nil))) (sa_cons (se_tup (sa_cons se_int (sa_cons se_int sa_nil))) (sa_cons (se_tup (sa_cons se_int (sa_cons se_int sa_nil))) (sa_cons (se_tup (sa_cons se_int (sa_cons se_int sa_nil))) (sa_cons (se_tup (sa_cons se_int (sa_cons se_int sa_nil))) (sa_cons (se_tup (sa_cons se_int (sa_cons se_int sa_nil))) (sa_cons (se_tup (sa_cons se_int (sa_cons se_int sa_nil))) (sa_cons (se_tup (sa_cons se_int (sa_cons se_int sa_nil))) sa_nil)))))))))))))
  (ss_seq (ss_asg (se_ix se_var (se_call (fun _ _ _ _ h => h) (sa_cons se_var (sa_cons se_int sa_nil)))))
  (ss_seq (ss_if (st_test (se_op so_eq se_var se_str)) (ss_ret se_var) ss_next)
  (ss_seq (ss_asg (se_call (fun _ _ _ _ h => h) (sa_cons se_var (sa_cons se_int sa_nil))))
  (ss_seq (ss_if (st_test (se_op so_eq se_var se_int)) (ss_ret (se_tup (sa_cons se_int (sa_cons se_int sa_nil)))) ss_next)
  (ss_seq (ss_if (st_and (st_test (se_op so_eq se_var se_str)) (st_test (se_op (so_I0 fun _ _ => .bl) se_var se_int))) (ss_ret (se_tup (sa_cons (se_un (fun _ => .int) (se_ix se_var se_int)) (sa_cons (se_ix se_var se_int) sa_nil)))) ss_next)
  (ss_ret se_var)))))))
theorem sc_is_integer : FnScope ["value"] ["value"] (defScope st_is_integer) := scope_ok rfl rfl rfl (by decide +kernel) rfl (by decide +kernel) (by decide +kernel)
theorem ok_is_integer (F : Fun K "is_integer" "is_integer" st_is_integer f fd) (T : Txt K A mg) : FnOk P w K mg base (L2.CX P w) 1 f fd ["value"] (spOf K (con A (m_is_integer A))) := by
  refine def_okT F sc_is_integer (fun gs M r h => run_con h) (fun cdv A0 outer s H E hr tk => ?_)
  refine ⟨_, (pss_one (ps_ret (pe_and (pe_callB (call_isiQ (K := K) rfl) (by rfl) T.isinstance (by decide +kernel) (pa_cons (pv 0) (pa_cons (pe_bltn (v := .ty "int") (by rfl) T.int bt_int rfl) pa_nil))) (pe_one (pe_not (pe_callB (call_isiQ (K := K) rfl) (by rfl) T.isinstance (by decide +kernel) (pa_cons (pv 0) (pa_cons (pe_bltn (v := .ty "bool") (by rfl) T.bool bt_bool rfl) pa_nil)))))))), fun gs M r h => run_done (f := f_is_integer A) ?_ h⟩
  exact (ss_ret (se_and (se_cb sc_is (sa_cons se_var (sa_cons se_ty sa_nil))) (se_not (se_cb sc_is (sa_cons se_var (sa_cons se_ty sa_nil))))))
theorem sc_is_row : FnScope ["value"] ["value"] (defScope st_is_row) := scope_ok rfl rfl rfl (by decide +kernel) rfl (by decide +kernel) (by decide +kernel)
theorem ok_is_row (F : Fun K "is_row" "is_row" st_is_row f fd) (T : Txt K A mg) : FnOk P w K mg base (L2.CX P w) 1 f fd ["value"] (spOf K (con A (m_is_row A))) := by
  refine def_okT F sc_is_row (fun gs M r h => run_con h) (fun cdv A0 outer s H E hr tk => ?_)
  refine ⟨_, (pss_one (ps_ret (pe_callB (call_isiTQ (K := K) rfl) (by rfl) T.isinstance (by decide +kernel) (pa_cons (pv 0) (pa_cons (pe_tup (pa_cons (pe_bltn (v := .ty "tuple") (by rfl) T.tuple bt_tuple rfl) (pa_cons (pe_bltn (v := .ty "list") (by rfl) T.list bt_list rfl) pa_nil))) pa_nil))))), fun gs M r h => run_done (f := f_is_row A) ?_ h⟩
  exact (ss_ret (se_isRow se_var))
theorem sc_is_ratio : FnScope ["value"] ["value"] (defScope st_is_ratio) := scope_ok rfl rfl rfl (by decide +kernel) rfl (by decide +kernel) (by decide +kernel)
theorem ok_is_ratio (F : Fun K "is_ratio" "is_ratio" st_is_ratio f fd) (T : Txt K A mg) {a_is_integer : Addr} {d_is_integer : FuncData} (h_is_integer : DefKS P w K mg base "is_integer" 1 ["value"] (spOf K (con A (m_is_integer A))) a_is_integer d_is_integer) {a_is_row : Addr} {d_is_row : FuncData} (h_is_row : DefKS P w K mg base "is_row" 1 ["value"] (spOf K (con A (m_is_row A))) a_is_row d_is_row) : FnOk P w K mg base (L2.CX P w) 2 f fd ["value"] (spOf K (con A (m_is_ratio A))) := by
  refine def_okT F sc_is_ratio (fun gs M r h => run_con h) (fun cdv A0 outer s H E hr tk => ?_)
  refine ⟨_, (pss_cons (ps_if (pt_val (pe_callS h_is_integer.ok (hr.mono (by decide)) (by rfl) h_is_integer.gm h_is_integer.kp h_is_integer.bd (fun σ => passAt tk σ) (pa_cons (pv 0) pa_nil))) (pss_one (ps_ret pe_bl)) pss_nil)
      (pss_cons (ps_if (PW.pt (pw_or (pt_not (pt_val (pe_callS h_is_row.ok (hr.mono (by decide)) (by rfl) h_is_row.gm h_is_row.kp h_is_row.bd (fun σ => passAt tk σ) (pa_cons (pv 0) pa_nil)))) (pw_or1 (pt_cmpR op_ne (pe_callB (call_len_seqQ (K := K) rfl) (by rfl) T.len PySem.boot_len (pa_cons (pv 0) pa_nil)) pe_int (nomark _))))) (pss_one (ps_ret pe_bl)) pss_nil)
      (pss_one (ps_ret (pe_and (pe_callS h_is_integer.ok (hr.mono (by decide)) (by rfl) h_is_integer.gm h_is_integer.kp h_is_integer.bd (fun σ => passAt tk σ) (pa_cons (pe_ix (ix_seqQ (K := K) rfl) (pv 0) pe_int (fun _ _ => rfl)) pa_nil)) (pe_and (pe_callS h_is_integer.ok (hr.mono (by decide)) (by rfl) h_is_integer.gm h_is_integer.kp h_is_integer.bd (fun σ => passAt tk σ) (pa_cons (pe_ix (ix_seqQ (K := K) rfl) (pv 0) pe_int (fun _ _ => rfl)) pa_nil)) (pe_one (pe_cmpR op_ge (pe_ix (ix_seqQ (K := K) rfl) (pv 0) pe_int (fun _ _ => rfl)) pe_int (nomark _))))))))), fun gs M r h => run_done (f := f_is_ratio A) ?_ h⟩
  exact (ss_seq (ss_if (st_B (se_call (fun _ _ _ _ h => h) (sa_cons se_var sa_nil))) (ss_ret se_bl) ss_next)
  (ss_seq (ss_if (st_or (st_not (st_B (se_call (fun _ _ _ _ h => h) (sa_cons se_var sa_nil)))) (st_test (se_op so_ne (se_cb sc_len (sa_cons se_var sa_nil)) se_int))) (ss_ret se_bl) ss_next)
  (ss_ret (se_and (se_call (fun _ _ _ _ h => h) (sa_cons (se_ix se_var se_int) sa_nil)) (se_and (se_call (fun _ _ _ _ h => h) (sa_cons (se_ix se_var se_int) sa_nil)) (se_op (so_I0 fun _ _ => .bl) (se_ix se_var se_int) se_int))))))
end
end My

set_option Elab.async false
set_option linter.all false
set_option maxRecDepth 100000
set_option maxHeartbeats 4000000
set_option exponentiation.threshold 100000
namespace My
open PySem L2 Lw
section
variable {P : Program} {w : World} {K : PySem.W.Frag} {A : Str → Addr} {mg : Str → Option Value} {base : Heap} {f : Addr} {fd : FuncData}
theorem sc_lowest : FnScope ["top", "bottom", "common"] ["top", "bottom"] (defScope st_lowest) := scope_ok rfl rfl rfl (by decide +kernel) rfl (by decide +kernel) (by decide +kernel)
theorem ok_lowest (F : Fun K "lowest" "lowest" st_lowest f fd) (T : Txt K A mg) : FnOk P w K mg base (L2.CX P w) 1 f fd ["top", "bottom"] (spOf K (con A (m_lowest A))) := by
  refine def_okT F sc_lowest (fun gs M r h => run_con h) (fun cdv A0 outer s H E hr tk => ?_)
  refine ⟨_, (pss_cons (ps_set (i := 2) sc_lowest.nd rfl (.inl rfl) (pe_callBfun cr_gcd (by rfl) T.gcd (pa_cons (pv 0) (pa_cons (pv 1) pa_nil))))
      (pss_one (ps_ret (pe_tup (pa_cons (pe_op op_fdivW (pv 0) (pv 2)) (pa_cons (pe_op op_fdivW (pv 1) (pv 2)) pa_nil)))))), fun gs M r h => run_done (f := f_lowest A) ?_ h⟩
  exact (ss_seq (ss_asg (se_cb sc_gcd (sa_cons se_var (sa_cons se_var sa_nil))))
  (ss_ret (se_tup (sa_cons (se_op (so_I fun _ _ => .int) se_var se_var) (sa_cons (se_op (so_I fun _ _ => .int) se_var se_var) sa_nil)))))
theorem sc_ratio_of : FnScope ["number"] ["number"] (defScope st_ratio_of) := scope_ok rfl rfl rfl (by decide +kernel) rfl (by decide +kernel) (by decide +kernel)
theorem ok_ratio_of (F : Fun K "ratio_of" "ratio_of" st_ratio_of f fd) (T : Txt K A mg) {a_is_ratio : Addr} {d_is_ratio : FuncData} (h_is_ratio : DefKS P w K mg base "is_ratio" 2 ["value"] (spOf K (con A (m_is_ratio A))) a_is_ratio d_is_ratio) {a_is_integer : Addr} {d_is_integer : FuncData} (h_is_integer : DefKS P w K mg base "is_integer" 1 ["value"] (spOf K (con A (m_is_integer A))) a_is_integer d_is_integer) {a_lowest : Addr} {d_lowest : FuncData} (h_lowest : DefKS P w K mg base "lowest" 1 ["top", "bottom"] (spOf K (con A (m_lowest A))) a_lowest d_lowest) : FnOk P w K mg base (L2.CX P w) 3 f fd ["number"] (spOf K (con A (m_ratio_of A))) := by
  refine def_okT F sc_ratio_of (fun gs M r h => run_con h) (fun cdv A0 outer s H E hr tk => ?_)
  refine ⟨_, (pss_cons (ps_if (pt_not (pt_val (pe_callS h_is_ratio.ok (hr.mono (by decide)) (by rfl) h_is_ratio.gm h_is_ratio.kp h_is_ratio.bd (fun σ => passAt tk σ) (pa_cons (pv 0) pa_nil)))) (pss_one (ps_raise rfl tk (pmk_own0 T.x_BadRatio (by rfl)))) pss_nil)
      (pss_cons (ps_if (pt_val (pe_callS h_is_integer.ok (hr.mono (by decide)) (by rfl) h_is_integer.gm h_is_integer.kp h_is_integer.bd (fun σ => passAt tk σ) (pa_cons (pv 0) pa_nil))) (pss_one (ps_ret (pe_tup (pa_cons (pe_callTy call_int1 (by rfl) T.int (by decide +kernel) (pa_cons (pv 0) pa_nil)) (pa_cons pe_int pa_nil))))) pss_nil)
      (pss_one (ps_ret (pe_callS h_lowest.ok (hr.mono (by decide)) (by rfl) h_lowest.gm h_lowest.kp h_lowest.bd (fun σ => passAt tk σ) (pa_cons (pe_callTy call_int1 (by rfl) T.int (by decide +kernel) (pa_cons (pe_ix (ix_seqQ (K := K) rfl) (pv 0) pe_int (fun _ _ => rfl)) pa_nil)) (pa_cons (pe_callTy call_int1 (by rfl) T.int (by decide +kernel) (pa_cons (pe_ix (ix_seqQ (K := K) rfl) (pv 0) pe_int (fun _ _ => rfl)) pa_nil)) pa_nil))))))), fun gs M r h => run_done (f := f_ratio_of A) ?_ h⟩
  exact (ss_seq (ss_if (st_not (st_B (se_call (fun _ _ _ _ h => h) (sa_cons se_var sa_nil)))) ss_raise ss_next)
  (ss_seq (ss_if (st_B (se_call (fun _ _ _ _ h => h) (sa_cons se_var sa_nil))) (ss_ret (se_tup (sa_cons (se_cb sc_int (sa_cons se_var sa_nil)) (sa_cons se_int sa_nil)))) ss_next)
  (ss_ret (se_call (fun _ _ _ _ h => h) (sa_cons (se_cb sc_int (sa_cons (se_ix se_var se_int) sa_nil)) (sa_cons (se_cb sc_int (sa_cons (se_ix se_var se_int) sa_nil)) sa_nil))))))
theorem sc_pull_of : FnScope ["number", "p", "q"] ["number"] (defScope st_pull_of) := scope_ok rfl rfl rfl (by decide +kernel) rfl (by decide +kernel) (by decide +kernel)
theorem ok_pull_of (F : Fun K "pull_of" "pull_of" st_pull_of f fd) (T : Txt K A mg) {a_ratio_of : Addr} {d_ratio_of : FuncData} (h_ratio_of : DefKS P w K mg base "ratio_of" 3 ["number"] (spOf K (con A (m_ratio_of A))) a_ratio_of d_ratio_of) : FnOk P w K mg base (L2.CX P w) 4 f fd ["number"] (spOf K (con A (m_pull_of A))) := by
  refine def_okT F sc_pull_of (fun gs M r h => run_con h) (fun cdv A0 outer s H E hr tk => ?_)
  refine ⟨_, (pss_cons (ps_asg (pe_callS h_ratio_of.ok (hr.mono (by decide)) (by rfl) h_ratio_of.gm h_ratio_of.kp h_ratio_of.bd (fun σ => passAt tk σ) (pa_cons (pv 0) pa_nil)) (pg_rowQ (K := K) rfl rfl (pgs_cons (pg_name (i := 1) sc_pull_of.nd rfl (.inl rfl)) (pgs_cons (pg_name (i := 2) sc_pull_of.nd rfl (.inl rfl)) pgs_nil))))
      (pss_cons (ps_if (pt_cmpR op_ge (pe_callB call_abs (by rfl) T.abs (by decide +kernel) (pa_cons (pv 1) pa_nil)) (pv 2) (nomark _)) (pss_one (ps_raise rfl tk (pmk_own0 T.x_BadRatio (by rfl)))) pss_nil)
      (pss_one (ps_ret (pe_tup (pa_cons (pv 1) (pa_cons (pv 2) pa_nil))))))), fun gs M r h => run_done (f := f_pull_of A) ?_ h⟩
  exact (ss_seq (ss_asgT (se_call (fun _ _ _ _ h => h) (sa_cons se_var sa_nil)) (sb_row (sbs_cons sb_name (sbs_cons sb_name sbs_nil))))
  (ss_seq (ss_if (st_test (se_op (so_I0 fun _ _ => .bl) (se_cb sc_i1 (sa_cons se_var sa_nil)) se_var)) ss_raise ss_next)
  (ss_ret (se_tup (sa_cons se_var (sa_cons se_var sa_nil))))))
theorem sc_times : FnScope ["one", "other", "p", "q", "r", "s"] ["one", "other"] (defScope st_times) := scope_ok rfl rfl rfl (by decide +kernel) rfl (by decide +kernel) (by decide +kernel)
theorem ok_times (F : Fun K "times" "times" st_times f fd) (T : Txt K A mg) {a_ratio_of : Addr} {d_ratio_of : FuncData} (h_ratio_of : DefKS P w K mg base "ratio_of" 3 ["number"] (spOf K (con A (m_ratio_of A))) a_ratio_of d_ratio_of) {a_lowest : Addr} {d_lowest : FuncData} (h_lowest : DefKS P w K mg base "lowest" 1 ["top", "bottom"] (spOf K (con A (m_lowest A))) a_lowest d_lowest) : FnOk P w K mg base (L2.CX P w) 4 f fd ["one", "other"] (spOf K (con A (m_times A))) := by
  refine def_okT F sc_times (fun gs M r h => run_con h) (fun cdv A0 outer s H E hr tk => ?_)
  refine ⟨_, (pss_cons (ps_asg (pe_callS h_ratio_of.ok (hr.mono (by decide)) (by rfl) h_ratio_of.gm h_ratio_of.kp h_ratio_of.bd (fun σ => passAt tk σ) (pa_cons (pv 0) pa_nil)) (pg_rowQ (K := K) rfl rfl (pgs_cons (pg_name (i := 2) sc_times.nd rfl (.inl rfl)) (pgs_cons (pg_name (i := 3) sc_times.nd rfl (.inl rfl)) pgs_nil))))
      (pss_cons (ps_asg (pe_callS h_ratio_of.ok (hr.mono (by decide)) (by rfl) h_ratio_of.gm h_ratio_of.kp h_ratio_of.bd (fun σ => passAt tk σ) (pa_cons (pv 1) pa_nil)) (pg_rowQ (K := K) rfl rfl (pgs_cons (pg_name (i := 4) sc_times.nd rfl (.inl rfl)) (pgs_cons (pg_name (i := 5) sc_times.nd rfl (.inl rfl)) pgs_nil))))
      (pss_one (ps_ret (pe_callS h_lowest.ok (hr.mono (by decide)) (by rfl) h_lowest.gm h_lowest.kp h_lowest.bd (fun σ => passAt tk σ) (pa_cons (pe_op op_mulW (pv 2) (pv 4)) (pa_cons (pe_op op_mulW (pv 3) (pv 5)) pa_nil))))))), fun gs M r h => run_done (f := f_times A) ?_ h⟩
  exact (ss_seq (ss_asgT (se_call (fun _ _ _ _ h => h) (sa_cons se_var sa_nil)) (sb_row (sbs_cons sb_name (sbs_cons sb_name sbs_nil))))
  (ss_seq (ss_asgT (se_call (fun _ _ _ _ h => h) (sa_cons se_var sa_nil)) (sb_row (sbs_cons sb_name (sbs_cons sb_name sbs_nil))))
  (ss_ret (se_call (fun _ _ _ _ h => h) (sa_cons (se_op (so_I fun _ _ => .int) se_var se_var) (sa_cons (se_op (so_I fun _ _ => .int) se_var se_var) sa_nil))))))
theorem sc_star_means : FnScope ["t1", "t2", "t3", "one", "two", "three"] ["t1", "t2", "t3"] (defScope st_star_means) := scope_ok rfl rfl rfl (by decide +kernel) rfl (by decide +kernel) (by decide +kernel)
theorem ok_star_means (F : Fun K "star_means" "star_means" st_star_means f fd) (T : Txt K A mg) {a_pull_of : Addr} {d_pull_of : FuncData} (h_pull_of : DefKS P w K mg base "pull_of" 4 ["number"] (spOf K (con A (m_pull_of A))) a_pull_of d_pull_of) {a_times : Addr} {d_times : FuncData} (h_times : DefKS P w K mg base "times" 4 ["one", "other"] (spOf K (con A (m_times A))) a_times d_times) : FnOk P w K mg base (L2.CX P w) 5 f fd ["t1", "t2", "t3"] (spOf K (con A (m_star_means A))) := by
  refine def_okT F sc_star_means (fun gs M r h => run_con h) (fun cdv A0 outer s H E hr tk => ?_)
  refine ⟨_, (pss_cons (ps_par3 (i := 3) (j := 4) (l := 5) rfl sc_star_means.nd rfl rfl rfl (by decide) (by decide) (by decide) rfl rfl rfl (pa_cons (pe_callS h_pull_of.ok (hr.mono (by decide)) (by rfl) h_pull_of.gm h_pull_of.kp h_pull_of.bd (fun σ => passAt tk σ) (pa_cons (pv 0) pa_nil)) (pa_cons (pe_callS h_pull_of.ok (hr.mono (by decide)) (by rfl) h_pull_of.gm h_pull_of.kp h_pull_of.bd (fun σ => passAt tk σ) (pa_cons (pv 1) pa_nil)) (pa_cons (pe_callS h_pull_of.ok (hr.mono (by decide)) (by rfl) h_pull_of.gm h_pull_of.kp h_pull_of.bd (fun σ => passAt tk σ) (pa_cons (pv 2) pa_nil)) pa_nil))) (by rfl))
      (pss_one (ps_ret (pe_tup (pa_cons (pe_callS h_times.ok (hr.mono (by decide)) (by rfl) h_times.gm h_times.kp h_times.bd (fun σ => passAt tk σ) (pa_cons (pv 3) (pa_cons (pv 4) pa_nil))) (pa_cons (pe_callS h_times.ok (hr.mono (by decide)) (by rfl) h_times.gm h_times.kp h_times.bd (fun σ => passAt tk σ) (pa_cons (pv 3) (pa_cons (pv 5) pa_nil))) (pa_cons (pe_callS h_times.ok (hr.mono (by decide)) (by rfl) h_times.gm h_times.kp h_times.bd (fun σ => passAt tk σ) (pa_cons (pv 4) (pa_cons (pv 5) pa_nil))) pa_nil))))))), fun gs M r h => run_done (f := f_star_means A) ?_ h⟩
  exact (ss_seq (ss_par3 (sa_cons (se_call (fun _ _ _ _ h => h) (sa_cons se_var sa_nil)) (sa_cons (se_call (fun _ _ _ _ h => h) (sa_cons se_var sa_nil)) (sa_cons (se_call (fun _ _ _ _ h => h) (sa_cons se_var sa_nil)) sa_nil))))
  (ss_ret (se_tup (sa_cons (se_call (fun _ _ _ _ h => h) (sa_cons se_var (sa_cons se_var sa_nil))) (sa_cons (se_call (fun _ _ _ _ h => h) (sa_cons se_var (sa_cons se_var sa_nil))) (sa_cons (se_call (fun _ _ _ _ h => h) (sa_cons se_var (sa_cons se_var sa_nil))) sa_nil))))))
theorem sc_minus : FnScope ["one", "other", "p", "q", "r", "s"] ["one", "other"] (defScope st_minus) := scope_ok rfl rfl rfl (by decide +kernel) rfl (by decide +kernel) (by decide +kernel)
theorem ok_minus (F : Fun K "minus" "minus" st_minus f fd) (T : Txt K A mg) {a_ratio_of : Addr} {d_ratio_of : FuncData} (h_ratio_of : DefKS P w K mg base "ratio_of" 3 ["number"] (spOf K (con A (m_ratio_of A))) a_ratio_of d_ratio_of) {a_lowest : Addr} {d_lowest : FuncData} (h_lowest : DefKS P w K mg base "lowest" 1 ["top", "bottom"] (spOf K (con A (m_lowest A))) a_lowest d_lowest) : FnOk P w K mg base (L2.CX P w) 4 f fd ["one", "other"] (spOf K (con A (m_minus A))) := by
  refine def_okT F sc_minus (fun gs M r h => run_con h) (fun cdv A0 outer s H E hr tk => ?_)
  refine ⟨_, (pss_cons (ps_asg (pe_callS h_ratio_of.ok (hr.mono (by decide)) (by rfl) h_ratio_of.gm h_ratio_of.kp h_ratio_of.bd (fun σ => passAt tk σ) (pa_cons (pv 0) pa_nil)) (pg_rowQ (K := K) rfl rfl (pgs_cons (pg_name (i := 2) sc_minus.nd rfl (.inl rfl)) (pgs_cons (pg_name (i := 3) sc_minus.nd rfl (.inl rfl)) pgs_nil))))
      (pss_cons (ps_asg (pe_callS h_ratio_of.ok (hr.mono (by decide)) (by rfl) h_ratio_of.gm h_ratio_of.kp h_ratio_of.bd (fun σ => passAt tk σ) (pa_cons (pv 1) pa_nil)) (pg_rowQ (K := K) rfl rfl (pgs_cons (pg_name (i := 4) sc_minus.nd rfl (.inl rfl)) (pgs_cons (pg_name (i := 5) sc_minus.nd rfl (.inl rfl)) pgs_nil))))
      (pss_one (ps_ret (pe_callS h_lowest.ok (hr.mono (by decide)) (by rfl) h_lowest.gm h_lowest.kp h_lowest.bd (fun σ => passAt tk σ) (pa_cons (pe_op op_sub (pe_op op_mulW (pv 2) (pv 5)) (pe_op op_mulW (pv 4) (pv 3))) (pa_cons (pe_op op_mulW (pv 3) (pv 5)) pa_nil))))))), fun gs M r h => run_done (f := f_minus A) ?_ h⟩
  exact (ss_seq (ss_asgT (se_call (fun _ _ _ _ h => h) (sa_cons se_var sa_nil)) (sb_row (sbs_cons sb_name (sbs_cons sb_name sbs_nil))))
  (ss_seq (ss_asgT (se_call (fun _ _ _ _ h => h) (sa_cons se_var sa_nil)) (sb_row (sbs_cons sb_name (sbs_cons sb_name sbs_nil))))
  (ss_ret (se_call (fun _ _ _ _ h => h) (sa_cons (se_op (so_I0 fun _ _ => .int) (se_op (so_I fun _ _ => .int) se_var se_var) (se_op (so_I fun _ _ => .int) se_var se_var)) (sa_cons (se_op (so_I fun _ _ => .int) se_var se_var) sa_nil))))))
end
end My

set_option Elab.async false
set_option linter.all false
set_option maxRecDepth 100000
set_option maxHeartbeats 4000000
set_option exponentiation.threshold 100000
namespace My
open PySem L2 Lw
section
variable {P : Program} {w : World} {K : PySem.W.Frag} {A : Str → Addr} {mg : Str → Option Value} {base : Heap} {f : Addr} {fd : FuncData}
theorem sc_over : FnScope ["one", "other", "p", "q", "r", "s"] ["one", "other"] (defScope st_over) := scope_ok rfl rfl rfl (by decide +kernel) rfl (by decide +kernel) (by decide +kernel)
theorem ok_over (F : Fun K "over" "over" st_over f fd) (T : Txt K A mg) {a_ratio_of : Addr} {d_ratio_of : FuncData} (h_ratio_of : DefKS P w K mg base "ratio_of" 3 ["number"] (spOf K (con A (m_ratio_of A))) a_ratio_of d_ratio_of) {a_lowest : Addr} {d_lowest : FuncData} (h_lowest : DefKS P w K mg base "lowest" 1 ["top", "bottom"] (spOf K (con A (m_lowest A))) a_lowest d_lowest) : FnOk P w K mg base (L2.CX P w) 4 f fd ["one", "other"] (spOf K (con A (m_over A))) := by
  refine def_okT F sc_over (fun gs M r h => run_con h) (fun cdv A0 outer s H E hr tk => ?_)
  refine ⟨_, (pss_cons (ps_asg (pe_callS h_ratio_of.ok (hr.mono (by decide)) (by rfl) h_ratio_of.gm h_ratio_of.kp h_ratio_of.bd (fun σ => passAt tk σ) (pa_cons (pv 0) pa_nil)) (pg_rowQ (K := K) rfl rfl (pgs_cons (pg_name (i := 2) sc_over.nd rfl (.inl rfl)) (pgs_cons (pg_name (i := 3) sc_over.nd rfl (.inl rfl)) pgs_nil))))
      (pss_cons (ps_asg (pe_callS h_ratio_of.ok (hr.mono (by decide)) (by rfl) h_ratio_of.gm h_ratio_of.kp h_ratio_of.bd (fun σ => passAt tk σ) (pa_cons (pv 1) pa_nil)) (pg_rowQ (K := K) rfl rfl (pgs_cons (pg_name (i := 4) sc_over.nd rfl (.inl rfl)) (pgs_cons (pg_name (i := 5) sc_over.nd rfl (.inl rfl)) pgs_nil))))
      (pss_cons (ps_if (pt_cmpR op_eq (pv 4) pe_int (nomark _)) (pss_one (ps_raise rfl tk (pmk_own0 T.x_BadRatio (by rfl)))) pss_nil)
      (pss_cons (ps_if (pt_cmpR op_lt (pv 4) pe_int (nomark _)) (pss_one (ps_ret (pe_callS h_lowest.ok (hr.mono (by decide)) (by rfl) h_lowest.gm h_lowest.kp h_lowest.bd (fun σ => passAt tk σ) (pa_cons (pe_op op_mulW (pe_un un_neg (pv 2)) (pv 5)) (pa_cons (pe_op op_mulW (pe_un un_neg (pv 3)) (pv 4)) pa_nil))))) pss_nil)
      (pss_one (ps_ret (pe_callS h_lowest.ok (hr.mono (by decide)) (by rfl) h_lowest.gm h_lowest.kp h_lowest.bd (fun σ => passAt tk σ) (pa_cons (pe_op op_mulW (pv 2) (pv 5)) (pa_cons (pe_op op_mulW (pv 3) (pv 4)) pa_nil))))))))), fun gs M r h => run_done (f := f_over A) ?_ h⟩
  exact (ss_seq (ss_asgT (se_call (fun _ _ _ _ h => h) (sa_cons se_var sa_nil)) (sb_row (sbs_cons sb_name (sbs_cons sb_name sbs_nil))))
  (ss_seq (ss_asgT (se_call (fun _ _ _ _ h => h) (sa_cons se_var sa_nil)) (sb_row (sbs_cons sb_name (sbs_cons sb_name sbs_nil))))
  (ss_seq (ss_if (st_test (se_op so_eq se_var se_int)) ss_raise ss_next)
  (ss_seq (ss_if (st_test (se_op (so_I0 fun _ _ => .bl) se_var se_int)) (ss_ret (se_call (fun _ _ _ _ h => h) (sa_cons (se_op (so_I fun _ _ => .int) (se_un (fun _ => .int) se_var) se_var) (sa_cons (se_op (so_I fun _ _ => .int) (se_un (fun _ => .int) se_var) se_var) sa_nil)))) ss_next)
  (ss_ret (se_call (fun _ _ _ _ h => h) (sa_cons (se_op (so_I fun _ _ => .int) se_var se_var) (sa_cons (se_op (so_I fun _ _ => .int) se_var se_var) sa_nil))))))))
theorem sc_plus : FnScope ["one", "other", "p", "q", "r", "s"] ["one", "other"] (defScope st_plus) := scope_ok rfl rfl rfl (by decide +kernel) rfl (by decide +kernel) (by decide +kernel)
theorem ok_plus (F : Fun K "plus" "plus" st_plus f fd) (T : Txt K A mg) {a_ratio_of : Addr} {d_ratio_of : FuncData} (h_ratio_of : DefKS P w K mg base "ratio_of" 3 ["number"] (spOf K (con A (m_ratio_of A))) a_ratio_of d_ratio_of) {a_lowest : Addr} {d_lowest : FuncData} (h_lowest : DefKS P w K mg base "lowest" 1 ["top", "bottom"] (spOf K (con A (m_lowest A))) a_lowest d_lowest) : FnOk P w K mg base (L2.CX P w) 4 f fd ["one", "other"] (spOf K (con A (m_plus A))) := by
  refine def_okT F sc_plus (fun gs M r h => run_con h) (fun cdv A0 outer s H E hr tk => ?_)
  refine ⟨_, (pss_cons (ps_asg (pe_callS h_ratio_of.ok (hr.mono (by decide)) (by rfl) h_ratio_of.gm h_ratio_of.kp h_ratio_of.bd (fun σ => passAt tk σ) (pa_cons (pv 0) pa_nil)) (pg_rowQ (K := K) rfl rfl (pgs_cons (pg_name (i := 2) sc_plus.nd rfl (.inl rfl)) (pgs_cons (pg_name (i := 3) sc_plus.nd rfl (.inl rfl)) pgs_nil))))
      (pss_cons (ps_asg (pe_callS h_ratio_of.ok (hr.mono (by decide)) (by rfl) h_ratio_of.gm h_ratio_of.kp h_ratio_of.bd (fun σ => passAt tk σ) (pa_cons (pv 1) pa_nil)) (pg_rowQ (K := K) rfl rfl (pgs_cons (pg_name (i := 4) sc_plus.nd rfl (.inl rfl)) (pgs_cons (pg_name (i := 5) sc_plus.nd rfl (.inl rfl)) pgs_nil))))
      (pss_one (ps_ret (pe_callS h_lowest.ok (hr.mono (by decide)) (by rfl) h_lowest.gm h_lowest.kp h_lowest.bd (fun σ => passAt tk σ) (pa_cons (pe_op op_add (pe_op op_mulW (pv 2) (pv 5)) (pe_op op_mulW (pv 4) (pv 3))) (pa_cons (pe_op op_mulW (pv 3) (pv 5)) pa_nil))))))), fun gs M r h => run_done (f := f_plus A) ?_ h⟩
  exact (ss_seq (ss_asgT (se_call (fun _ _ _ _ h => h) (sa_cons se_var sa_nil)) (sb_row (sbs_cons sb_name (sbs_cons sb_name sbs_nil))))
  (ss_seq (ss_asgT (se_call (fun _ _ _ _ h => h) (sa_cons se_var sa_nil)) (sb_row (sbs_cons sb_name (sbs_cons sb_name sbs_nil))))
  (ss_ret (se_call (fun _ _ _ _ h => h) (sa_cons (se_op (so_I0 fun _ _ => .int) (se_op (so_I fun _ _ => .int) se_var se_var) (se_op (so_I fun _ _ => .int) se_var se_var)) (sa_cons (se_op (so_I fun _ _ => .int) se_var se_var) sa_nil))))))
theorem sc_double_at : FnScope ["one", "other", "third", "a", "b", "c", "above"] ["one", "other", "third"] (defScope st_double_at) := scope_ok rfl rfl rfl (by decide +kernel) rfl (by decide +kernel) (by decide +kernel)
theorem ok_double_at (F : Fun K "double_at" "double_at" st_double_at f fd) (T : Txt K A mg) {a_times : Addr} {d_times : FuncData} (h_times : DefKS P w K mg base "times" 4 ["one", "other"] (spOf K (con A (m_times A))) a_times d_times) {a_minus : Addr} {d_minus : FuncData} (h_minus : DefKS P w K mg base "minus" 4 ["one", "other"] (spOf K (con A (m_minus A))) a_minus d_minus) {a_over : Addr} {d_over : FuncData} (h_over : DefKS P w K mg base "over" 4 ["one", "other"] (spOf K (con A (m_over A))) a_over d_over) {a_plus : Addr} {d_plus : FuncData} (h_plus : DefKS P w K mg base "plus" 4 ["one", "other"] (spOf K (con A (m_plus A))) a_plus d_plus) : FnOk P w K mg base (L2.CX P w) 5 f fd ["one", "other", "third"] (spOf K (con A (m_double_at A))) := by
  refine def_okT F sc_double_at (fun gs M r h => run_con h) (fun cdv A0 outer s H E hr tk => ?_)
  refine ⟨_, (pss_cons (ps_par3 (i := 3) (j := 4) (l := 5) rfl sc_double_at.nd rfl rfl rfl (by decide) (by decide) (by decide) rfl rfl rfl (pa_cons (pe_callS h_times.ok (hr.mono (by decide)) (by rfl) h_times.gm h_times.kp h_times.bd (fun σ => passAt tk σ) (pa_cons (pv 0) (pa_cons (pv 0) pa_nil))) (pa_cons (pe_callS h_times.ok (hr.mono (by decide)) (by rfl) h_times.gm h_times.kp h_times.bd (fun σ => passAt tk σ) (pa_cons (pv 1) (pa_cons (pv 1) pa_nil))) (pa_cons (pe_callS h_times.ok (hr.mono (by decide)) (by rfl) h_times.gm h_times.kp h_times.bd (fun σ => passAt tk σ) (pa_cons (pv 2) (pa_cons (pv 2) pa_nil))) pa_nil))) (by rfl))
      (pss_cons (ps_set (i := 6) sc_double_at.nd rfl (.inl rfl) (pe_callS h_times.ok (hr.mono (by decide)) (by rfl) h_times.gm h_times.kp h_times.bd (fun σ => passAt tk σ) (pa_cons pe_int (pa_cons (pe_callS h_times.ok (hr.mono (by decide)) (by rfl) h_times.gm h_times.kp h_times.bd (fun σ => passAt tk σ) (pa_cons (pe_callS h_times.ok (hr.mono (by decide)) (by rfl) h_times.gm h_times.kp h_times.bd (fun σ => passAt tk σ) (pa_cons (pv 0) (pa_cons (pv 1) pa_nil))) (pa_cons (pe_callS h_minus.ok (hr.mono (by decide)) (by rfl) h_minus.gm h_minus.kp h_minus.bd (fun σ => passAt tk σ) (pa_cons pe_int (pa_cons (pv 5) pa_nil))) pa_nil))) pa_nil))))
      (pss_one (ps_ret (pe_callS h_over.ok (hr.mono (by decide)) (by rfl) h_over.gm h_over.kp h_over.bd (fun σ => passAt tk σ) (pa_cons (pv 6) (pa_cons (pe_callS h_minus.ok (hr.mono (by decide)) (by rfl) h_minus.gm h_minus.kp h_minus.bd (fun σ => passAt tk σ) (pa_cons (pe_callS h_plus.ok (hr.mono (by decide)) (by rfl) h_plus.gm h_plus.kp h_plus.bd (fun σ => passAt tk σ) (pa_cons pe_int (pa_cons (pe_callS h_times.ok (hr.mono (by decide)) (by rfl) h_times.gm h_times.kp h_times.bd (fun σ => passAt tk σ) (pa_cons (pv 3) (pa_cons (pv 4) pa_nil))) pa_nil))) (pa_cons (pe_callS h_times.ok (hr.mono (by decide)) (by rfl) h_times.gm h_times.kp h_times.bd (fun σ => passAt tk σ) (pa_cons (pv 5) (pa_cons (pe_callS h_plus.ok (hr.mono (by decide)) (by rfl) h_plus.gm h_plus.kp h_plus.bd (fun σ => passAt tk σ) (pa_cons (pv 3) (pa_cons (pv 4) pa_nil))) pa_nil))) pa_nil))) pa_nil))))))), fun gs M r h => run_done (f := f_double_at A) ?_ h⟩
  exact (ss_seq (ss_par3 (sa_cons (se_call (fun _ _ _ _ h => h) (sa_cons se_var (sa_cons se_var sa_nil))) (sa_cons (se_call (fun _ _ _ _ h => h) (sa_cons se_var (sa_cons se_var sa_nil))) (sa_cons (se_call (fun _ _ _ _ h => h) (sa_cons se_var (sa_cons se_var sa_nil))) sa_nil))))
  (ss_seq (ss_asg (se_call (fun _ _ _ _ h => h) (sa_cons se_int (sa_cons (se_call (fun _ _ _ _ h => h) (sa_cons (se_call (fun _ _ _ _ h => h) (sa_cons se_var (sa_cons se_var sa_nil))) (sa_cons (se_call (fun _ _ _ _ h => h) (sa_cons se_int (sa_cons se_var sa_nil))) sa_nil))) sa_nil))))
  (ss_ret (se_call (fun _ _ _ _ h => h) (sa_cons se_var (sa_cons (se_call (fun _ _ _ _ h => h) (sa_cons (se_call (fun _ _ _ _ h => h) (sa_cons se_int (sa_cons (se_call (fun _ _ _ _ h => h) (sa_cons se_var (sa_cons se_var sa_nil))) sa_nil))) (sa_cons (se_call (fun _ _ _ _ h => h) (sa_cons se_var (sa_cons (se_call (fun _ _ _ _ h => h) (sa_cons se_var (sa_cons se_var sa_nil))) sa_nil))) sa_nil))) sa_nil))))))
theorem sc_triangle_doubles : FnScope ["t1", "t2", "t3", "one", "two", "three"] ["t1", "t2", "t3"] (defScope st_triangle_doubles) := scope_ok rfl rfl rfl (by decide +kernel) rfl (by decide +kernel) (by decide +kernel)
theorem ok_triangle_doubles (F : Fun K "triangle_doubles" "triangle_doubles" st_triangle_doubles f fd) (T : Txt K A mg) {a_pull_of : Addr} {d_pull_of : FuncData} (h_pull_of : DefKS P w K mg base "pull_of" 4 ["number"] (spOf K (con A (m_pull_of A))) a_pull_of d_pull_of) {a_double_at : Addr} {d_double_at : FuncData} (h_double_at : DefKS P w K mg base "double_at" 5 ["one", "other", "third"] (spOf K (con A (m_double_at A))) a_double_at d_double_at) : FnOk P w K mg base (L2.CX P w) 6 f fd ["t1", "t2", "t3"] (spOf K (con A (m_triangle_doubles A))) := by
  refine def_okT F sc_triangle_doubles (fun gs M r h => run_con h) (fun cdv A0 outer s H E hr tk => ?_)
  refine ⟨_, (pss_cons (ps_par3 (i := 3) (j := 4) (l := 5) rfl sc_triangle_doubles.nd rfl rfl rfl (by decide) (by decide) (by decide) rfl rfl rfl (pa_cons (pe_callS h_pull_of.ok (hr.mono (by decide)) (by rfl) h_pull_of.gm h_pull_of.kp h_pull_of.bd (fun σ => passAt tk σ) (pa_cons (pv 0) pa_nil)) (pa_cons (pe_callS h_pull_of.ok (hr.mono (by decide)) (by rfl) h_pull_of.gm h_pull_of.kp h_pull_of.bd (fun σ => passAt tk σ) (pa_cons (pv 1) pa_nil)) (pa_cons (pe_callS h_pull_of.ok (hr.mono (by decide)) (by rfl) h_pull_of.gm h_pull_of.kp h_pull_of.bd (fun σ => passAt tk σ) (pa_cons (pv 2) pa_nil)) pa_nil))) (by rfl))
      (pss_one (ps_ret (pe_tup (pa_cons (pe_callS h_double_at.ok (hr.mono (by decide)) (by rfl) h_double_at.gm h_double_at.kp h_double_at.bd (fun σ => passAt tk σ) (pa_cons (pv 3) (pa_cons (pv 4) (pa_cons (pv 5) pa_nil)))) (pa_cons (pe_callS h_double_at.ok (hr.mono (by decide)) (by rfl) h_double_at.gm h_double_at.kp h_double_at.bd (fun σ => passAt tk σ) (pa_cons (pv 3) (pa_cons (pv 5) (pa_cons (pv 4) pa_nil)))) (pa_cons (pe_callS h_double_at.ok (hr.mono (by decide)) (by rfl) h_double_at.gm h_double_at.kp h_double_at.bd (fun σ => passAt tk σ) (pa_cons (pv 4) (pa_cons (pv 5) (pa_cons (pv 3) pa_nil)))) pa_nil))))))), fun gs M r h => run_done (f := f_triangle_doubles A) ?_ h⟩
  exact (ss_seq (ss_par3 (sa_cons (se_call (fun _ _ _ _ h => h) (sa_cons se_var sa_nil)) (sa_cons (se_call (fun _ _ _ _ h => h) (sa_cons se_var sa_nil)) (sa_cons (se_call (fun _ _ _ _ h => h) (sa_cons se_var sa_nil)) sa_nil))))
  (ss_ret (se_tup (sa_cons (se_call (fun _ _ _ _ h => h) (sa_cons se_var (sa_cons se_var (sa_cons se_var sa_nil)))) (sa_cons (se_call (fun _ _ _ _ h => h) (sa_cons se_var (sa_cons se_var (sa_cons se_var sa_nil)))) (sa_cons (se_call (fun _ _ _ _ h => h) (sa_cons se_var (sa_cons se_var (sa_cons se_var sa_nil)))) sa_nil))))))
theorem sc_double_pull : FnScope ["pull", "t"] ["pull"] (defScope st_double_pull) := scope_ok rfl rfl rfl (by decide +kernel) rfl (by decide +kernel) (by decide +kernel)
theorem ok_double_pull (F : Fun K "double_pull" "double_pull" st_double_pull f fd) (T : Txt K A mg) {a_pull_of : Addr} {d_pull_of : FuncData} (h_pull_of : DefKS P w K mg base "pull_of" 4 ["number"] (spOf K (con A (m_pull_of A))) a_pull_of d_pull_of) {a_over : Addr} {d_over : FuncData} (h_over : DefKS P w K mg base "over" 4 ["one", "other"] (spOf K (con A (m_over A))) a_over d_over) {a_times : Addr} {d_times : FuncData} (h_times : DefKS P w K mg base "times" 4 ["one", "other"] (spOf K (con A (m_times A))) a_times d_times) {a_plus : Addr} {d_plus : FuncData} (h_plus : DefKS P w K mg base "plus" 4 ["one", "other"] (spOf K (con A (m_plus A))) a_plus d_plus) : FnOk P w K mg base (L2.CX P w) 5 f fd ["pull"] (spOf K (con A (m_double_pull A))) := by
  refine def_okT F sc_double_pull (fun gs M r h => run_con h) (fun cdv A0 outer s H E hr tk => ?_)
  refine ⟨_, (pss_cons (ps_set (i := 1) sc_double_pull.nd rfl (.inl rfl) (pe_callS h_pull_of.ok (hr.mono (by decide)) (by rfl) h_pull_of.gm h_pull_of.kp h_pull_of.bd (fun σ => passAt tk σ) (pa_cons (pv 0) pa_nil)))
      (pss_one (ps_ret (pe_callS h_over.ok (hr.mono (by decide)) (by rfl) h_over.gm h_over.kp h_over.bd (fun σ => passAt tk σ) (pa_cons (pe_callS h_times.ok (hr.mono (by decide)) (by rfl) h_times.gm h_times.kp h_times.bd (fun σ => passAt tk σ) (pa_cons pe_int (pa_cons (pv 1) pa_nil))) (pa_cons (pe_callS h_plus.ok (hr.mono (by decide)) (by rfl) h_plus.gm h_plus.kp h_plus.bd (fun σ => passAt tk σ) (pa_cons pe_int (pa_cons (pe_callS h_times.ok (hr.mono (by decide)) (by rfl) h_times.gm h_times.kp h_times.bd (fun σ => passAt tk σ) (pa_cons (pv 1) (pa_cons (pv 1) pa_nil))) pa_nil))) pa_nil)))))), fun gs M r h => run_done (f := f_double_pull A) ?_ h⟩
  exact (ss_seq (ss_asg (se_call (fun _ _ _ _ h => h) (sa_cons se_var sa_nil)))
  (ss_ret (se_call (fun _ _ _ _ h => h) (sa_cons (se_call (fun _ _ _ _ h => h) (sa_cons se_int (sa_cons se_var sa_nil))) (sa_cons (se_call (fun _ _ _ _ h => h) (sa_cons se_int (sa_cons (se_call (fun _ _ _ _ h => h) (sa_cons se_var (sa_cons se_var sa_nil))) sa_nil))) sa_nil)))))
theorem sc_square_of_double : FnScope ["double", "t"] ["double"] (defScope st_square_of_double) := scope_ok rfl rfl rfl (by decide +kernel) rfl (by decide +kernel) (by decide +kernel)
theorem ok_square_of_double (F : Fun K "square_of_double" "square_of_double" st_square_of_double f fd) (T : Txt K A mg) {a_pull_of : Addr} {d_pull_of : FuncData} (h_pull_of : DefKS P w K mg base "pull_of" 4 ["number"] (spOf K (con A (m_pull_of A))) a_pull_of d_pull_of) {a_over : Addr} {d_over : FuncData} (h_over : DefKS P w K mg base "over" 4 ["one", "other"] (spOf K (con A (m_over A))) a_over d_over) {a_plus : Addr} {d_plus : FuncData} (h_plus : DefKS P w K mg base "plus" 4 ["one", "other"] (spOf K (con A (m_plus A))) a_plus d_plus) {a_minus : Addr} {d_minus : FuncData} (h_minus : DefKS P w K mg base "minus" 4 ["one", "other"] (spOf K (con A (m_minus A))) a_minus d_minus) : FnOk P w K mg base (L2.CX P w) 5 f fd ["double"] (spOf K (con A (m_square_of_double A))) := by
  refine def_okT F sc_square_of_double (fun gs M r h => run_con h) (fun cdv A0 outer s H E hr tk => ?_)
  refine ⟨_, (pss_cons (ps_set (i := 1) sc_square_of_double.nd rfl (.inl rfl) (pe_callS h_pull_of.ok (hr.mono (by decide)) (by rfl) h_pull_of.gm h_pull_of.kp h_pull_of.bd (fun σ => passAt tk σ) (pa_cons (pv 0) pa_nil)))
      (pss_one (ps_ret (pe_callS h_over.ok (hr.mono (by decide)) (by rfl) h_over.gm h_over.kp h_over.bd (fun σ => passAt tk σ) (pa_cons (pe_callS h_plus.ok (hr.mono (by decide)) (by rfl) h_plus.gm h_plus.kp h_plus.bd (fun σ => passAt tk σ) (pa_cons pe_int (pa_cons (pv 1) pa_nil))) (pa_cons (pe_callS h_minus.ok (hr.mono (by decide)) (by rfl) h_minus.gm h_minus.kp h_minus.bd (fun σ => passAt tk σ) (pa_cons pe_int (pa_cons (pv 1) pa_nil))) pa_nil)))))), fun gs M r h => run_done (f := f_square_of_double A) ?_ h⟩
  exact (ss_seq (ss_asg (se_call (fun _ _ _ _ h => h) (sa_cons se_var sa_nil)))
  (ss_ret (se_call (fun _ _ _ _ h => h) (sa_cons (se_call (fun _ _ _ _ h => h) (sa_cons se_int (sa_cons se_var sa_nil))) (sa_cons (se_call (fun _ _ _ _ h => h) (sa_cons se_int (sa_cons se_var sa_nil))) sa_nil)))))
end
end My

set_option Elab.async false
set_option linter.all false
set_option maxRecDepth 100000
set_option maxHeartbeats 4000000
set_option exponentiation.threshold 100000
namespace My
open PySem L2 Lw
section
variable {P : Program} {w : World} {K : PySem.W.Frag} {A : Str → Addr} {mg : Str → Option Value} {base : Heap} {f : Addr} {fd : FuncData}
theorem sc_l_told : FnScope ["_law_deed", "_law_row", "_law_word"] ["_law_deed", "_law_row"] (defScope st_l_told) := scope_ok rfl rfl rfl (by decide +kernel) rfl (by decide +kernel) (by decide +kernel)
theorem ok_l_told (F : Fun K "_law_told" "_law_told" st_l_told f fd) (T : Txt K A mg) {a_star_means : Addr} {d_star_means : FuncData} (h_star_means : DefKS P w K mg base "star_means" 5 ["t1", "t2", "t3"] (spOf K (con A (m_star_means A))) a_star_means d_star_means) {a_triangle_doubles : Addr} {d_triangle_doubles : FuncData} (h_triangle_doubles : DefKS P w K mg base "triangle_doubles" 6 ["t1", "t2", "t3"] (spOf K (con A (m_triangle_doubles A))) a_triangle_doubles d_triangle_doubles) {a_double_pull : Addr} {d_double_pull : FuncData} (h_double_pull : DefKS P w K mg base "double_pull" 5 ["pull"] (spOf K (con A (m_double_pull A))) a_double_pull d_double_pull) {a_square_of_double : Addr} {d_square_of_double : FuncData} (h_square_of_double : DefKS P w K mg base "square_of_double" 5 ["double"] (spOf K (con A (m_square_of_double A))) a_square_of_double d_square_of_double) : FnOk P w K mg base (L2.CX P w) 7 f fd ["_law_deed", "_law_row"] (spOf K (con A (m_l_told A))) := by
  refine def_okT F sc_l_told (fun gs M r h => run_con h) (fun cdv A0 outer s H E hr tk => ?_)
  refine ⟨_, (pss_cons (ps_set (i := 2) sc_l_told.nd rfl (.inl rfl) (pe_lst (pa_cons pe_str (pa_cons pe_int pa_nil))))
      (pss_cons (ps_try_manyQ (K := K) rfl rfl rfl tk (fun W pn xe tk1 _ => (pss_one (ps_if (pt_cmpR op_eq (pv 0) pe_str (nomark _)) (pss_one (ps_set (i := 2) sc_l_told.nd rfl (.inl rfl) (pe_lst (pa_cons pe_str (pa_cons (pe_callS h_star_means.ok (hr.mono (by decide)) (by rfl) h_star_means.gm h_star_means.kp h_star_means.bd (fun σ => passAt tk1 σ) (pa_cons (pe_ix (ix_seqQ (K := K) rfl) (pv 1) pe_int (fun _ _ => rfl)) (pa_cons (pe_ix (ix_seqQ (K := K) rfl) (pv 1) pe_int (fun _ _ => rfl)) (pa_cons (pe_ix (ix_seqQ (K := K) rfl) (pv 1) pe_int (fun _ _ => rfl)) pa_nil)))) pa_nil))))) (pss_one (ps_if (pt_cmpR op_eq (pv 0) pe_str (nomark _)) (pss_one (ps_set (i := 2) sc_l_told.nd rfl (.inl rfl) (pe_lst (pa_cons pe_str (pa_cons (pe_callS h_triangle_doubles.ok (hr.mono (by decide)) (by rfl) h_triangle_doubles.gm h_triangle_doubles.kp h_triangle_doubles.bd (fun σ => passAt tk1 σ) (pa_cons (pe_ix (ix_seqQ (K := K) rfl) (pv 1) pe_int (fun _ _ => rfl)) (pa_cons (pe_ix (ix_seqQ (K := K) rfl) (pv 1) pe_int (fun _ _ => rfl)) (pa_cons (pe_ix (ix_seqQ (K := K) rfl) (pv 1) pe_int (fun _ _ => rfl)) pa_nil)))) pa_nil))))) (pss_one (ps_if (pt_cmpR op_eq (pv 0) pe_str (nomark _)) (pss_one (ps_set (i := 2) sc_l_told.nd rfl (.inl rfl) (pe_lst (pa_cons pe_str (pa_cons (pe_callS h_double_pull.ok (hr.mono (by decide)) (by rfl) h_double_pull.gm h_double_pull.kp h_double_pull.bd (fun σ => passAt tk1 σ) (pa_cons (pe_ix (ix_seqQ (K := K) rfl) (pv 1) pe_int (fun _ _ => rfl)) pa_nil)) pa_nil))))) (pss_one (ps_set (i := 2) sc_l_told.nd rfl (.inl rfl) (pe_lst (pa_cons pe_str (pa_cons (pe_callS h_square_of_double.ok (hr.mono (by decide)) (by rfl) h_square_of_double.gm h_square_of_double.kp h_square_of_double.bd (fun σ => passAt tk1 σ) (pa_cons (pe_ix (ix_seqQ (K := K) rfl) (pv 1) pe_int (fun _ _ => rfl)) pa_nil)) pa_nil)))))))))))) (HdsOk.cons (c := .ref (A "BadRatio")) ⟨rfl, by decide, .inl T.g_BadRatio⟩ (fun _ _ _ _ _ _ _ => (pss_one (ps_set (i := 2) sc_l_told.nd rfl (.inl rfl) (pe_lst (pa_cons pe_str (pa_cons pe_int pa_nil)))))) HdsOk.nil))
      (pss_one (ps_ret (pv 2))))), fun gs M r h => run_done (f := f_l_told A) ?_ h⟩
  exact (ss_seq (ss_asg (se_new (sn_lst (sa_cons se_str (sa_cons se_int sa_nil)))))
  (ss_seq (ss_try T.exm (fun _ => (ss_if (st_test (se_op so_eq se_var se_str)) (ss_asg (se_new (sn_lst (sa_cons se_str (sa_cons (se_call (fun _ _ _ _ h => h) (sa_cons (se_ix se_var se_int) (sa_cons (se_ix se_var se_int) (sa_cons (se_ix se_var se_int) sa_nil)))) sa_nil))))) (ss_if (st_test (se_op so_eq se_var se_str)) (ss_asg (se_new (sn_lst (sa_cons se_str (sa_cons (se_call (fun _ _ _ _ h => h) (sa_cons (se_ix se_var se_int) (sa_cons (se_ix se_var se_int) (sa_cons (se_ix se_var se_int) sa_nil)))) sa_nil))))) (ss_if (st_test (se_op so_eq se_var se_str)) (ss_asg (se_new (sn_lst (sa_cons se_str (sa_cons (se_call (fun _ _ _ _ h => h) (sa_cons (se_ix se_var se_int) sa_nil)) sa_nil))))) (ss_asg (se_new (sn_lst (sa_cons se_str (sa_cons (se_call (fun _ _ _ _ h => h) (sa_cons (se_ix se_var se_int) sa_nil)) sa_nil))))))))) (cl_cons rfl (fun _ _ _ => (ss_asg (se_new (sn_lst (sa_cons se_str (sa_cons se_int sa_nil)))))) cl_nil))
  (ss_ret se_var)))
theorem sc_l_refused : FnScope ["_law_row", "_law_bad", "_law_deed", "_law_at"] ["_law_row"] (defScope st_l_refused) := scope_ok rfl rfl rfl (by decide +kernel) rfl (by decide +kernel) (by decide +kernel)
theorem ok_l_refused (F : Fun K "_law_refused" "_law_refused" st_l_refused f fd) (T : Txt K A mg) {a_l_told : Addr} {d_l_told : FuncData} (h_l_told : DefKS P w K mg base "_law_told" 7 ["_law_deed", "_law_row"] (spOf K (con A (m_l_told A))) a_l_told d_l_told) : FnOk P w K mg base (L2.CX P w) 8 f fd ["_law_row"] (spOf K (con A (m_l_refused A))) := by
  refine def_okT F sc_l_refused (fun gs M r h => run_con h) (fun cdv A0 outer s H E hr tk => ?_)
  refine ⟨_, (pss_cons (ps_for (passes_of rfl) rfl (pi_anyQ (K := K) rfl (pe_lst (pa_cons pe_int (pa_cons (pe_un un_neg pe_int) (pa_cons (pe_tup (pa_cons pe_int (pa_cons pe_int pa_nil))) (pa_cons (pe_tup (pa_cons pe_int (pa_cons pe_int pa_nil))) (pa_cons (pe_tup (pa_cons (pe_un un_neg pe_int) (pa_cons pe_int pa_nil))) (pa_cons (pe_tup (pa_cons pe_int (pa_cons pe_int pa_nil))) (pa_cons (pe_tup (pa_cons pe_int (pa_cons (pe_un un_neg pe_int) pa_nil))) (pa_cons (pe_tup (pa_cons pe_bl (pa_cons pe_int pa_nil))) (pa_cons pe_bl (pa_cons pe_str (pa_cons pe_non (pa_cons (pe_tup (pa_cons pe_int (pa_cons pe_int (pa_cons pe_int pa_nil)))) pa_nil)))))))))))))) (pg_name (i := 1) sc_l_refused.nd rfl (.inl rfl)) (pss_cons (ps_if (PW.pt (pw_or (pt_cmpR (op_neDQ (K := K) rfl hr.units) (pe_callS h_l_told.ok (hr.mono (by decide)) (by rfl) h_l_told.gm h_l_told.kp h_l_told.bd (fun σ => passAt tk σ) (pa_cons pe_str (pa_cons (pe_lst (pa_cons (pv 1) pa_nil)) pa_nil))) (pe_lst (pa_cons pe_str (pa_cons pe_int pa_nil))) (nomark _)) (pw_or1 (pt_cmpR (op_neDQ (K := K) rfl hr.units) (pe_callS h_l_told.ok (hr.mono (by decide)) (by rfl) h_l_told.gm h_l_told.kp h_l_told.bd (fun σ => passAt tk σ) (pa_cons pe_str (pa_cons (pe_lst (pa_cons (pv 1) pa_nil)) pa_nil))) (pe_lst (pa_cons pe_str (pa_cons pe_int pa_nil))) (nomark _))))) (pss_one (ps_ret pe_bl)) pss_nil)
      (pss_one (ps_for (passes_of rfl) rfl (pi_anyQ (K := K) rfl (pe_lst (pa_cons pe_str (pa_cons pe_str pa_nil)))) (pg_name (i := 2) sc_l_refused.nd rfl (.inl rfl)) (pss_one (ps_for (passes_of rfl) rfl (pi_range1 (by rfl) T.range (pa_cons pe_int pa_nil)) (pg_name (i := 3) sc_l_refused.nd rfl (.inl rfl)) (pss_one (ps_if (pt_cmpR (op_neDQ (K := K) rfl hr.units) (pe_callS h_l_told.ok (hr.mono (by decide)) (by rfl) h_l_told.gm h_l_told.kp h_l_told.bd (fun σ => passAt tk σ) (pa_cons (pv 2) (pa_cons (pe_op op_cat (pe_op op_cat (pe_slice (sl_listQ (K := K) rfl) (pv 0) po_none (po_some (pv 3))) (pe_lst (pa_cons (pv 1) pa_nil))) (pe_slice (sl_listQ (K := K) rfl) (pv 0) (po_some (pe_op op_add (pv 3) pe_int)) po_none)) pa_nil))) (pe_lst (pa_cons pe_str (pa_cons pe_int pa_nil))) (nomark _)) (pss_one (ps_ret pe_bl)) pss_nil))))))))
      (pss_one (ps_ret pe_bl))), fun gs M r h => run_done (f := f_l_refused A) ?_ h⟩
  exact (ss_seq (ss_for (si_any (se_new (sn_lst (sa_cons se_int (sa_cons (se_un (fun _ => .int) se_int) (sa_cons (se_tup (sa_cons se_int (sa_cons se_int sa_nil))) (sa_cons (se_tup (sa_cons se_int (sa_cons se_int sa_nil))) (sa_cons (se_tup (sa_cons (se_un (fun _ => .int) se_int) (sa_cons se_int sa_nil))) (sa_cons (se_tup (sa_cons se_int (sa_cons se_int sa_nil))) (sa_cons (se_tup (sa_cons se_int (sa_cons (se_un (fun _ => .int) se_int) sa_nil))) (sa_cons (se_tup (sa_cons se_bl (sa_cons se_int sa_nil))) (sa_cons se_bl (sa_cons se_str (sa_cons se_non (sa_cons (se_tup (sa_cons se_int (sa_cons se_int (sa_cons se_int sa_nil)))) sa_nil))))))))))))))) sb_name (ss_seq (ss_if (st_or (st_test (se_op so_neD (se_call (fun _ _ _ _ h => h) (sa_cons se_str (sa_cons (se_new (sn_lst (sa_cons se_var sa_nil))) sa_nil))) (se_new (sn_lst (sa_cons se_str (sa_cons se_int sa_nil)))))) (st_test (se_op so_neD (se_call (fun _ _ _ _ h => h) (sa_cons se_str (sa_cons (se_new (sn_lst (sa_cons se_var sa_nil))) sa_nil))) (se_new (sn_lst (sa_cons se_str (sa_cons se_int sa_nil))))))) (ss_ret se_bl) ss_next)
  (ss_for (si_any (se_new (sn_lst (sa_cons se_str (sa_cons se_str sa_nil))))) sb_name (ss_for (si_rng1 (sa_cons se_int sa_nil)) sb_name (ss_if (st_test (se_op so_neD (se_call (fun _ _ _ _ h => h) (sa_cons se_var (sa_cons (se_new (sn_cat (se_new (sn_cat (se_new (sn_sl se_var sp_none (sp_some se_var))) (se_new (sn_lst (sa_cons se_var sa_nil))))) (se_new (sn_sl se_var (sp_some (se_op (so_I0 fun _ _ => .int) se_var se_int)) sp_none)))) sa_nil))) (se_new (sn_lst (sa_cons se_str (sa_cons se_int sa_nil)))))) (ss_ret se_bl) ss_next)))))
  (ss_ret se_bl))
theorem sc_l_no : FnScope ["_law_many", "_law_at", "_law_place"] ["_law_many", "_law_at", "_law_place"] (defScope st_l_no) := scope_ok rfl rfl rfl (by decide +kernel) rfl (by decide +kernel) (by decide +kernel)
theorem ok_l_no (F : Fun K "_law_no" "_law_no" st_l_no f fd) (T : Txt K A mg) : FnOk P w K mg base (L2.CX P w) 1 f fd ["_law_many", "_law_at", "_law_place"] (spOf K (con A (m_l_no A))) := by
  refine def_okT F sc_l_no (fun gs M r h => run_con h) (fun cdv A0 outer s H E hr tk => ?_)
  refine ⟨_, (pss_one (ps_ret (pe_op op_modN (pe_callTy call_int1 (by rfl) T.int (by decide +kernel) (pa_cons (pe_op op_shr (pv 1) (pe_op op_sub (pe_op op_sub (pv 0) pe_int) (pv 2))) pa_nil)) pe_int))), fun gs M r h => run_done (f := f_l_no A) ?_ h⟩
  exact (ss_ret (se_op (so_I fun _ _ => .int) (se_cb sc_int (sa_cons (se_op (so_I fun _ _ => .int) se_var (se_op (so_I0 fun _ _ => .int) (se_op (so_I0 fun _ _ => .int) se_var se_int) se_var)) sa_nil)) se_int))
theorem sc_l_weights : FnScope ["_law_many", "_law_ties", "_law_rows", "_law_below", "_law_tie", "_law_top", "_law_low", "_law_at"] ["_law_many", "_law_ties"] (defScope st_l_weights) := scope_ok rfl rfl rfl (by decide +kernel) rfl (by decide +kernel) (by decide +kernel)
theorem ok_l_weights (F : Fun K "_law_weights" "_law_weights" st_l_weights f fd) (T : Txt K A mg) {a_l_no : Addr} {d_l_no : FuncData} (h_l_no : DefKS P w K mg base "_law_no" 1 ["_law_many", "_law_at", "_law_place"] (spOf K (con A (m_l_no A))) a_l_no d_l_no) : FnOk P w K mg base (L2.CX P w) 2 f fd ["_law_many", "_law_ties"] (spOf K (con A (m_l_weights A))) := by
  refine def_okT F sc_l_weights (fun gs M r h => run_con h) (fun cdv A0 outer s H E hr tk => ?_)
  refine ⟨_, (pss_cons (ps_setLc (i := 2) (own := [("_law_at", 7)]) (g := (gName 7)) (tt := tYes) rfl sc_l_weights.nd rfl rfl (sw_true rfl rfl rfl (by decide +kernel)) (pi_range1 (by rfl) T.range (pa_cons (pe_op op_shl pe_int (pv 0)) pa_nil)) (blkOk_by (own := [("_law_at", 7)]) (N := ["_law_many", "_law_ties", "_law_rows", "_law_below", "_law_tie", "_law_top", "_law_low", "_law_at"]) (sc := defScope st_l_weights) (by decide +kernel)) (fun _ _ _ _ _ => (pg_name (i := 7) sc_l_weights.nd rfl (.inl rfl))) (fun _ _ _ _ _ => pts_nil) (fun _ _ _ _ _ => pe_int))
      (pss_cons (ps_set (i := 3) sc_l_weights.nd rfl (.inl rfl) pe_int)
      (pss_cons (ps_for (passes_of rfl) rfl (pi_anyQ (K := K) rfl (pv 1)) (pg_name (i := 4) sc_l_weights.nd rfl (.inl rfl)) (pss_cons (ps_set (i := 5) sc_l_weights.nd rfl (.inl rfl) (pe_ix (ix_seqQ (K := K) rfl) (pe_ix (ix_seqQ (K := K) rfl) (pv 4) pe_int (fun _ _ => rfl)) pe_int (fun _ _ => rfl)))
      (pss_cons (ps_set (i := 6) sc_l_weights.nd rfl (.inl rfl) (pe_ix (ix_seqQ (K := K) rfl) (pe_ix (ix_seqQ (K := K) rfl) (pv 4) pe_int (fun _ _ => rfl)) pe_int (fun _ _ => rfl)))
      (pss_cons (ps_set (i := 3) sc_l_weights.nd rfl (.inl rfl) (pe_op op_mulW (pv 3) (pv 6)))
      (pss_one (ps_for (passes_of rfl) rfl (pi_range1 (by rfl) T.range (pa_cons (pe_op op_shl pe_int (pv 0)) pa_nil)) (pg_name (i := 7) sc_l_weights.nd rfl (.inl rfl)) (pss_one (ps_if (pt_cmpR (op_eqDQ (K := K) rfl hr.units) (pe_callS h_l_no.ok (hr.mono (by decide)) (by rfl) h_l_no.gm h_l_no.kp h_l_no.bd (fun σ => passAt tk σ) (pa_cons (pv 0) (pa_cons (pv 7) (pa_cons (pe_ix (ix_seqQ (K := K) rfl) (pv 4) pe_int (fun _ _ => rfl)) pa_nil)))) (pe_callS h_l_no.ok (hr.mono (by decide)) (by rfl) h_l_no.gm h_l_no.kp h_l_no.bd (fun σ => passAt tk σ) (pa_cons (pv 0) (pa_cons (pv 7) (pa_cons (pe_ix (ix_seqQ (K := K) rfl) (pv 4) pe_int (fun _ _ => rfl)) pa_nil)))) (nomark _)) (pss_one (ps_asg (pe_op op_mulW (pe_ix (ix_seqQ (K := K) rfl) (pv 2) (pv 7) (fun _ _ => rfl)) (pe_op op_add (pv 6) (pv 5))) (pg_sub (pv 2) (pv 7) set_list))) (pss_one (ps_asg (pe_op op_mulW (pe_ix (ix_seqQ (K := K) rfl) (pv 2) (pv 7) (fun _ _ => rfl)) (pe_op op_sub (pv 6) (pv 5))) (pg_sub (pv 2) (pv 7) set_list)))))))))))
      (pss_one (ps_ret (pe_lst (pa_cons (pv 2) (pa_cons (pv 3) pa_nil)))))))), fun gs M r h => run_done (f := f_l_weights A) ?_ h⟩
  exact (ss_seq (ss_asgN (sn_lc (si_rng1 (sa_cons (se_op (so_I fun _ _ => .int) se_int se_var) sa_nil)) sb_name (by decide) st_yes calm_yes se_int))
  (ss_seq (ss_asg se_int)
  (ss_seq (ss_for (si_any se_var) sb_name (ss_seq (ss_asg (se_ix (se_ix se_var se_int) se_int))
  (ss_seq (ss_asg (se_ix (se_ix se_var se_int) se_int))
  (ss_seq (ss_asg (se_op (so_I fun _ _ => .int) se_var se_var))
  (ss_for (si_rng1 (sa_cons (se_op (so_I fun _ _ => .int) se_int se_var) sa_nil)) sb_name (ss_if (st_test (se_op so_eqD (se_call (fun _ _ _ _ h => h) (sa_cons se_var (sa_cons se_var (sa_cons (se_ix se_var se_int) sa_nil)))) (se_call (fun _ _ _ _ h => h) (sa_cons se_var (sa_cons se_var (sa_cons (se_ix se_var se_int) sa_nil)))))) (ss_setL se_var (se_op (so_I fun _ _ => .int) (se_ix se_var se_var) (se_op (so_I0 fun _ _ => .int) se_var se_var))) (ss_setL se_var (se_op (so_I fun _ _ => .int) (se_ix se_var se_var) (se_op (so_I0 fun _ _ => .int) se_var se_var)))))))))
  (ss_frz (ss_ret (se_new (sn_lst (sa_cons se_var (sa_cons se_var sa_nil)))))))))
theorem sc_l_star_boxes : FnScope ["_law_pulls", "_law_ties", "_law_rows", "_law_rest", "_law_found", "_law_pair", "_law_k", "_law_at"] ["_law_pulls"] (defScope st_l_star_boxes) := scope_ok rfl rfl rfl (by decide +kernel) rfl (by decide +kernel) (by decide +kernel)
theorem ok_l_star_boxes (F : Fun K "_law_star_boxes" "_law_star_boxes" st_l_star_boxes f fd) (T : Txt K A mg) {a_l_weights : Addr} {d_l_weights : FuncData} (h_l_weights : DefKS P w K mg base "_law_weights" 2 ["_law_many", "_law_ties"] (spOf K (con A (m_l_weights A))) a_l_weights d_l_weights) : FnOk P w K mg base (L2.CX P w) 3 f fd ["_law_pulls"] (spN K (m_l_star_boxes A)) := by
  refine def_okN (A := A) F sc_l_star_boxes (fun cdv A0 outer s H E hr tk => ?_)
  refine ⟨_, (pss_cons (ps_setLc (i := 1) (own := [("_law_k", 6)]) (g := (gName 6)) (tt := tYes) rfl sc_l_star_boxes.nd rfl rfl (sw_true rfl rfl rfl (by decide +kernel)) (pi_range1 (by rfl) T.range (pa_cons pe_int pa_nil)) (blkOk_by (own := [("_law_k", 6)]) (N := ["_law_pulls", "_law_ties", "_law_rows", "_law_rest", "_law_found", "_law_pair", "_law_k", "_law_at"]) (sc := defScope st_l_star_boxes) (by decide +kernel)) (fun _ _ _ _ _ => (pg_name (i := 6) sc_l_star_boxes.nd rfl (.inl rfl))) (fun _ _ _ _ _ => pts_nil) (fun _ _ _ _ _ => (pe_tup (pa_cons pe_int (pa_cons (pe_op op_add (pv 6) pe_int) (pa_cons (pe_ix (ix_seqQ (K := K) rfl) (pv 0) (pv 6) (fun _ _ => rfl)) pa_nil))))))
      (pss_cons (ps_set (i := 2) sc_l_star_boxes.nd rfl (.inr rfl) (pe_ix (ix_seqQ (K := K) rfl) (pe_callS h_l_weights.ok (hr.mono (by decide)) (by rfl) h_l_weights.gm h_l_weights.kp h_l_weights.bd (fun σ => passAt tk σ) (pa_cons pe_int (pa_cons (pv 1) pa_nil))) pe_int (fun _ _ => rfl)))
      (pss_cons (ps_setLc (i := 3) (own := [("_law_at", 7)]) (g := (gName 7)) (tt := tYes) rfl sc_l_star_boxes.nd rfl rfl (sw_true rfl rfl rfl (by decide +kernel)) (pi_range1 (by rfl) T.range (pa_cons pe_int pa_nil)) (blkOk_by (own := [("_law_at", 7)]) (N := ["_law_pulls", "_law_ties", "_law_rows", "_law_rest", "_law_found", "_law_pair", "_law_k", "_law_at"]) (sc := defScope st_l_star_boxes) (by decide +kernel)) (fun _ _ _ _ _ => (pg_name (i := 7) sc_l_star_boxes.nd rfl (.inl rfl))) (fun _ _ _ _ _ => pts_nil) (fun _ _ _ _ _ => (pe_op op_add (pe_ix (ix_seqQ (K := K) rfl) (pv 2) (pv 7) (fun _ _ => rfl)) (pe_ix (ix_seqQ (K := K) rfl) (pv 2) (pe_op op_add (pv 7) pe_int) (fun _ _ => rfl)))))
      (pss_cons (ps_set (i := 4) sc_l_star_boxes.nd rfl (.inl rfl) (pe_lst pa_nil))
      (pss_cons (ps_for (passes_of rfl) rfl (pi_anyQ (K := K) rfl (pe_lst (pa_cons (pe_tup (pa_cons pe_int (pa_cons pe_int pa_nil))) (pa_cons (pe_tup (pa_cons pe_int (pa_cons pe_int pa_nil))) (pa_cons (pe_tup (pa_cons pe_int (pa_cons pe_int pa_nil))) pa_nil))))) (pg_name (i := 5) sc_l_star_boxes.nd rfl (.inl rfl)) (pss_one (ps_expr (pe_bm PySem.F.plainAttrs_list PySem.F.slot_list_append PySem.F.type_list_append mt_append (pv 4) (pa_cons (pe_tup (pa_cons (pe_op op_mulW (pe_ix (ix_seqQ (K := K) rfl) (pv 3) pe_int (fun _ _ => rfl)) (pe_ix (ix_seqQ (K := K) rfl) (pv 3) (pe_op op_add (pe_ix (ix_seqQ (K := K) rfl) (pv 5) pe_int (fun _ _ => rfl)) (pe_ix (ix_seqQ (K := K) rfl) (pv 5) pe_int (fun _ _ => rfl))) (fun _ _ => rfl))) (pa_cons (pe_op op_mulW (pe_ix (ix_seqQ (K := K) rfl) (pv 3) (pe_ix (ix_seqQ (K := K) rfl) (pv 5) pe_int (fun _ _ => rfl)) (fun _ _ => rfl)) (pe_ix (ix_seqQ (K := K) rfl) (pv 3) (pe_ix (ix_seqQ (K := K) rfl) (pv 5) pe_int (fun _ _ => rfl)) (fun _ _ => rfl))) pa_nil))) pa_nil)))))
      (pss_one (ps_ret (pv 4)))))))), ?_⟩
  exact (ss_seq (ss_asg (se_new (sn_lc (si_rng1 (sa_cons se_int sa_nil)) sb_name (by decide) st_yes calm_yes (se_tup (sa_cons se_int (sa_cons (se_op (so_I0 fun _ _ => .int) se_var se_int) (sa_cons (se_ix se_var se_var) sa_nil)))))))
  (ss_seq (ss_asg (se_ix (se_call (fun _ _ _ _ h => h) (sa_cons se_int (sa_cons se_var sa_nil))) se_int))
  (ss_seq (ss_asg (se_new (sn_lc (si_rng1 (sa_cons se_int sa_nil)) sb_name (by decide) st_yes calm_yes (se_op (so_I0 fun _ _ => .int) (se_ix se_var se_var) (se_ix se_var (se_op (so_I0 fun _ _ => .int) se_var se_int))))))
  (ss_seq (ss_asgN (sn_lst sa_nil))
  (ss_seq (ss_for (si_any (se_new (sn_lst (sa_cons (se_tup (sa_cons se_int (sa_cons se_int sa_nil))) (sa_cons (se_tup (sa_cons se_int (sa_cons se_int sa_nil))) (sa_cons (se_tup (sa_cons se_int (sa_cons se_int sa_nil))) sa_nil)))))) sb_name (ss_app (se_tup (sa_cons (se_op (so_I fun _ _ => .int) (se_ix se_var se_int) (se_ix se_var (se_op (so_I0 fun _ _ => .int) (se_ix se_var se_int) (se_ix se_var se_int)))) (sa_cons (se_op (so_I fun _ _ => .int) (se_ix se_var (se_ix se_var se_int)) (se_ix se_var (se_ix se_var se_int))) sa_nil)))))
  (ss_ret se_var))))))
theorem sc_l_int : FnScope ["_law_value"] ["_law_value"] (defScope st_l_int) := scope_ok rfl rfl rfl (by decide +kernel) rfl (by decide +kernel) (by decide +kernel)
theorem ok_l_int (F : Fun K "_law_int" "_law_int" st_l_int f fd) (T : Txt K A mg) : FnOk P w K mg base (L2.CX P w) 1 f fd ["_law_value"] (spOf K (con A (m_l_int A))) := by
  refine def_okT F sc_l_int (fun gs M r h => run_con h) (fun cdv A0 outer s H E hr tk => ?_)
  refine ⟨_, (pss_one (ps_ret (pe_and (pe_callB (call_isiQ (K := K) rfl) (by rfl) T.isinstance (by decide +kernel) (pa_cons (pv 0) (pa_cons (pe_bltn (v := .ty "int") (by rfl) T.int bt_int rfl) pa_nil))) (pe_one (pe_not (pe_callB (call_isiQ (K := K) rfl) (by rfl) T.isinstance (by decide +kernel) (pa_cons (pv 0) (pa_cons (pe_bltn (v := .ty "bool") (by rfl) T.bool bt_bool rfl) pa_nil)))))))), fun gs M r h => run_done (f := f_l_int A) ?_ h⟩
  exact (ss_ret (se_and (se_cb sc_is (sa_cons se_var (sa_cons se_ty sa_nil))) (se_not (se_cb sc_is (sa_cons se_var (sa_cons se_ty sa_nil))))))
end
end My

set_option Elab.async false
set_option linter.all false
set_option maxRecDepth 100000
set_option maxHeartbeats 4000000
set_option exponentiation.threshold 100000
namespace My
open PySem L2 Lw
section
variable {P : Program} {w : World} {K : PySem.W.Frag} {A : Str → Addr} {mg : Str → Option Value} {base : Heap} {f : Addr} {fd : FuncData}
theorem sc_l_common : FnScope ["_law_one", "_law_other", "_law_first", "_law_second", "_law_k", "_law_rest"] ["_law_one", "_law_other"] (defScope st_l_common) := scope_ok rfl rfl rfl (by decide +kernel) rfl (by decide +kernel) (by decide +kernel)
theorem ok_l_common (F : Fun K "_law_common" "_law_common" st_l_common f fd) (T : Txt K A mg) : FnOk P w K mg base (L2.CX P w) 1 f fd ["_law_one", "_law_other"] (spOf K (con A (m_l_common A))) := by
  refine def_okT F sc_l_common (fun gs M r h => run_con h) (fun cdv A0 outer s H E hr tk => ?_)
  refine ⟨_, (pss_cons (ps_set (i := 2) sc_l_common.nd rfl (.inl rfl) (pe_callB call_abs (by rfl) T.abs (by decide +kernel) (pa_cons (pv 0) pa_nil)))
      (pss_cons (ps_set (i := 3) sc_l_common.nd rfl (.inl rfl) (pe_callB call_abs (by rfl) T.abs (by decide +kernel) (pa_cons (pv 1) pa_nil)))
      (pss_cons (ps_for (passes_of rfl) rfl (pi_range1 (by rfl) T.range (pa_cons (pe_op op_add (pe_op op_mulW pe_int (pe_callB call_len_str (by rfl) T.len PySem.boot_len (pa_cons (pe_callTy call_str_int (by rfl) T.str (by decide +kernel) (pa_cons (pv 3) pa_nil)) pa_nil))) pe_int) pa_nil)) (pg_name (i := 4) sc_l_common.nd rfl (.inl rfl)) (pss_one (ps_if (pt_cmpR op_gt (pv 3) pe_int (nomark _)) (pss_cons (ps_set (i := 5) sc_l_common.nd rfl (.inl rfl) (pe_op op_modN (pe_callTy call_int1 (by rfl) T.int (by decide +kernel) (pa_cons (pv 2) pa_nil)) (pv 3)))
      (pss_cons (ps_set (i := 2) sc_l_common.nd rfl (.inl rfl) (pv 3))
      (pss_one (ps_set (i := 3) sc_l_common.nd rfl (.inl rfl) (pv 5))))) pss_nil)))
      (pss_one (ps_ret (pv 2)))))), fun gs M r h => run_done (f := f_l_common A) ?_ h⟩
  exact (ss_seq (ss_asg (se_cb sc_i1 (sa_cons se_var sa_nil)))
  (ss_seq (ss_asg (se_cb sc_i1 (sa_cons se_var sa_nil)))
  (ss_seq (ss_for (si_rng1 (sa_cons (se_op (so_I0 fun _ _ => .int) (se_op (so_I fun _ _ => .int) se_int (se_cb sc_lenStr (sa_cons (se_cb sc_str (sa_cons se_var sa_nil)) sa_nil))) se_int) sa_nil)) sb_name (ss_if (st_test (se_op (so_I0 fun _ _ => .bl) se_var se_int)) (ss_seq (ss_asg (se_op (so_I fun _ _ => .int) (se_cb sc_int (sa_cons se_var sa_nil)) se_var))
  (ss_seq (ss_asg se_var)
  (ss_asg se_var))) ss_next))
  (ss_ret se_var))))
theorem sc_l_ratio : FnScope ["_law_value"] ["_law_value"] (defScope st_l_ratio) := scope_ok rfl rfl rfl (by decide +kernel) rfl (by decide +kernel) (by decide +kernel)
theorem ok_l_ratio (F : Fun K "_law_ratio" "_law_ratio" st_l_ratio f fd) (T : Txt K A mg) {a_l_int : Addr} {d_l_int : FuncData} (h_l_int : DefKS P w K mg base "_law_int" 1 ["_law_value"] (spOf K (con A (m_l_int A))) a_l_int d_l_int) {a_l_common : Addr} {d_l_common : FuncData} (h_l_common : DefKS P w K mg base "_law_common" 1 ["_law_one", "_law_other"] (spOf K (con A (m_l_common A))) a_l_common d_l_common) : FnOk P w K mg base (L2.CX P w) 2 f fd ["_law_value"] (spOf K (con A (m_l_ratio A))) := by
  refine def_okT F sc_l_ratio (fun gs M r h => run_con h) (fun cdv A0 outer s H E hr tk => ?_)
  refine ⟨_, (pss_cons (ps_if (PW.pt (pw_or (pt_not (pt_val (pe_callB (call_isiQ (K := K) rfl) (by rfl) T.isinstance (by decide +kernel) (pa_cons (pv 0) (pa_cons (pe_bltn (v := .ty "tuple") (by rfl) T.tuple bt_tuple rfl) pa_nil))))) (pw_or1 (pt_cmpR op_ne (pe_callB (call_len_seqQ (K := K) rfl) (by rfl) T.len PySem.boot_len (pa_cons (pv 0) pa_nil)) pe_int (nomark _))))) (pss_one (ps_ret pe_bl)) pss_nil)
      (pss_cons (ps_if (PW.pt (pw_or (pt_not (pt_val (pe_callS h_l_int.ok (hr.mono (by decide)) (by rfl) h_l_int.gm h_l_int.kp h_l_int.bd (fun σ => passAt tk σ) (pa_cons (pe_ix (ix_seqQ (K := K) rfl) (pv 0) pe_int (fun _ _ => rfl)) pa_nil)))) (pw_or (pt_not (pt_val (pe_callS h_l_int.ok (hr.mono (by decide)) (by rfl) h_l_int.gm h_l_int.kp h_l_int.bd (fun σ => passAt tk σ) (pa_cons (pe_ix (ix_seqQ (K := K) rfl) (pv 0) pe_int (fun _ _ => rfl)) pa_nil)))) (pw_or1 (pt_cmpR op_lt (pe_ix (ix_seqQ (K := K) rfl) (pv 0) pe_int (fun _ _ => rfl)) pe_int (nomark _)))))) (pss_one (ps_ret pe_bl)) pss_nil)
      (pss_one (ps_ret (pe_cmpR op_eq (pe_callS h_l_common.ok (hr.mono (by decide)) (by rfl) h_l_common.gm h_l_common.kp h_l_common.bd (fun σ => passAt tk σ) (pa_cons (pe_ix (ix_seqQ (K := K) rfl) (pv 0) pe_int (fun _ _ => rfl)) (pa_cons (pe_ix (ix_seqQ (K := K) rfl) (pv 0) pe_int (fun _ _ => rfl)) pa_nil))) pe_int (nomark _)))))), fun gs M r h => run_done (f := f_l_ratio A) ?_ h⟩
  exact (ss_seq (ss_if (st_or (st_not (st_B (se_cb sc_is (sa_cons se_var (sa_cons se_ty sa_nil))))) (st_test (se_op so_ne (se_cb sc_len (sa_cons se_var sa_nil)) se_int))) (ss_ret se_bl) ss_next)
  (ss_seq (ss_if (st_or (st_not (st_B (se_call (fun _ _ _ _ h => h) (sa_cons (se_ix se_var se_int) sa_nil)))) (st_or (st_not (st_B (se_call (fun _ _ _ _ h => h) (sa_cons (se_ix se_var se_int) sa_nil)))) (st_test (se_op (so_I0 fun _ _ => .bl) (se_ix se_var se_int) se_int)))) (ss_ret se_bl) ss_next)
  (ss_ret (se_op so_eq (se_call (fun _ _ _ _ h => h) (sa_cons (se_ix se_var se_int) (sa_cons (se_ix se_var se_int) sa_nil))) se_int))))
theorem sc_l_is : FnScope ["_law_value", "_law_pair"] ["_law_value", "_law_pair"] (defScope st_l_is) := scope_ok rfl rfl rfl (by decide +kernel) rfl (by decide +kernel) (by decide +kernel)
theorem ok_l_is (F : Fun K "_law_is" "_law_is" st_l_is f fd) (T : Txt K A mg) {a_l_ratio : Addr} {d_l_ratio : FuncData} (h_l_ratio : DefKS P w K mg base "_law_ratio" 2 ["_law_value"] (spOf K (con A (m_l_ratio A))) a_l_ratio d_l_ratio) : FnOk P w K mg base (L2.CX P w) 3 f fd ["_law_value", "_law_pair"] (spOf K (con A (m_l_is A))) := by
  refine def_okT F sc_l_is (fun gs M r h => run_con h) (fun cdv A0 outer s H E hr tk => ?_)
  refine ⟨_, (pss_one (ps_ret (pe_and (pe_callS h_l_ratio.ok (hr.mono (by decide)) (by rfl) h_l_ratio.gm h_l_ratio.kp h_l_ratio.bd (fun σ => passAt tk σ) (pa_cons (pv 0) pa_nil)) (pe_one (pe_cmpR op_eq (pe_op op_mulW (pe_ix (ix_seqQ (K := K) rfl) (pv 0) pe_int (fun _ _ => rfl)) (pe_ix (ix_seqQ (K := K) rfl) (pv 1) pe_int (fun _ _ => rfl))) (pe_op op_mulW (pe_ix (ix_seqQ (K := K) rfl) (pv 1) pe_int (fun _ _ => rfl)) (pe_ix (ix_seqQ (K := K) rfl) (pv 0) pe_int (fun _ _ => rfl))) (nomark _)))))), fun gs M r h => run_done (f := f_l_is A) ?_ h⟩
  exact (ss_ret (se_and (se_call (fun _ _ _ _ h => h) (sa_cons se_var sa_nil)) (se_op so_eq (se_op (so_I fun _ _ => .int) (se_ix se_var se_int) (se_ix se_var se_int)) (se_op (so_I fun _ _ => .int) (se_ix se_var se_int) (se_ix se_var se_int)))))
theorem sc_l_three_are : FnScope ["_law_found", "_law_due", "_law_k"] ["_law_found", "_law_due"] (defScope st_l_three_are) := scope_ok rfl rfl rfl (by decide +kernel) rfl (by decide +kernel) (by decide +kernel)
theorem ok_l_three_are (F : Fun K "_law_three_are" "_law_three_are" st_l_three_are f fd) (T : Txt K A mg) {a_l_is : Addr} {d_l_is : FuncData} (h_l_is : DefKS P w K mg base "_law_is" 3 ["_law_value", "_law_pair"] (spOf K (con A (m_l_is A))) a_l_is d_l_is) : FnOk P w K mg base (L2.CX P w) 4 f fd ["_law_found", "_law_due"] (spOf K (con A (m_l_three_are A))) := by
  refine def_okT F sc_l_three_are (fun gs M r h => run_con h) (fun cdv A0 outer s H E hr tk => ?_)
  refine ⟨_, (pss_cons (ps_if (PW.pt (pw_or (pt_not (pt_val (pe_callB (call_isiQ (K := K) rfl) (by rfl) T.isinstance (by decide +kernel) (pa_cons (pv 0) (pa_cons (pe_bltn (v := .ty "tuple") (by rfl) T.tuple bt_tuple rfl) pa_nil))))) (pw_or1 (pt_cmpR op_ne (pe_callB (call_len_seqQ (K := K) rfl) (by rfl) T.len PySem.boot_len (pa_cons (pv 0) pa_nil)) pe_int (nomark _))))) (pss_one (ps_ret pe_bl)) pss_nil)
      (pss_one (ps_ret (pe_callB (cr_allQ (K := K) rfl rfl) (by rfl) T.all (by decide +kernel) (pa_cons (pe_lc (own := [("_law_k", 2)]) (g := (gName 2)) (tt := tYes) rfl sc_l_three_are.nd (pi_range1 (by rfl) T.range (pa_cons pe_int pa_nil)) (blkOk_by (own := [("_law_k", 2)]) (N := ["_law_found", "_law_due", "_law_k"]) (sc := defScope st_l_three_are) (by decide +kernel)) (fun _ _ _ _ _ => (pg_name (i := 2) sc_l_three_are.nd rfl (.inl rfl))) (fun _ _ _ _ _ => pts_nil) (fun _ _ _ _ _ => (pe_callS h_l_is.ok (hr.mono (by decide)) (by rfl) h_l_is.gm h_l_is.kp h_l_is.bd (fun σ => passAt takes0 σ) (pa_cons (pe_ix (ix_seqQ (K := K) rfl) (pv 0) (pv 2) (fun _ _ => rfl)) (pa_cons (pe_ix (ix_seqQ (K := K) rfl) (pv 1) (pv 2) (fun _ _ => rfl)) pa_nil))))) pa_nil))))), fun gs M r h => run_done (f := f_l_three_are A) ?_ h⟩
  exact (ss_seq (ss_if (st_or (st_not (st_B (se_cb sc_is (sa_cons se_var (sa_cons se_ty sa_nil))))) (st_test (se_op so_ne (se_cb sc_len (sa_cons se_var sa_nil)) se_int))) (ss_ret se_bl) ss_next)
  (ss_ret (se_cb sc_all (sa_cons (se_new (sn_lc (si_rng1 (sa_cons se_int sa_nil)) sb_name (by decide) st_yes calm_yes (se_call (fun _ _ _ _ h => False.elim h) (sa_cons (se_ix se_var se_var) (sa_cons (se_ix se_var se_var) sa_nil))))) sa_nil))))
theorem sc_l_times : FnScope ["_law_one", "_law_other"] ["_law_one", "_law_other"] (defScope st_l_times) := scope_ok rfl rfl rfl (by decide +kernel) rfl (by decide +kernel) (by decide +kernel)
theorem ok_l_times (F : Fun K "_law_times" "_law_times" st_l_times f fd) (T : Txt K A mg) : FnOk P w K mg base (L2.CX P w) 1 f fd ["_law_one", "_law_other"] (spOf K (con A (m_l_times A))) := by
  refine def_okT F sc_l_times (fun gs M r h => run_con h) (fun cdv A0 outer s H E hr tk => ?_)
  refine ⟨_, (pss_one (ps_ret (pe_tup (pa_cons (pe_op op_mulW (pe_ix (ix_seqQ (K := K) rfl) (pv 0) pe_int (fun _ _ => rfl)) (pe_ix (ix_seqQ (K := K) rfl) (pv 1) pe_int (fun _ _ => rfl))) (pa_cons (pe_op op_mulW (pe_ix (ix_seqQ (K := K) rfl) (pv 0) pe_int (fun _ _ => rfl)) (pe_ix (ix_seqQ (K := K) rfl) (pv 1) pe_int (fun _ _ => rfl))) pa_nil))))), fun gs M r h => run_done (f := f_l_times A) ?_ h⟩
  exact (ss_ret (se_tup (sa_cons (se_op (so_I fun _ _ => .int) (se_ix se_var se_int) (se_ix se_var se_int)) (sa_cons (se_op (so_I fun _ _ => .int) (se_ix se_var se_int) (se_ix se_var se_int)) sa_nil))))
theorem sc_over_common : FnScope ["ratios", "bottom", "ratio", "p", "q"] ["ratios"] (defScope st_over_common) := scope_ok rfl rfl rfl (by decide +kernel) rfl (by decide +kernel) (by decide +kernel)
theorem ok_over_common (F : Fun K "over_common" "over_common" st_over_common f fd) (T : Txt K A mg) : FnOk P w K mg base (L2.CX P w) 1 f fd ["ratios"] (spOf K (con A (m_over_common A))) := by
  refine def_okT F sc_over_common (fun gs M r h => run_con h) (fun cdv A0 outer s H E hr tk => ?_)
  refine ⟨_, (pss_cons (ps_set (i := 1) sc_over_common.nd rfl (.inr rfl) pe_int)
      (pss_cons (ps_for (passes_of rfl) rfl (pi_anyQ (K := K) rfl (pv 0)) (pg_name (i := 2) sc_over_common.nd rfl (.inl rfl)) (pss_one (ps_set (i := 1) sc_over_common.nd rfl (.inr rfl) (pe_callBfun cr_lcm (by rfl) T.lcm (pa_cons (pv 1) (pa_cons (pe_ix (ix_seqQ (K := K) rfl) (pv 2) pe_int (fun _ _ => rfl)) pa_nil))))))
      (pss_one (ps_ret (pe_tup (pa_cons (pe_lc (own := [("p", 3), ("q", 4)]) (g := (gRow K 2 (gCons (gName 3) (gCons (gName 4) gNil)))) (tt := tYes) rfl sc_over_common.nd (pi_anyQ (K := K) rfl (pv 0)) (blkOk_by (own := [("p", 3), ("q", 4)]) (N := ["ratios", "bottom", "ratio", "p", "q"]) (sc := defScope st_over_common) (by decide +kernel)) (fun _ _ _ _ _ => (pg_rowQ (K := K) rfl rfl (pgs_cons (pg_name (i := 3) sc_over_common.nd rfl (.inl rfl)) (pgs_cons (pg_name (i := 4) sc_over_common.nd rfl (.inl rfl)) pgs_nil)))) (fun _ _ _ _ _ => pts_nil) (fun _ _ _ _ _ => (pe_op op_mulW (pv 3) (pe_op op_fdivW (pv 1) (pv 4))))) (pa_cons (pv 1) pa_nil))))))), fun gs M r h => run_done (f := f_over_common A) ?_ h⟩
  exact (ss_seq (ss_asg se_int)
  (ss_seq (ss_for (si_any se_var) sb_name (ss_asg (se_cb sc_lcm (sa_cons se_var (sa_cons (se_ix se_var se_int) sa_nil)))))
  (ss_ret (se_tup (sa_cons (se_new (sn_lc (si_any se_var) (sb_row (sbs_cons sb_name (sbs_cons sb_name sbs_nil))) (by decide) st_yes calm_yes (se_op (so_I fun _ _ => .int) se_var (se_op (so_I fun _ _ => .int) se_var se_var)))) (sa_cons se_var sa_nil))))))
end
end My

set_option Elab.async false
set_option linter.all false
set_option maxRecDepth 100000
set_option maxHeartbeats 4000000
set_option exponentiation.threshold 100000
namespace My
open PySem L2 Lw
section
variable {P : Program} {w : World} {K : PySem.W.Frag} {A : Str → Addr} {mg : Str → Option Value} {base : Heap} {f : Addr} {fd : FuncData}
theorem sc_sum_of : FnScope ["ratios", "tops", "bottom"] ["ratios"] (defScope st_sum_of) := scope_ok rfl rfl rfl (by decide +kernel) rfl (by decide +kernel) (by decide +kernel)
theorem ok_sum_of (F : Fun K "sum_of" "sum_of" st_sum_of f fd) (T : Txt K A mg) {a_over_common : Addr} {d_over_common : FuncData} (h_over_common : DefKS P w K mg base "over_common" 1 ["ratios"] (spOf K (con A (m_over_common A))) a_over_common d_over_common) {a_lowest : Addr} {d_lowest : FuncData} (h_lowest : DefKS P w K mg base "lowest" 1 ["top", "bottom"] (spOf K (con A (m_lowest A))) a_lowest d_lowest) : FnOk P w K mg base (L2.CX P w) 2 f fd ["ratios"] (spOf K (con A (m_sum_of A))) := by
  refine def_okT F sc_sum_of (fun gs M r h => run_con h) (fun cdv A0 outer s H E hr tk => ?_)
  refine ⟨_, (pss_cons (ps_asg (pe_callS h_over_common.ok (hr.mono (by decide)) (by rfl) h_over_common.gm h_over_common.kp h_over_common.bd (fun σ => passAt tk σ) (pa_cons (pv 0) pa_nil)) (pg_rowQ (K := K) rfl rfl (pgs_cons (pg_name (i := 1) sc_sum_of.nd rfl (.inl rfl)) (pgs_cons (pg_name (i := 2) sc_sum_of.nd rfl (.inl rfl)) pgs_nil))))
      (pss_one (ps_ret (pe_callS h_lowest.ok (hr.mono (by decide)) (by rfl) h_lowest.gm h_lowest.kp h_lowest.bd (fun σ => passAt tk σ) (pa_cons (pe_callB (cr_sumQ (K := K) rfl rfl) (by rfl) T.sum (by decide +kernel) (pa_cons (pv 1) pa_nil)) (pa_cons (pv 2) pa_nil)))))), fun gs M r h => run_done (f := f_sum_of A) ?_ h⟩
  exact (ss_seq (ss_asgT (se_call (fun _ _ _ _ h => h) (sa_cons se_var sa_nil)) (sb_row (sbs_cons sb_name (sbs_cons sb_name sbs_nil))))
  (ss_ret (se_call (fun _ _ _ _ h => h) (sa_cons (se_cb sc_sum (sa_cons se_var sa_nil)) (sa_cons se_var sa_nil)))))
theorem sc_sums_of_three : FnScope ["m12", "m13", "m23", "signs", "a", "b", "c"] ["m12", "m13", "m23"] (defScope st_sums_of_three) := scope_ok rfl rfl rfl (by decide +kernel) rfl (by decide +kernel) (by decide +kernel)
theorem ok_sums_of_three (F : Fun K "sums_of_three" "sums_of_three" st_sums_of_three f fd) (T : Txt K A mg) {a_sum_of : Addr} {d_sum_of : FuncData} (h_sum_of : DefKS P w K mg base "sum_of" 2 ["ratios"] (spOf K (con A (m_sum_of A))) a_sum_of d_sum_of) {a_times : Addr} {d_times : FuncData} (h_times : DefKS P w K mg base "times" 4 ["one", "other"] (spOf K (con A (m_times A))) a_times d_times) : FnOk P w K mg base (L2.CX P w) 5 f fd ["m12", "m13", "m23"] (spOf K (con A (m_sums_of_three A))) := by
  refine def_okT F sc_sums_of_three (fun gs M r h => run_con h) (fun cdv A0 outer s H E hr tk => ?_)
  refine ⟨_, (pss_cons (ps_set (i := 3) sc_sums_of_three.nd rfl (.inl rfl) (pe_tup (pa_cons (pe_tup (pa_cons pe_int (pa_cons pe_int (pa_cons pe_int pa_nil)))) (pa_cons (pe_tup (pa_cons pe_int (pa_cons (pe_un un_neg pe_int) (pa_cons (pe_un un_neg pe_int) pa_nil)))) (pa_cons (pe_tup (pa_cons (pe_un un_neg pe_int) (pa_cons pe_int (pa_cons (pe_un un_neg pe_int) pa_nil)))) (pa_cons (pe_tup (pa_cons (pe_un un_neg pe_int) (pa_cons (pe_un un_neg pe_int) (pa_cons pe_int pa_nil)))) pa_nil))))))
      (pss_one (ps_ret (pe_lc (own := [("a", 4), ("b", 5), ("c", 6)]) (g := (gRow K 3 (gCons (gName 4) (gCons (gName 5) (gCons (gName 6) gNil))))) (tt := tYes) rfl sc_sums_of_three.nd (pi_anyQ (K := K) rfl (pv 3)) (blkOk_by (own := [("a", 4), ("b", 5), ("c", 6)]) (N := ["m12", "m13", "m23", "signs", "a", "b", "c"]) (sc := defScope st_sums_of_three) (by decide +kernel)) (fun _ _ _ _ _ => (pg_rowQ (K := K) rfl rfl (pgs_cons (pg_name (i := 4) sc_sums_of_three.nd rfl (.inl rfl)) (pgs_cons (pg_name (i := 5) sc_sums_of_three.nd rfl (.inl rfl)) (pgs_cons (pg_name (i := 6) sc_sums_of_three.nd rfl (.inl rfl)) pgs_nil))))) (fun _ _ _ _ _ => pts_nil) (fun _ _ _ _ _ => (pe_callS h_sum_of.ok (hr.mono (by decide)) (by rfl) h_sum_of.gm h_sum_of.kp h_sum_of.bd (fun σ => passAt takes0 σ) (pa_cons (pe_lst (pa_cons (pe_tup (pa_cons pe_int (pa_cons pe_int pa_nil))) (pa_cons (pe_callS h_times.ok (hr.mono (by decide)) (by rfl) h_times.gm h_times.kp h_times.bd (fun σ => passAt takes0 σ) (pa_cons (pv 4) (pa_cons (pv 0) pa_nil))) (pa_cons (pe_callS h_times.ok (hr.mono (by decide)) (by rfl) h_times.gm h_times.kp h_times.bd (fun σ => passAt takes0 σ) (pa_cons (pv 5) (pa_cons (pv 1) pa_nil))) (pa_cons (pe_callS h_times.ok (hr.mono (by decide)) (by rfl) h_times.gm h_times.kp h_times.bd (fun σ => passAt takes0 σ) (pa_cons (pv 6) (pa_cons (pv 2) pa_nil))) pa_nil))))) pa_nil))))))), fun gs M r h => run_done (f := f_sums_of_three A) ?_ h⟩
  exact (ss_seq (ss_asg (se_tup (sa_cons (se_tup (sa_cons se_int (sa_cons se_int (sa_cons se_int sa_nil)))) (sa_cons (se_tup (sa_cons se_int (sa_cons (se_un (fun _ => .int) se_int) (sa_cons (se_un (fun _ => .int) se_int) sa_nil)))) (sa_cons (se_tup (sa_cons (se_un (fun _ => .int) se_int) (sa_cons se_int (sa_cons (se_un (fun _ => .int) se_int) sa_nil)))) (sa_cons (se_tup (sa_cons (se_un (fun _ => .int) se_int) (sa_cons (se_un (fun _ => .int) se_int) (sa_cons se_int sa_nil)))) sa_nil))))))
  (ss_ret (se_new (sn_lc (si_any se_var) (sb_row (sbs_cons sb_name (sbs_cons sb_name (sbs_cons sb_name sbs_nil)))) (by decide) st_yes calm_yes (se_call (fun _ _ _ _ h => False.elim h) (sa_cons (se_new (sn_lst (sa_cons (se_tup (sa_cons se_int (sa_cons se_int sa_nil))) (sa_cons (se_call (fun _ _ _ _ h => False.elim h) (sa_cons se_var (sa_cons se_var sa_nil))) (sa_cons (se_call (fun _ _ _ _ h => False.elim h) (sa_cons se_var (sa_cons se_var sa_nil))) (sa_cons (se_call (fun _ _ _ _ h => False.elim h) (sa_cons se_var (sa_cons se_var sa_nil))) sa_nil)))))) sa_nil))))))
theorem sc_sign_of : FnScope ["one", "top"] ["one"] (defScope st_sign_of) := scope_ok rfl rfl rfl (by decide +kernel) rfl (by decide +kernel) (by decide +kernel)
theorem ok_sign_of (F : Fun K "sign_of" "sign_of" st_sign_of f fd) (T : Txt K A mg) {a_ratio_of : Addr} {d_ratio_of : FuncData} (h_ratio_of : DefKS P w K mg base "ratio_of" 3 ["number"] (spOf K (con A (m_ratio_of A))) a_ratio_of d_ratio_of) : FnOk P w K mg base (L2.CX P w) 4 f fd ["one"] (spOf K (con A (m_sign_of A))) := by
  refine def_okT F sc_sign_of (fun gs M r h => run_con h) (fun cdv A0 outer s H E hr tk => ?_)
  refine ⟨_, (pss_cons (ps_set (i := 1) sc_sign_of.nd rfl (.inl rfl) (pe_ix (ix_seqQ (K := K) rfl) (pe_callS h_ratio_of.ok (hr.mono (by decide)) (by rfl) h_ratio_of.gm h_ratio_of.kp h_ratio_of.bd (fun σ => passAt tk σ) (pa_cons (pv 0) pa_nil)) pe_int (fun _ _ => rfl)))
      (pss_cons (ps_if (pt_cmpR op_eq (pv 1) pe_int (nomark _)) (pss_one (ps_ret pe_int)) pss_nil)
      (pss_one (ps_ret (pe_ifExp (pt_cmpR op_gt (pv 1) pe_int (nomark _)) pe_int (pe_un un_neg pe_int)))))), fun gs M r h => run_done (f := f_sign_of A) ?_ h⟩
  exact (ss_seq (ss_asg (se_ix (se_call (fun _ _ _ _ h => h) (sa_cons se_var sa_nil)) se_int))
  (ss_seq (ss_if (st_test (se_op so_eq se_var se_int)) (ss_ret se_int) ss_next)
  (ss_ret (se_if (st_test (se_op (so_I0 fun _ _ => .bl) se_var se_int)) se_int (se_un (fun _ => .int) se_int)))))
theorem sc_sums_above : FnScope ["m12", "m13", "m23", "found", "at", "entry"] ["m12", "m13", "m23"] (defScope st_sums_above) := scope_ok rfl rfl rfl (by decide +kernel) rfl (by decide +kernel) (by decide +kernel)
theorem ok_sums_above (F : Fun K "sums_above" "sums_above" st_sums_above f fd) (T : Txt K A mg) {a_sums_of_three : Addr} {d_sums_of_three : FuncData} (h_sums_of_three : DefKS P w K mg base "sums_of_three" 5 ["m12", "m13", "m23"] (spOf K (con A (m_sums_of_three A))) a_sums_of_three d_sums_of_three) {a_ratio_of : Addr} {d_ratio_of : FuncData} (h_ratio_of : DefKS P w K mg base "ratio_of" 3 ["number"] (spOf K (con A (m_ratio_of A))) a_ratio_of d_ratio_of) {a_sign_of : Addr} {d_sign_of : FuncData} (h_sign_of : DefKS P w K mg base "sign_of" 4 ["one"] (spOf K (con A (m_sign_of A))) a_sign_of d_sign_of) : FnOk P w K mg base (L2.CX P w) 6 f fd ["m12", "m13", "m23"] (spOf K (con A (m_sums_above A))) := by
  refine def_okT F sc_sums_above (fun gs M r h => run_con h) (fun cdv A0 outer s H E hr tk => ?_)
  refine ⟨_, (pss_cons (ps_set (i := 3) sc_sums_above.nd rfl (.inl rfl) (pe_callS h_sums_of_three.ok (hr.mono (by decide)) (by rfl) h_sums_of_three.gm h_sums_of_three.kp h_sums_of_three.bd (fun σ => passAt tk σ) (pa_cons (pe_callS h_ratio_of.ok (hr.mono (by decide)) (by rfl) h_ratio_of.gm h_ratio_of.kp h_ratio_of.bd (fun σ => passAt tk σ) (pa_cons (pv 0) pa_nil)) (pa_cons (pe_callS h_ratio_of.ok (hr.mono (by decide)) (by rfl) h_ratio_of.gm h_ratio_of.kp h_ratio_of.bd (fun σ => passAt tk σ) (pa_cons (pv 1) pa_nil)) (pa_cons (pe_callS h_ratio_of.ok (hr.mono (by decide)) (by rfl) h_ratio_of.gm h_ratio_of.kp h_ratio_of.bd (fun σ => passAt tk σ) (pa_cons (pv 2) pa_nil)) pa_nil)))))
      (pss_cons (ps_for (passes_of rfl) rfl (pi_enumAQ (K := K) rfl (by rfl) T.enumerate (pa_cons (pv 3) pa_nil)) (pg_rowQ (K := K) rfl rfl (pgs_cons (pg_name (i := 4) sc_sums_above.nd rfl (.inl rfl)) (pgs_cons (pg_name (i := 5) sc_sums_above.nd rfl (.inl rfl)) pgs_nil))) (pss_one (ps_if (pt_cmpR op_le (pe_callS h_sign_of.ok (hr.mono (by decide)) (by rfl) h_sign_of.gm h_sign_of.kp h_sign_of.bd (fun σ => passAt tk σ) (pa_cons (pv 5) pa_nil)) pe_int (nomark _)) (pss_one ps_dead) pss_nil)))
      (pss_one (ps_ret (pv 3))))), fun gs M r h => run_done (f := f_sums_above A) ?_ h⟩
  exact (ss_seq (ss_asg (se_call (fun _ _ _ _ h => h) (sa_cons (se_call (fun _ _ _ _ h => h) (sa_cons se_var sa_nil)) (sa_cons (se_call (fun _ _ _ _ h => h) (sa_cons se_var sa_nil)) (sa_cons (se_call (fun _ _ _ _ h => h) (sa_cons se_var sa_nil)) sa_nil)))))
  (ss_seq (ss_for (si_enum (sa_cons se_var sa_nil)) (sb_row (sbs_cons sb_name (sbs_cons sb_name sbs_nil))) (ss_if (st_test (se_op (so_I0 fun _ _ => .bl) (se_call (fun _ _ _ _ h => h) (sa_cons se_var sa_nil)) se_int)) ss_no ss_next))
  (ss_ret se_var)))
theorem sc_triangle_squares : FnScope ["m12", "m13", "m23", "e0", "e1", "e2", "e3"] ["m12", "m13", "m23"] (defScope st_triangle_squares) := scope_ok rfl rfl rfl (by decide +kernel) rfl (by decide +kernel) (by decide +kernel)
theorem ok_triangle_squares (F : Fun K "triangle_squares" "triangle_squares" st_triangle_squares f fd) (T : Txt K A mg) {a_sums_above : Addr} {d_sums_above : FuncData} (h_sums_above : DefKS P w K mg base "sums_above" 6 ["m12", "m13", "m23"] (spOf K (con A (m_sums_above A))) a_sums_above d_sums_above) {a_over : Addr} {d_over : FuncData} (h_over : DefKS P w K mg base "over" 4 ["one", "other"] (spOf K (con A (m_over A))) a_over d_over) {a_times : Addr} {d_times : FuncData} (h_times : DefKS P w K mg base "times" 4 ["one", "other"] (spOf K (con A (m_times A))) a_times d_times) : FnOk P w K mg base (L2.CX P w) 7 f fd ["m12", "m13", "m23"] (spOf K (con A (m_triangle_squares A))) := by
  refine def_okT F sc_triangle_squares (fun gs M r h => run_con h) (fun cdv A0 outer s H E hr tk => ?_)
  refine ⟨_, (pss_cons (ps_asg (pe_callS h_sums_above.ok (hr.mono (by decide)) (by rfl) h_sums_above.gm h_sums_above.kp h_sums_above.bd (fun σ => passAt tk σ) (pa_cons (pv 0) (pa_cons (pv 1) (pa_cons (pv 2) pa_nil)))) (pg_rowQ (K := K) rfl rfl (pgs_cons (pg_name (i := 3) sc_triangle_squares.nd rfl (.inl rfl)) (pgs_cons (pg_name (i := 4) sc_triangle_squares.nd rfl (.inl rfl)) (pgs_cons (pg_name (i := 5) sc_triangle_squares.nd rfl (.inl rfl)) (pgs_cons (pg_name (i := 6) sc_triangle_squares.nd rfl (.inl rfl)) pgs_nil))))))
      (pss_one (ps_ret (pe_tup (pa_cons (pe_callS h_over.ok (hr.mono (by decide)) (by rfl) h_over.gm h_over.kp h_over.bd (fun σ => passAt tk σ) (pa_cons (pe_callS h_times.ok (hr.mono (by decide)) (by rfl) h_times.gm h_times.kp h_times.bd (fun σ => passAt tk σ) (pa_cons (pv 3) (pa_cons (pv 4) pa_nil))) (pa_cons (pe_callS h_times.ok (hr.mono (by decide)) (by rfl) h_times.gm h_times.kp h_times.bd (fun σ => passAt tk σ) (pa_cons (pv 5) (pa_cons (pv 6) pa_nil))) pa_nil))) (pa_cons (pe_callS h_over.ok (hr.mono (by decide)) (by rfl) h_over.gm h_over.kp h_over.bd (fun σ => passAt tk σ) (pa_cons (pe_callS h_times.ok (hr.mono (by decide)) (by rfl) h_times.gm h_times.kp h_times.bd (fun σ => passAt tk σ) (pa_cons (pv 3) (pa_cons (pv 5) pa_nil))) (pa_cons (pe_callS h_times.ok (hr.mono (by decide)) (by rfl) h_times.gm h_times.kp h_times.bd (fun σ => passAt tk σ) (pa_cons (pv 4) (pa_cons (pv 6) pa_nil))) pa_nil))) (pa_cons (pe_callS h_over.ok (hr.mono (by decide)) (by rfl) h_over.gm h_over.kp h_over.bd (fun σ => passAt tk σ) (pa_cons (pe_callS h_times.ok (hr.mono (by decide)) (by rfl) h_times.gm h_times.kp h_times.bd (fun σ => passAt tk σ) (pa_cons (pv 3) (pa_cons (pv 6) pa_nil))) (pa_cons (pe_callS h_times.ok (hr.mono (by decide)) (by rfl) h_times.gm h_times.kp h_times.bd (fun σ => passAt tk σ) (pa_cons (pv 4) (pa_cons (pv 5) pa_nil))) pa_nil))) pa_nil))))))), fun gs M r h => run_done (f := f_triangle_squares A) ?_ h⟩
  exact (ss_seq (ss_asgT (se_call (fun _ _ _ _ h => h) (sa_cons se_var (sa_cons se_var (sa_cons se_var sa_nil)))) (sb_row (sbs_cons sb_name (sbs_cons sb_name (sbs_cons sb_name (sbs_cons sb_name sbs_nil))))))
  (ss_ret (se_tup (sa_cons (se_call (fun _ _ _ _ h => h) (sa_cons (se_call (fun _ _ _ _ h => h) (sa_cons se_var (sa_cons se_var sa_nil))) (sa_cons (se_call (fun _ _ _ _ h => h) (sa_cons se_var (sa_cons se_var sa_nil))) sa_nil))) (sa_cons (se_call (fun _ _ _ _ h => h) (sa_cons (se_call (fun _ _ _ _ h => h) (sa_cons se_var (sa_cons se_var sa_nil))) (sa_cons (se_call (fun _ _ _ _ h => h) (sa_cons se_var (sa_cons se_var sa_nil))) sa_nil))) (sa_cons (se_call (fun _ _ _ _ h => h) (sa_cons (se_call (fun _ _ _ _ h => h) (sa_cons se_var (sa_cons se_var sa_nil))) (sa_cons (se_call (fun _ _ _ _ h => h) (sa_cons se_var (sa_cons se_var sa_nil))) sa_nil))) sa_nil))))))
theorem sc_count_of : FnScope ["many", "most"] ["many", "most"] (defScope st_count_of) := scope_ok rfl rfl rfl (by decide +kernel) rfl (by decide +kernel) (by decide +kernel)
theorem ok_count_of (F : Fun K "count_of" "count_of" st_count_of f fd) (T : Txt K A mg) {a_is_integer : Addr} {d_is_integer : FuncData} (h_is_integer : DefKS P w K mg base "is_integer" 1 ["value"] (spOf K (con A (m_is_integer A))) a_is_integer d_is_integer) : FnOk P w K mg base (L2.CX P w) 2 f fd ["many", "most"] (spOf K (con A (m_count_of A))) := by
  refine def_okT F sc_count_of (fun gs M r h => run_con h) (fun cdv A0 outer s H E hr tk => ?_)
  refine ⟨_, (pss_cons (ps_if (PW.pt (pw_or (pt_not (pt_val (pe_callS h_is_integer.ok (hr.mono (by decide)) (by rfl) h_is_integer.gm h_is_integer.kp h_is_integer.bd (fun σ => passAt tk σ) (pa_cons (pv 0) pa_nil)))) (pw_or1 (pt_cmpR op_lt (pv 0) pe_int (nomark _))))) (pss_one (ps_raise rfl tk (pmk_own0 T.x_BadCount (by rfl)))) pss_nil)
      (pss_cons (ps_if (pt_cmpR op_gt (pv 0) (pv 1) (nomark _)) (pss_one ps_dead) pss_nil)
      (pss_one (ps_ret (pe_callTy call_int1 (by rfl) T.int (by decide +kernel) (pa_cons (pv 0) pa_nil)))))), fun gs M r h => run_done (f := f_count_of A) ?_ h⟩
  exact (ss_seq (ss_if (st_or (st_not (st_B (se_call (fun _ _ _ _ h => h) (sa_cons se_var sa_nil)))) (st_test (se_op (so_I0 fun _ _ => .bl) se_var se_int))) ss_raise ss_next)
  (ss_seq (ss_if (st_test (se_op (so_I0 fun _ _ => .bl) se_var se_var)) ss_no ss_next)
  (ss_ret (se_cb sc_int (sa_cons se_var sa_nil)))))
end
end My

set_option Elab.async false
set_option linter.all false
set_option maxRecDepth 100000
set_option maxHeartbeats 4000000
set_option exponentiation.threshold 100000
namespace My
open PySem L2 Lw
section
variable {P : Program} {w : World} {K : PySem.W.Frag} {A : Str → Addr} {mg : Str → Option Value} {base : Heap} {f : Addr} {fd : FuncData}
theorem sc_is_place : FnScope ["value", "many"] ["value", "many"] (defScope st_is_place) := scope_ok rfl rfl rfl (by decide +kernel) rfl (by decide +kernel) (by decide +kernel)
theorem ok_is_place (F : Fun K "is_place" "is_place" st_is_place f fd) (T : Txt K A mg) {a_is_integer : Addr} {d_is_integer : FuncData} (h_is_integer : DefKS P w K mg base "is_integer" 1 ["value"] (spOf K (con A (m_is_integer A))) a_is_integer d_is_integer) : FnOk P w K mg base (L2.CX P w) 2 f fd ["value", "many"] (spOf K (con A (m_is_place A))) := by
  refine def_okT F sc_is_place (fun gs M r h => run_con h) (fun cdv A0 outer s H E hr tk => ?_)
  refine ⟨_, (pss_one (ps_ret (pe_and (pe_callS h_is_integer.ok (hr.mono (by decide)) (by rfl) h_is_integer.gm h_is_integer.kp h_is_integer.bd (fun σ => passAt tk σ) (pa_cons (pv 0) pa_nil)) (pe_one (pe_chain op_le op_lt pe_int (pv 0) (pv 1)))))), fun gs M r h => run_done (f := f_is_place A) ?_ h⟩
  exact (ss_ret (se_and (se_call (fun _ _ _ _ h => h) (sa_cons se_var sa_nil)) (se_chain (so_I0 fun _ _ => .bl) (so_I0 fun _ _ => .bl) se_int se_var se_var)))
theorem sc_tie_of : FnScope ["number", "tie", "many", "u", "v", "t", "p", "q"] ["number", "tie", "many"] (defScope st_tie_of) := scope_ok rfl rfl rfl (by decide +kernel) rfl (by decide +kernel) (by decide +kernel)
theorem ok_tie_of (F : Fun K "tie_of" "tie_of" st_tie_of f fd) (T : Txt K A mg) {a_is_row : Addr} {d_is_row : FuncData} (h_is_row : DefKS P w K mg base "is_row" 1 ["value"] (spOf K (con A (m_is_row A))) a_is_row d_is_row) {a_is_ratio : Addr} {d_is_ratio : FuncData} (h_is_ratio : DefKS P w K mg base "is_ratio" 2 ["value"] (spOf K (con A (m_is_ratio A))) a_is_ratio d_is_ratio) {a_is_place : Addr} {d_is_place : FuncData} (h_is_place : DefKS P w K mg base "is_place" 2 ["value", "many"] (spOf K (con A (m_is_place A))) a_is_place d_is_place) {a_ratio_of : Addr} {d_ratio_of : FuncData} (h_ratio_of : DefKS P w K mg base "ratio_of" 3 ["number"] (spOf K (con A (m_ratio_of A))) a_ratio_of d_ratio_of) : FnOk P w K mg base (L2.CX P w) 4 f fd ["number", "tie", "many"] (spOf K (con A (m_tie_of A))) := by
  refine def_okT F sc_tie_of (fun gs M r h => run_con h) (fun cdv A0 outer s H E hr tk => ?_)
  refine ⟨_, (pss_cons (ps_if (PW.pt (pw_or (pt_not (pt_val (pe_callS h_is_row.ok (hr.mono (by decide)) (by rfl) h_is_row.gm h_is_row.kp h_is_row.bd (fun σ => passAt tk σ) (pa_cons (pv 1) pa_nil)))) (pw_or1 (pt_cmpR op_ne (pe_callB (call_len_seqQ (K := K) rfl) (by rfl) T.len PySem.boot_len (pa_cons (pv 1) pa_nil)) pe_int (nomark _))))) (pss_one ps_dead) pss_nil)
      (pss_cons (ps_asg (pv 1) (pg_rowQ (K := K) rfl rfl (pgs_cons (pg_name (i := 3) sc_tie_of.nd rfl (.inl rfl)) (pgs_cons (pg_name (i := 4) sc_tie_of.nd rfl (.inl rfl)) (pgs_cons (pg_name (i := 5) sc_tie_of.nd rfl (.inl rfl)) pgs_nil)))))
      (pss_cons (ps_if (PW.pt (pw_or (pt_not (pt_val (pe_callS h_is_place.ok (hr.mono (by decide)) (by rfl) h_is_place.gm h_is_place.kp h_is_place.bd (fun σ => passAt tk σ) (pa_cons (pv 3) (pa_cons (pv 2) pa_nil))))) (pw_or (pt_not (pt_val (pe_callS h_is_place.ok (hr.mono (by decide)) (by rfl) h_is_place.gm h_is_place.kp h_is_place.bd (fun σ => passAt tk σ) (pa_cons (pv 4) (pa_cons (pv 2) pa_nil))))) (pw_or1 (pt_not (pt_val (pe_callS h_is_ratio.ok (hr.mono (by decide)) (by rfl) h_is_ratio.gm h_is_ratio.kp h_is_ratio.bd (fun σ => passAt tk σ) (pa_cons (pv 5) pa_nil)))))))) (pss_one ps_dead) pss_nil)
      (pss_cons (ps_asg (pe_callS h_ratio_of.ok (hr.mono (by decide)) (by rfl) h_ratio_of.gm h_ratio_of.kp h_ratio_of.bd (fun σ => passAt tk σ) (pa_cons (pv 5) pa_nil)) (pg_rowQ (K := K) rfl rfl (pgs_cons (pg_name (i := 6) sc_tie_of.nd rfl (.inl rfl)) (pgs_cons (pg_name (i := 7) sc_tie_of.nd rfl (.inl rfl)) pgs_nil))))
      (pss_cons (ps_if (pt_cmpR op_ge (pe_callB call_abs (by rfl) T.abs (by decide +kernel) (pa_cons (pv 6) pa_nil)) (pv 7) (nomark _)) (pss_one ps_dead) pss_nil)
      (pss_one (ps_ret (pe_tup (pa_cons (pe_callTy call_int1 (by rfl) T.int (by decide +kernel) (pa_cons (pv 3) pa_nil)) (pa_cons (pe_callTy call_int1 (by rfl) T.int (by decide +kernel) (pa_cons (pv 4) pa_nil)) (pa_cons (pe_tup (pa_cons (pv 6) (pa_cons (pv 7) pa_nil))) pa_nil))))))))))), fun gs M r h => run_done (f := f_tie_of A) ?_ h⟩
  exact (ss_seq (ss_if (st_or (st_not (st_B (se_call (fun _ _ _ _ h => h) (sa_cons se_var sa_nil)))) (st_test (se_op so_ne (se_cb sc_len (sa_cons se_var sa_nil)) se_int))) ss_no ss_next)
  (ss_seq (ss_asgT se_var (sb_row (sbs_cons sb_name (sbs_cons sb_name (sbs_cons sb_name sbs_nil)))))
  (ss_seq (ss_if (st_or (st_not (st_B (se_call (fun _ _ _ _ h => h) (sa_cons se_var (sa_cons se_var sa_nil))))) (st_or (st_not (st_B (se_call (fun _ _ _ _ h => h) (sa_cons se_var (sa_cons se_var sa_nil))))) (st_not (st_B (se_call (fun _ _ _ _ h => h) (sa_cons se_var sa_nil)))))) ss_no ss_next)
  (ss_seq (ss_asgT (se_call (fun _ _ _ _ h => h) (sa_cons se_var sa_nil)) (sb_row (sbs_cons sb_name (sbs_cons sb_name sbs_nil))))
  (ss_seq (ss_if (st_test (se_op (so_I0 fun _ _ => .bl) (se_cb sc_i1 (sa_cons se_var sa_nil)) se_var)) ss_no ss_next)
  (ss_ret (se_tup (sa_cons (se_cb sc_int (sa_cons se_var sa_nil)) (sa_cons (se_cb sc_int (sa_cons se_var sa_nil)) (sa_cons (se_tup (sa_cons se_var (sa_cons se_var sa_nil))) sa_nil))))))))))
theorem sc_ties_of : FnScope ["ties", "many", "most", "number", "tie"] ["ties", "many", "most"] (defScope st_ties_of) := scope_ok rfl rfl rfl (by decide +kernel) rfl (by decide +kernel) (by decide +kernel)
theorem ok_ties_of (F : Fun K "ties_of" "ties_of" st_ties_of f fd) (T : Txt K A mg) {a_is_row : Addr} {d_is_row : FuncData} (h_is_row : DefKS P w K mg base "is_row" 1 ["value"] (spOf K (con A (m_is_row A))) a_is_row d_is_row) {a_tie_of : Addr} {d_tie_of : FuncData} (h_tie_of : DefKS P w K mg base "tie_of" 4 ["number", "tie", "many"] (spOf K (con A (m_tie_of A))) a_tie_of d_tie_of) : FnOk P w K mg base (L2.CX P w) 5 f fd ["ties", "many", "most"] (spOf K (con A (m_ties_of A))) := by
  refine def_okT F sc_ties_of (fun gs M r h => run_con h) (fun cdv A0 outer s H E hr tk => ?_)
  refine ⟨_, (pss_cons (ps_if (pt_not (pt_val (pe_callS h_is_row.ok (hr.mono (by decide)) (by rfl) h_is_row.gm h_is_row.kp h_is_row.bd (fun σ => passAt tk σ) (pa_cons (pv 0) pa_nil)))) (pss_one ps_dead) pss_nil)
      (pss_cons (ps_if (pt_cmpR op_gt (pe_callB (call_len_seqQ (K := K) rfl) (by rfl) T.len PySem.boot_len (pa_cons (pv 0) pa_nil)) (pv 2) (nomark _)) (pss_one ps_dead) pss_nil)
      (pss_one (ps_ret (pe_callTy (call_tuple_ofQ (K := K) rfl) (by rfl) T.tuple (by decide +kernel) (pa_cons (pe_lc (own := [("number", 3), ("tie", 4)]) (g := (gRow K 2 (gCons (gName 3) (gCons (gName 4) gNil)))) (tt := tYes) rfl sc_ties_of.nd (pi_enumAQ (K := K) rfl (by rfl) T.enumerate (pa_cons (pv 0) pa_nil)) (blkOk_by (own := [("number", 3), ("tie", 4)]) (N := ["ties", "many", "most", "number", "tie"]) (sc := defScope st_ties_of) (by decide +kernel)) (fun _ _ _ _ _ => (pg_rowQ (K := K) rfl rfl (pgs_cons (pg_name (i := 3) sc_ties_of.nd rfl (.inl rfl)) (pgs_cons (pg_name (i := 4) sc_ties_of.nd rfl (.inl rfl)) pgs_nil)))) (fun _ _ _ _ _ => pts_nil) (fun _ _ _ _ _ => (pe_callS h_tie_of.ok (hr.mono (by decide)) (by rfl) h_tie_of.gm h_tie_of.kp h_tie_of.bd (fun σ => passAt takes0 σ) (pa_cons (pv 3) (pa_cons (pv 4) (pa_cons (pv 1) pa_nil)))))) pa_nil)))))), fun gs M r h => run_done (f := f_ties_of A) ?_ h⟩
  exact (ss_seq (ss_if (st_not (st_B (se_call (fun _ _ _ _ h => h) (sa_cons se_var sa_nil)))) ss_no ss_next)
  (ss_seq (ss_if (st_test (se_op (so_I0 fun _ _ => .bl) (se_cb sc_len (sa_cons se_var sa_nil)) se_var)) ss_no ss_next)
  (ss_ret (se_cb sc_tup (sa_cons (se_new (sn_lc (si_enum (sa_cons se_var sa_nil)) (sb_row (sbs_cons sb_name (sbs_cons sb_name sbs_nil))) (by decide) st_yes calm_yes (se_call (fun _ _ _ _ h => False.elim h) (sa_cons se_var (sa_cons se_var (sa_cons se_var sa_nil)))))) sa_nil)))))
theorem sc_Web_init : FnScope ["self", "many", "ties"] ["self", "many", "ties"] (defScope st_Web_init) := scope_ok rfl rfl rfl (by decide +kernel) rfl (by decide +kernel) (by decide +kernel)
theorem ok_Web_init (F : Fun K "__init__" "Web.__init__" st_Web_init f fd) (T : Txt K A mg) {a_count_of : Addr} {d_count_of : FuncData} (h_count_of : DefKS P w K mg base "count_of" 2 ["many", "most"] (spOf K (con A (m_count_of A))) a_count_of d_count_of) {a_ties_of : Addr} {d_ties_of : FuncData} (h_ties_of : DefKS P w K mg base "ties_of" 5 ["ties", "many", "most"] (spOf K (con A (m_ties_of A))) a_ties_of d_ties_of) : FnOk P w K mg base (L2.CX P w) 6 f fd ["self", "many", "ties"] (spOf K (con A (m_Web_init A))) := by
  refine def_okT F sc_Web_init (fun gs M r h => run_con h) (fun cdv A0 outer s H E hr tk => ?_)
  refine ⟨_, (pss_cons (ps_fld (pv 0) (pe_callS h_count_of.ok (hr.mono (by decide)) (by rfl) h_count_of.gm h_count_of.kp h_count_of.bd (fun σ => passAt tk σ) (pa_cons (pv 1) (pa_cons (pe_con (pv 0) rfl) pa_nil))) rfl)
      (pss_one (ps_fld (pv 0) (pe_callS h_ties_of.ok (hr.mono (by decide)) (by rfl) h_ties_of.gm h_ties_of.kp h_ties_of.bd (fun σ => passAt tk σ) (pa_cons (pv 2) (pa_cons (pe_fld (pv 0) rfl) (pa_cons (pe_con (pv 0) rfl) pa_nil)))) rfl))), fun gs M r h => run_done (f := f_Web_init A) ?_ h⟩
  exact (ss_seq (ss_setF T.c_Web T.n_Web_many se_var (se_call (fun _ _ _ _ h => h) (sa_cons se_var (sa_cons (se_const T.c_Web T.k_Web_most_places.choose_spec .int se_var) sa_nil))))
  (ss_setF T.c_Web T.n_Web_ties se_var (se_call (fun _ _ _ _ h => h) (sa_cons se_var (sa_cons (se_fld (one_cls T.c_Web T.n_Web_many) se_var) (sa_cons (se_const T.c_Web T.k_Web_most_ties.choose_spec .int se_var) sa_nil))))))
theorem sc_pairs_of : FnScope ["many", "u", "v"] ["many"] (defScope st_pairs_of) := scope_ok rfl rfl rfl (by decide +kernel) rfl (by decide +kernel) (by decide +kernel)
theorem ok_pairs_of (F : Fun K "pairs_of" "pairs_of" st_pairs_of f fd) (T : Txt K A mg) : FnOk P w K mg base (L2.CX P w) 1 f fd ["many"] (spOf K (con A (m_pairs_of A))) := by
  refine def_okT F sc_pairs_of (fun gs M r h => run_con h) (fun cdv A0 outer s H E hr tk => ?_)
  refine ⟨_, (pss_one (ps_ret (pe_lc2 (own := [("u", 1), ("v", 2)]) (vs1 := [2]) (g := (gName 1)) (g1 := (gName 2)) (tt := tYes) (tt1 := tYes) rfl sc_pairs_of.nd (pi_range1 (by rfl) T.range (pa_cons (pv 0) pa_nil)) (blkOk_by (own := [("u", 1), ("v", 2)]) (N := ["many", "u", "v"]) (sc := defScope st_pairs_of) (by decide +kernel)) (by decide) (fun _ _ _ _ _ => (pg_name (i := 1) sc_pairs_of.nd rfl (.inl rfl))) (fun _ _ _ _ _ => pts_nil) (fun _ _ _ _ _ => (pi_range2 (by rfl) T.range (pa_cons (pe_op op_add (pv 1) pe_int) (pa_cons (pv 0) pa_nil)))) (fun _ _ _ _ _ => (pg_name (i := 2) sc_pairs_of.nd rfl (.inl rfl))) (fun _ _ _ _ _ => pts_nil) (fun _ _ _ _ _ => (pe_tup (pa_cons (pv 1) (pa_cons (pv 2) pa_nil))))))), fun gs M r h => run_done (f := f_pairs_of A) ?_ h⟩
  exact (ss_ret (se_new (sn_lc2 (si_rng1 (sa_cons se_var sa_nil)) sb_name (by decide) sb_name (by decide) st_yes st_yes (si_rng2 (sa_cons (se_op (so_I0 fun _ _ => .int) se_var se_int) (sa_cons se_var sa_nil))) (se_tup (sa_cons se_var (sa_cons se_var sa_nil))))))
theorem sc_is_saying : FnScope ["saying", "least", "most", "entry"] ["saying", "least", "most"] (defScope st_is_saying) := scope_ok rfl rfl rfl (by decide +kernel) rfl (by decide +kernel) (by decide +kernel)
theorem ok_is_saying (F : Fun K "is_saying" "is_saying" st_is_saying f fd) (T : Txt K A mg) {a_is_row : Addr} {d_is_row : FuncData} (h_is_row : DefKS P w K mg base "is_row" 1 ["value"] (spOf K (con A (m_is_row A))) a_is_row d_is_row) {a_is_integer : Addr} {d_is_integer : FuncData} (h_is_integer : DefKS P w K mg base "is_integer" 1 ["value"] (spOf K (con A (m_is_integer A))) a_is_integer d_is_integer) : FnOk P w K mg base (L2.CX P w) 2 f fd ["saying", "least", "most"] (spOf K (con A (m_is_saying A))) := by
  refine def_okT F sc_is_saying (fun gs M r h => run_con h) (fun cdv A0 outer s H E hr tk => ?_)
  refine ⟨_, (pss_cons (ps_if (PW.pt (pw_or (pt_not (pt_val (pe_callS h_is_row.ok (hr.mono (by decide)) (by rfl) h_is_row.gm h_is_row.kp h_is_row.bd (fun σ => passAt tk σ) (pa_cons (pv 0) pa_nil)))) (pw_or1 (pt_not (pt_chain op_le op_le (pv 1) (pe_callB (call_len_seqQ (K := K) rfl) (by rfl) T.len PySem.boot_len (pa_cons (pv 0) pa_nil)) (pv 2)))))) (pss_one (ps_ret pe_bl)) pss_nil)
      (pss_one (ps_ret (pe_callB (cr_allQ (K := K) rfl rfl) (by rfl) T.all (by decide +kernel) (pa_cons (pe_lc (own := [("entry", 3)]) (g := (gName 3)) (tt := tYes) rfl sc_is_saying.nd (pi_anyQ (K := K) rfl (pv 0)) (blkOk_by (own := [("entry", 3)]) (N := ["saying", "least", "most", "entry"]) (sc := defScope st_is_saying) (by decide +kernel)) (fun _ _ _ _ _ => (pg_name (i := 3) sc_is_saying.nd rfl (.inl rfl))) (fun _ _ _ _ _ => pts_nil) (fun _ _ _ _ _ => (pe_and (pe_callS h_is_integer.ok (hr.mono (by decide)) (by rfl) h_is_integer.gm h_is_integer.kp h_is_integer.bd (fun σ => passAt takes0 σ) (pa_cons (pv 3) pa_nil)) (pe_one (pe_cmpR (op_in_seqQ (K := K) rfl) (pv 3) (pe_tup (pa_cons pe_int (pa_cons (pe_un un_neg pe_int) pa_nil))) rfl))))) pa_nil))))), fun gs M r h => run_done (f := f_is_saying A) ?_ h⟩
  exact (ss_seq (ss_if (st_or (st_not (st_B (se_call (fun _ _ _ _ h => h) (sa_cons se_var sa_nil)))) (st_not (st_test (se_chain (so_I0 fun _ _ => .bl) (so_I0 fun _ _ => .bl) se_var (se_cb sc_len (sa_cons se_var sa_nil)) se_var)))) (ss_ret se_bl) ss_next)
  (ss_ret (se_cb sc_all (sa_cons (se_new (sn_lc (si_any se_var) sb_name (by decide) st_yes calm_yes (se_and (se_call (fun _ _ _ _ h => False.elim h) (sa_cons se_var sa_nil)) (se_op so_in se_var (se_tup (sa_cons se_int (sa_cons (se_un (fun _ => .int) se_int) sa_nil))))))) sa_nil))))
end
end My

set_option Elab.async false
set_option linter.all false
set_option maxRecDepth 100000
set_option maxHeartbeats 4000000
set_option exponentiation.threshold 100000
namespace My
open PySem L2 Lw
section
variable {P : Program} {w : World} {K : PySem.W.Frag} {A : Str → Addr} {mg : Str → Option Value} {base : Heap} {f : Addr} {fd : FuncData}
theorem sc_saying_of : FnScope ["saying", "many", "places", "entry"] ["saying", "many"] (defScope st_saying_of) := scope_ok rfl rfl rfl (by decide +kernel) rfl (by decide +kernel) (by decide +kernel)
theorem ok_saying_of (F : Fun K "saying_of" "saying_of" st_saying_of f fd) (T : Txt K A mg) {a_count_of : Addr} {d_count_of : FuncData} (h_count_of : DefKS P w K mg base "count_of" 2 ["many", "most"] (spOf K (con A (m_count_of A))) a_count_of d_count_of) {a_is_saying : Addr} {d_is_saying : FuncData} (h_is_saying : DefKS P w K mg base "is_saying" 2 ["saying", "least", "most"] (spOf K (con A (m_is_saying A))) a_is_saying d_is_saying) : FnOk P w K mg base (L2.CX P w) 3 f fd ["saying", "many"] (spOf K (con A (m_saying_of A))) := by
  refine def_okT F sc_saying_of (fun gs M r h => run_con h) (fun cdv A0 outer s H E hr tk => ?_)
  refine ⟨_, (pss_cons (ps_set (i := 2) sc_saying_of.nd rfl (.inl rfl) (pe_callS h_count_of.ok (hr.mono (by decide)) (by rfl) h_count_of.gm h_count_of.kp h_count_of.bd (fun σ => passAt tk σ) (pa_cons (pv 1) (pa_cons (pe_glob (v := .int 10) (by rfl) T.k_MOST_PLACES.choose_spec ⟨_, rfl⟩) pa_nil))))
      (pss_cons (ps_if (pt_not (pt_val (pe_callS h_is_saying.ok (hr.mono (by decide)) (by rfl) h_is_saying.gm h_is_saying.kp h_is_saying.bd (fun σ => passAt tk σ) (pa_cons (pv 0) (pa_cons (pv 2) (pa_cons (pv 2) pa_nil)))))) (pss_one (ps_raise rfl tk (pmk_own0 T.x_BadSaying (by rfl)))) pss_nil)
      (pss_one (ps_ret (pe_callTy (call_tuple_ofQ (K := K) rfl) (by rfl) T.tuple (by decide +kernel) (pa_cons (pe_lc (own := [("entry", 3)]) (g := (gName 3)) (tt := tYes) rfl sc_saying_of.nd (pi_anyQ (K := K) rfl (pv 0)) (blkOk_by (own := [("entry", 3)]) (N := ["saying", "many", "places", "entry"]) (sc := defScope st_saying_of) (by decide +kernel)) (fun _ _ _ _ _ => (pg_name (i := 3) sc_saying_of.nd rfl (.inl rfl))) (fun _ _ _ _ _ => pts_nil) (fun _ _ _ _ _ => (pe_callTy call_int1 (by rfl) T.int (by decide +kernel) (pa_cons (pv 3) pa_nil)))) pa_nil)))))), fun gs M r h => run_done (f := f_saying_of A) ?_ h⟩
  exact (ss_seq (ss_asg (se_call (fun _ _ _ _ h => h) (sa_cons se_var (sa_cons se_int sa_nil))))
  (ss_seq (ss_if (st_not (st_B (se_call (fun _ _ _ _ h => h) (sa_cons se_var (sa_cons se_var (sa_cons se_var sa_nil)))))) ss_raise ss_next)
  (ss_ret (se_cb sc_tup (sa_cons (se_new (sn_lc (si_any se_var) sb_name (by decide) st_yes calm_yes (se_cb sc_int (sa_cons se_var sa_nil)))) sa_nil)))))
theorem sc_changed : FnScope ["saying", "places", "place", "entry"] ["saying", "places"] (defScope st_changed) := scope_ok rfl rfl rfl (by decide +kernel) rfl (by decide +kernel) (by decide +kernel)
theorem ok_changed (F : Fun K "changed" "changed" st_changed f fd) (T : Txt K A mg) : FnOk P w K mg base (L2.CX P w) 1 f fd ["saying", "places"] (spOf K (con A (m_changed A))) := by
  refine def_okT F sc_changed (fun gs M r h => run_con h) (fun cdv A0 outer s H E hr tk => ?_)
  refine ⟨_, (pss_one (ps_ret (pe_callTy (call_tuple_ofQ (K := K) rfl) (by rfl) T.tuple (by decide +kernel) (pa_cons (pe_lc (own := [("place", 2), ("entry", 3)]) (g := (gRow K 2 (gCons (gName 2) (gCons (gName 3) gNil)))) (tt := tYes) rfl sc_changed.nd (pi_enumAQ (K := K) rfl (by rfl) T.enumerate (pa_cons (pv 0) pa_nil)) (blkOk_by (own := [("place", 2), ("entry", 3)]) (N := ["saying", "places", "place", "entry"]) (sc := defScope st_changed) (by decide +kernel)) (fun _ _ _ _ _ => (pg_rowQ (K := K) rfl rfl (pgs_cons (pg_name (i := 2) sc_changed.nd rfl (.inl rfl)) (pgs_cons (pg_name (i := 3) sc_changed.nd rfl (.inl rfl)) pgs_nil)))) (fun _ _ _ _ _ => pts_nil) (fun _ _ _ _ _ => (pe_ifExp (pt_cmpR (op_in_seqQ (K := K) rfl) (pv 2) (pv 1) rfl) (pe_un un_neg (pv 3)) (pv 3)))) pa_nil)))), fun gs M r h => run_done (f := f_changed A) ?_ h⟩
  exact (ss_ret (se_cb sc_tup (sa_cons (se_new (sn_lc (si_enum (sa_cons se_var sa_nil)) (sb_row (sbs_cons sb_name (sbs_cons sb_name sbs_nil))) (by decide) st_yes calm_yes (se_if (st_test (se_op so_in se_var se_var)) (se_un (fun _ => .int) se_var) se_var))) sa_nil)))
theorem sc_index_of_no : FnScope ["lot", "many", "place"] ["lot", "many"] (defScope st_index_of_no) := scope_ok rfl rfl rfl (by decide +kernel) rfl (by decide +kernel) (by decide +kernel)
theorem ok_index_of_no (F : Fun K "index_of_no" "index_of_no" st_index_of_no f fd) (T : Txt K A mg) : FnOk P w K mg base (L2.CX P w) 1 f fd ["lot", "many"] (spOf K (con A (m_index_of_no A))) := by
  refine def_okT F sc_index_of_no (fun gs M r h => run_con h) (fun cdv A0 outer s H E hr tk => ?_)
  refine ⟨_, (pss_one (ps_ret (pe_callB (cr_sumQ (K := K) rfl rfl) (by rfl) T.sum (by decide +kernel) (pa_cons (pe_lc (own := [("place", 2)]) (g := (gName 2)) (tt := tYes) rfl sc_index_of_no.nd (pi_anyQ (K := K) rfl (pv 0)) (blkOk_by (own := [("place", 2)]) (N := ["lot", "many", "place"]) (sc := defScope st_index_of_no) (by decide +kernel)) (fun _ _ _ _ _ => (pg_name (i := 2) sc_index_of_no.nd rfl (.inl rfl))) (fun _ _ _ _ _ => pts_nil) (fun _ _ _ _ _ => (pe_op op_shl pe_int (pe_op op_sub (pe_op op_sub (pv 1) pe_int) (pv 2))))) pa_nil)))), fun gs M r h => run_done (f := f_index_of_no A) ?_ h⟩
  exact (ss_ret (se_cb sc_sum (sa_cons (se_new (sn_lc (si_any se_var) sb_name (by decide) st_yes calm_yes (se_op (so_I fun _ _ => .int) se_int (se_op (so_I0 fun _ _ => .int) (se_op (so_I0 fun _ _ => .int) se_var se_int) se_var)))) sa_nil)))
theorem sc_index_of : FnScope ["saying", "place", "entry"] ["saying"] (defScope st_index_of) := scope_ok rfl rfl rfl (by decide +kernel) rfl (by decide +kernel) (by decide +kernel)
theorem ok_index_of (F : Fun K "index_of" "index_of" st_index_of f fd) (T : Txt K A mg) {a_index_of_no : Addr} {d_index_of_no : FuncData} (h_index_of_no : DefKS P w K mg base "index_of_no" 1 ["lot", "many"] (spOf K (con A (m_index_of_no A))) a_index_of_no d_index_of_no) : FnOk P w K mg base (L2.CX P w) 2 f fd ["saying"] (spOf K (con A (m_index_of A))) := by
  refine def_okT F sc_index_of (fun gs M r h => run_con h) (fun cdv A0 outer s H E hr tk => ?_)
  refine ⟨_, (pss_one (ps_ret (pe_callS h_index_of_no.ok (hr.mono (by decide)) (by rfl) h_index_of_no.gm h_index_of_no.kp h_index_of_no.bd (fun σ => passAt tk σ) (pa_cons (pe_lc (own := [("place", 1), ("entry", 2)]) (g := (gRow K 2 (gCons (gName 1) (gCons (gName 2) gNil)))) (tt := _) rfl sc_index_of.nd (pi_enumAQ (K := K) rfl (by rfl) T.enumerate (pa_cons (pv 0) pa_nil)) (blkOk_by (own := [("place", 1), ("entry", 2)]) (N := ["saying", "place", "entry"]) (sc := defScope st_index_of) (by decide +kernel)) (fun _ _ _ _ _ => (pg_rowQ (K := K) rfl rfl (pgs_cons (pg_name (i := 1) sc_index_of.nd rfl (.inl rfl)) (pgs_cons (pg_name (i := 2) sc_index_of.nd rfl (.inl rfl)) pgs_nil)))) (fun _ _ _ _ _ => (pts_one (pt_cmpR op_eq (pv 2) (pe_un un_neg pe_int) (nomark _)))) (fun _ _ _ _ _ => (pv 1))) (pa_cons (pe_callB (call_len_seqQ (K := K) rfl) (by rfl) T.len PySem.boot_len (pa_cons (pv 0) pa_nil)) pa_nil))))), fun gs M r h => run_done (f := f_index_of A) ?_ h⟩
  exact (ss_ret (se_call (fun _ _ _ _ h => h) (sa_cons (se_new (sn_lc (si_enum (sa_cons se_var sa_nil)) (sb_row (sbs_cons sb_name (sbs_cons sb_name sbs_nil))) (by decide) (st_calm (st_test (se_op so_eq se_var (se_un (fun _ => .int) se_int)))) calm_tCalm se_var)) (sa_cons (se_cb sc_len (sa_cons se_var sa_nil)) sa_nil))))
theorem sc_Spread_chance : FnScope ["self", "saying"] ["self", "saying"] (defScope st_Spread_chance) := scope_ok rfl rfl rfl (by decide +kernel) rfl (by decide +kernel) (by decide +kernel)
theorem ok_Spread_chance (F : Fun K "chance" "Spread.chance" st_Spread_chance f fd) (T : Txt K A mg) {a_index_of : Addr} {d_index_of : FuncData} (h_index_of : DefKS P w K mg base "index_of" 2 ["saying"] (spOf K (con A (m_index_of A))) a_index_of d_index_of) {a_saying_of : Addr} {d_saying_of : FuncData} (h_saying_of : DefKS P w K mg base "saying_of" 3 ["saying", "many"] (spOf K (con A (m_saying_of A))) a_saying_of d_saying_of) : FnOk P w K mg base (L2.CX P w) 4 f fd ["self", "saying"] (spOf K (con A (m_Spread_chance A))) := by
  refine def_okT F sc_Spread_chance (fun gs M r h => run_con h) (fun cdv A0 outer s H E hr tk => ?_)
  refine ⟨_, (pss_one (ps_ret (pe_ix (ix_seqQ (K := K) rfl) (pe_fld (pv 0) rfl) (pe_callS h_index_of.ok (hr.mono (by decide)) (by rfl) h_index_of.gm h_index_of.kp h_index_of.bd (fun σ => passAt tk σ) (pa_cons (pe_callS h_saying_of.ok (hr.mono (by decide)) (by rfl) h_saying_of.gm h_saying_of.kp h_saying_of.bd (fun σ => passAt tk σ) (pa_cons (pv 1) (pa_cons (pe_fld (pv 0) rfl) pa_nil))) pa_nil)) (fun _ _ => rfl)))), fun gs M r h => run_done (f := f_Spread_chance A) ?_ h⟩
  exact (ss_ret (se_ix (se_fld (one_cls T.c_Spread T.n_Spread_rows) se_var) (se_call (fun _ _ _ _ h => h) (sa_cons (se_call (fun _ _ _ _ h => h) (sa_cons se_var (sa_cons (se_fld (one_cls T.c_Spread T.n_Spread_many) se_var) sa_nil))) sa_nil))))
theorem sc_Spread_box : FnScope ["self", "u", "v", "saying", "said", "alike", "unlike"] ["self", "u", "v", "saying"] (defScope st_Spread_box) := scope_ok rfl rfl rfl (by decide +kernel) rfl (by decide +kernel) (by decide +kernel)
theorem ok_Spread_box (F : Fun K "box" "Spread.box" st_Spread_box f fd) (T : Txt K A mg) {a_is_place : Addr} {d_is_place : FuncData} (h_is_place : DefKS P w K mg base "is_place" 2 ["value", "many"] (spOf K (con A (m_is_place A))) a_is_place d_is_place) {a_saying_of : Addr} {d_saying_of : FuncData} (h_saying_of : DefKS P w K mg base "saying_of" 3 ["saying", "many"] (spOf K (con A (m_saying_of A))) a_saying_of d_saying_of) {a_changed : Addr} {d_changed : FuncData} (h_changed : DefKS P w K mg base "changed" 1 ["saying", "places"] (spOf K (con A (m_changed A))) a_changed d_changed) {a_times : Addr} {d_times : FuncData} (h_times : DefKS P w K mg base "times" 4 ["one", "other"] (spOf K (con A (m_times A))) a_times d_times) {a_Spread_chance : Addr} {d_Spread_chance : FuncData} (h_Spread_chance : MetKS P w K mg base (A "Spread") "chance" 4 ["self", "saying"] (spOf K (con A (m_Spread_chance A))) a_Spread_chance d_Spread_chance) {a_over : Addr} {d_over : FuncData} (h_over : DefKS P w K mg base "over" 4 ["one", "other"] (spOf K (con A (m_over A))) a_over d_over) : FnOk P w K mg base (L2.CX P w) 5 f fd ["self", "u", "v", "saying"] (spOf K (con A (m_Spread_box A))) := by
  refine def_okT F sc_Spread_box (fun gs M r h => run_con h) (fun cdv A0 outer s H E hr tk => ?_)
  refine ⟨_, (pss_cons (ps_if (PW.pt (pw_or (pt_not (pt_val (pe_callS h_is_place.ok (hr.mono (by decide)) (by rfl) h_is_place.gm h_is_place.kp h_is_place.bd (fun σ => passAt tk σ) (pa_cons (pv 1) (pa_cons (pe_fld (pv 0) rfl) pa_nil))))) (pw_or (pt_not (pt_val (pe_callS h_is_place.ok (hr.mono (by decide)) (by rfl) h_is_place.gm h_is_place.kp h_is_place.bd (fun σ => passAt tk σ) (pa_cons (pv 2) (pa_cons (pe_fld (pv 0) rfl) pa_nil))))) (pw_or1 (pt_cmpR (op_eqDQ (K := K) rfl hr.units) (pv 1) (pv 2) (nomark _)))))) (pss_one (ps_raise rfl tk (pmk_own0 T.x_BadPlace (by rfl)))) pss_nil)
      (pss_cons (ps_set (i := 4) sc_Spread_box.nd rfl (.inl rfl) (pe_callS h_saying_of.ok (hr.mono (by decide)) (by rfl) h_saying_of.gm h_saying_of.kp h_saying_of.bd (fun σ => passAt tk σ) (pa_cons (pv 3) (pa_cons (pe_fld (pv 0) rfl) pa_nil))))
      (pss_cons (ps_if (pt_cmpR (op_neDQ (K := K) rfl hr.units) (pe_ix (ix_seqQ (K := K) rfl) (pv 4) (pv 1) (fun _ _ => rfl)) (pe_ix (ix_seqQ (K := K) rfl) (pv 4) (pv 2) (fun _ _ => rfl)) (nomark _)) (pss_one (ps_set (i := 4) sc_Spread_box.nd rfl (.inl rfl) (pe_callS h_changed.ok (hr.mono (by decide)) (by rfl) h_changed.gm h_changed.kp h_changed.bd (fun σ => passAt tk σ) (pa_cons (pv 4) (pa_cons (pe_tup (pa_cons (pv 2) pa_nil)) pa_nil))))) pss_nil)
      (pss_cons (ps_set (i := 5) sc_Spread_box.nd rfl (.inl rfl) (pe_callS h_times.ok (hr.mono (by decide)) (by rfl) h_times.gm h_times.kp h_times.bd (fun σ => passAt tk σ) (pa_cons (pe_meth (pv 0) T.c_Spread h_Spread_chance.me h_Spread_chance.ok (hr.mono (by decide)) h_Spread_chance.bd .nil passL (pa_cons (pv 4) pa_nil)) (pa_cons (pe_meth (pv 0) T.c_Spread h_Spread_chance.me h_Spread_chance.ok (hr.mono (by decide)) h_Spread_chance.bd .nil passL (pa_cons (pe_callS h_changed.ok (hr.mono (by decide)) (by rfl) h_changed.gm h_changed.kp h_changed.bd (fun σ => passAt tk σ) (pa_cons (pv 4) (pa_cons (pe_tup (pa_cons (pv 1) (pa_cons (pv 2) pa_nil))) pa_nil))) pa_nil)) pa_nil))))
      (pss_cons (ps_set (i := 6) sc_Spread_box.nd rfl (.inl rfl) (pe_callS h_times.ok (hr.mono (by decide)) (by rfl) h_times.gm h_times.kp h_times.bd (fun σ => passAt tk σ) (pa_cons (pe_meth (pv 0) T.c_Spread h_Spread_chance.me h_Spread_chance.ok (hr.mono (by decide)) h_Spread_chance.bd .nil passL (pa_cons (pe_callS h_changed.ok (hr.mono (by decide)) (by rfl) h_changed.gm h_changed.kp h_changed.bd (fun σ => passAt tk σ) (pa_cons (pv 4) (pa_cons (pe_tup (pa_cons (pv 1) pa_nil)) pa_nil))) pa_nil)) (pa_cons (pe_meth (pv 0) T.c_Spread h_Spread_chance.me h_Spread_chance.ok (hr.mono (by decide)) h_Spread_chance.bd .nil passL (pa_cons (pe_callS h_changed.ok (hr.mono (by decide)) (by rfl) h_changed.gm h_changed.kp h_changed.bd (fun σ => passAt tk σ) (pa_cons (pv 4) (pa_cons (pe_tup (pa_cons (pv 2) pa_nil)) pa_nil))) pa_nil)) pa_nil))))
      (pss_one (ps_ret (pe_callS h_over.ok (hr.mono (by decide)) (by rfl) h_over.gm h_over.kp h_over.bd (fun σ => passAt tk σ) (pa_cons (pv 5) (pa_cons (pv 6) pa_nil)))))))))), fun gs M r h => run_done (f := f_Spread_box A) ?_ h⟩
  exact (ss_seq (ss_if (st_or (st_not (st_B (se_call (fun _ _ _ _ h => h) (sa_cons se_var (sa_cons (se_fld (one_cls T.c_Spread T.n_Spread_many) se_var) sa_nil))))) (st_or (st_not (st_B (se_call (fun _ _ _ _ h => h) (sa_cons se_var (sa_cons (se_fld (one_cls T.c_Spread T.n_Spread_many) se_var) sa_nil))))) (st_test (se_op so_eqD se_var se_var)))) ss_raise ss_next)
  (ss_seq (ss_asg (se_call (fun _ _ _ _ h => h) (sa_cons se_var (sa_cons (se_fld (one_cls T.c_Spread T.n_Spread_many) se_var) sa_nil))))
  (ss_seq (ss_if (st_test (se_op so_neD (se_ix se_var se_var) (se_ix se_var se_var))) (ss_asg (se_call (fun _ _ _ _ h => h) (sa_cons se_var (sa_cons (se_tup (sa_cons se_var sa_nil)) sa_nil)))) ss_next)
  (ss_seq (ss_asg (se_call (fun _ _ _ _ h => h) (sa_cons (se_meth se_var (sa_cons se_var sa_nil)) (sa_cons (se_meth se_var (sa_cons (se_call (fun _ _ _ _ h => False.elim h) (sa_cons se_var (sa_cons (se_tup (sa_cons se_var (sa_cons se_var sa_nil))) sa_nil))) sa_nil)) sa_nil))))
  (ss_seq (ss_asg (se_call (fun _ _ _ _ h => h) (sa_cons (se_meth se_var (sa_cons (se_call (fun _ _ _ _ h => False.elim h) (sa_cons se_var (sa_cons (se_tup (sa_cons se_var sa_nil)) sa_nil))) sa_nil)) (sa_cons (se_meth se_var (sa_cons (se_call (fun _ _ _ _ h => False.elim h) (sa_cons se_var (sa_cons (se_tup (sa_cons se_var sa_nil)) sa_nil))) sa_nil)) sa_nil))))
  (ss_ret (se_call (fun _ _ _ _ h => h) (sa_cons se_var (sa_cons se_var sa_nil)))))))))
end
end My

set_option Elab.async false
set_option linter.all false
set_option maxRecDepth 100000
set_option maxHeartbeats 4000000
set_option exponentiation.threshold 100000
namespace My
open PySem L2 Lw
section
variable {P : Program} {w : World} {K : PySem.W.Frag} {A : Str → Addr} {mg : Str → Option Value} {base : Heap} {f : Addr} {fd : FuncData}
theorem sc_sayings : FnScope ["many", "places", "found", "_", "saying", "entry"] ["many"] (defScope st_sayings) := scope_ok rfl rfl rfl (by decide +kernel) rfl (by decide +kernel) (by decide +kernel)
theorem ok_sayings (F : Fun K "sayings" "sayings" st_sayings f fd) (T : Txt K A mg) {a_count_of : Addr} {d_count_of : FuncData} (h_count_of : DefKS P w K mg base "count_of" 2 ["many", "most"] (spOf K (con A (m_count_of A))) a_count_of d_count_of) : FnOk P w K mg base (L2.CX P w) 3 f fd ["many"] (spOf K (con A (m_sayings A))) := by
  refine def_okT F sc_sayings (fun gs M r h => run_con h) (fun cdv A0 outer s H E hr tk => ?_)
  refine ⟨_, (pss_cons (ps_set (i := 1) sc_sayings.nd rfl (.inl rfl) (pe_callS h_count_of.ok (hr.mono (by decide)) (by rfl) h_count_of.gm h_count_of.kp h_count_of.bd (fun σ => passAt tk σ) (pa_cons (pv 0) (pa_cons (pe_glob (v := .int 10) (by rfl) T.k_MOST_PLACES.choose_spec ⟨_, rfl⟩) pa_nil))))
      (pss_cons (ps_set (i := 2) sc_sayings.nd rfl (.inl rfl) (pe_lst (pa_cons (pe_tup pa_nil) pa_nil)))
      (pss_cons (ps_for (passes_of rfl) rfl (pi_range1 (by rfl) T.range (pa_cons (pv 1) pa_nil)) (pg_name (i := 3) sc_sayings.nd rfl (.inl rfl)) (pss_one (ps_setLc2 (i := 2) (own := [("saying", 4), ("entry", 5)]) (vs1 := [5]) (g := (gName 4)) (g1 := (gName 5)) (tt := tYes) (tt1 := tYes) rfl sc_sayings.nd rfl rfl (sw_true rfl rfl rfl (by decide +kernel)) (pi_anyQ (K := K) rfl (pv 2)) (blkOk_by (own := [("saying", 4), ("entry", 5)]) (N := ["many", "places", "found", "_", "saying", "entry"]) (sc := defScope st_sayings) (by decide +kernel)) (by decide) (fun _ _ _ _ _ => (pg_name (i := 4) sc_sayings.nd rfl (.inl rfl))) (fun _ _ _ _ _ => pts_nil) (fun _ _ _ _ _ => (pi_anyQ (K := K) rfl (pe_tup (pa_cons pe_int (pa_cons (pe_un un_neg pe_int) pa_nil))))) (fun _ _ _ _ _ => (pg_name (i := 5) sc_sayings.nd rfl (.inl rfl))) (fun _ _ _ _ _ => pts_nil) (fun _ _ _ _ _ => (pe_op (op_catAQ (K := K) rfl) (pv 4) (pe_tup (pa_cons (pv 5) pa_nil)))))))
      (pss_one (ps_ret (pv 2)))))), fun gs M r h => run_done (f := f_sayings A) ?_ h⟩
  exact (ss_seq (ss_asg (se_call (fun _ _ _ _ h => h) (sa_cons se_var (sa_cons se_int sa_nil))))
  (ss_seq (ss_asg (se_new (sn_lst (sa_cons (se_tup sa_nil) sa_nil))))
  (ss_seq (ss_for (si_rng1 (sa_cons se_var sa_nil)) sb_name (ss_asg (se_new (sn_lc2 (si_any se_var) sb_name (by decide) sb_name (by decide) st_yes st_yes (si_any (se_tup (sa_cons se_int (sa_cons (se_un (fun _ => .int) se_int) sa_nil)))) (se_op so_catT se_var (se_tup (sa_cons se_var sa_nil)))))))
  (ss_ret se_var))))
theorem sc_unlike_saying : FnScope ["spread", "u", "v", "first", "said", "_"] ["spread", "u", "v"] (defScope st_unlike_saying) := scope_ok rfl rfl rfl (by decide +kernel) rfl (by decide +kernel) (by decide +kernel)
theorem ok_unlike_saying (F : Fun K "unlike_saying" "unlike_saying" st_unlike_saying f fd) (T : Txt K A mg) {a_Spread_box : Addr} {d_Spread_box : FuncData} (h_Spread_box : MetKS P w K mg base (A "Spread") "box" 5 ["self", "u", "v", "saying"] (spOf K (con A (m_Spread_box A))) a_Spread_box d_Spread_box) {a_sayings : Addr} {d_sayings : FuncData} (h_sayings : DefKS P w K mg base "sayings" 3 ["many"] (spOf K (con A (m_sayings A))) a_sayings d_sayings) : FnOk P w K mg base (L2.CX P w) 6 f fd ["spread", "u", "v"] (spOf K (con A (m_unlike_saying A))) := by
  refine def_okT F sc_unlike_saying (fun gs M r h => run_con h) (fun cdv A0 outer s H E hr tk => ?_)
  refine ⟨_, (pss_cons (ps_set (i := 3) sc_unlike_saying.nd rfl (.inl rfl) (pe_meth (pv 0) T.c_Spread h_Spread_box.me h_Spread_box.ok (hr.mono (by decide)) h_Spread_box.bd .nil passL (pa_cons (pv 1) (pa_cons (pv 2) (pa_cons (pe_lc (own := [("_", 5)]) (g := (gName 5)) (tt := tYes) rfl sc_unlike_saying.nd (pi_range1 (by rfl) T.range (pa_cons (pe_fld (pv 0) rfl) pa_nil)) (blkOk_by (own := [("_", 5)]) (N := ["spread", "u", "v", "first", "said", "_"]) (sc := defScope st_unlike_saying) (by decide +kernel)) (fun _ _ _ _ _ => (pg_name (i := 5) sc_unlike_saying.nd rfl (.inl rfl))) (fun _ _ _ _ _ => pts_nil) (fun _ _ _ _ _ => pe_int)) pa_nil)))))
      (pss_cons (ps_for (passes_of rfl) rfl (pi_anyQ (K := K) rfl (pe_callS h_sayings.ok (hr.mono (by decide)) (by rfl) h_sayings.gm h_sayings.kp h_sayings.bd (fun σ => passAt tk σ) (pa_cons (pe_fld (pv 0) rfl) pa_nil))) (pg_name (i := 4) sc_unlike_saying.nd rfl (.inl rfl)) (pss_one (ps_if (PW.pt (pw_and (pt_cmpR op_eq (pe_ix (ix_seqQ (K := K) rfl) (pv 4) (pv 1) (fun _ _ => rfl)) pe_int (nomark _)) (pw_and (pt_cmpR op_eq (pe_ix (ix_seqQ (K := K) rfl) (pv 4) (pv 2) (fun _ _ => rfl)) pe_int (nomark _)) (pw_and1 (pt_cmpR (op_neDQ (K := K) rfl hr.units) (pe_meth (pv 0) T.c_Spread h_Spread_box.me h_Spread_box.ok (hr.mono (by decide)) h_Spread_box.bd .nil passL (pa_cons (pv 1) (pa_cons (pv 2) (pa_cons (pv 4) pa_nil)))) (pv 3) (nomark _)))))) (pss_one (ps_ret (pv 4))) pss_nil)))
      (pss_one (ps_ret pe_non)))), fun gs M r h => run_done (f := f_unlike_saying A) ?_ h⟩
  exact (ss_seq (ss_asg (se_meth se_var (sa_cons se_var (sa_cons se_var (sa_cons (se_new (sn_lc (si_rng1 (sa_cons (se_fld (two_cls T.c_Web T.n_Web_many T.c_Spread T.n_Spread_many) se_var) sa_nil)) sb_name (by decide) st_yes calm_yes se_int)) sa_nil)))))
  (ss_seq (ss_for (si_any (se_call (fun _ _ _ _ h => h) (sa_cons (se_fld (two_cls T.c_Web T.n_Web_many T.c_Spread T.n_Spread_many) se_var) sa_nil))) sb_name (ss_if (st_and (st_test (se_op so_eq (se_ix se_var se_var) se_int)) (st_and (st_test (se_op so_eq (se_ix se_var se_var) se_int)) (st_test (se_op so_neD (se_meth se_var (sa_cons se_var (sa_cons se_var (sa_cons se_var sa_nil)))) se_var)))) (ss_ret se_var) ss_next))
  (ss_ret se_non)))
theorem sc_unlike_boxes : FnScope ["spread", "u", "v", "other", "_"] ["spread"] (defScope st_unlike_boxes) := scope_ok rfl rfl rfl (by decide +kernel) rfl (by decide +kernel) (by decide +kernel)
theorem ok_unlike_boxes (F : Fun K "unlike_boxes" "unlike_boxes" st_unlike_boxes f fd) (T : Txt K A mg) {a_pairs_of : Addr} {d_pairs_of : FuncData} (h_pairs_of : DefKS P w K mg base "pairs_of" 1 ["many"] (spOf K (con A (m_pairs_of A))) a_pairs_of d_pairs_of) {a_unlike_saying : Addr} {d_unlike_saying : FuncData} (h_unlike_saying : DefKS P w K mg base "unlike_saying" 6 ["spread", "u", "v"] (spOf K (con A (m_unlike_saying A))) a_unlike_saying d_unlike_saying) : FnOk P w K mg base (L2.CX P w) 7 f fd ["spread"] (spOf K (con A (m_unlike_boxes A))) := by
  refine def_okT F sc_unlike_boxes (fun gs M r h => run_con h) (fun cdv A0 outer s H E hr tk => ?_)
  refine ⟨_, (pss_cons (ps_for (passes_of rfl) rfl (pi_anyQ (K := K) rfl (pe_callS h_pairs_of.ok (hr.mono (by decide)) (by rfl) h_pairs_of.gm h_pairs_of.kp h_pairs_of.bd (fun σ => passAt tk σ) (pa_cons (pe_fld (pv 0) rfl) pa_nil))) (pg_rowQ (K := K) rfl rfl (pgs_cons (pg_name (i := 1) sc_unlike_boxes.nd rfl (.inl rfl)) (pgs_cons (pg_name (i := 2) sc_unlike_boxes.nd rfl (.inl rfl)) pgs_nil))) (pss_cons (ps_set (i := 3) sc_unlike_boxes.nd rfl (.inl rfl) (pe_callS h_unlike_saying.ok (hr.mono (by decide)) (by rfl) h_unlike_saying.gm h_unlike_saying.kp h_unlike_saying.bd (fun σ => passAt tk σ) (pa_cons (pv 0) (pa_cons (pv 1) (pa_cons (pv 2) pa_nil)))))
      (pss_one (ps_if (pt_cmpR op_notN (pv 3) pe_non (nomark _)) (pss_one (ps_ret (pe_tup (pa_cons (pv 1) (pa_cons (pv 2) (pa_cons (pe_callTy (call_tuple_ofQ (K := K) rfl) (by rfl) T.tuple (by decide +kernel) (pa_cons (pe_lc (own := [("_", 4)]) (g := (gName 4)) (tt := tYes) rfl sc_unlike_boxes.nd (pi_range1 (by rfl) T.range (pa_cons (pe_fld (pv 0) rfl) pa_nil)) (blkOk_by (own := [("_", 4)]) (N := ["spread", "u", "v", "other", "_"]) (sc := defScope st_unlike_boxes) (by decide +kernel)) (fun _ _ _ _ _ => (pg_name (i := 4) sc_unlike_boxes.nd rfl (.inl rfl))) (fun _ _ _ _ _ => pts_nil) (fun _ _ _ _ _ => pe_int)) pa_nil)) (pa_cons (pv 3) pa_nil))))))) pss_nil))))
      (pss_one (ps_ret pe_non))), fun gs M r h => run_done (f := f_unlike_boxes A) ?_ h⟩
  exact (ss_seq (ss_for (si_any (se_call (fun _ _ _ _ h => h) (sa_cons (se_fld (two_cls T.c_Web T.n_Web_many T.c_Spread T.n_Spread_many) se_var) sa_nil))) (sb_row (sbs_cons sb_name (sbs_cons sb_name sbs_nil))) (ss_seq (ss_asg (se_call (fun _ _ _ _ h => h) (sa_cons se_var (sa_cons se_var (sa_cons se_var sa_nil)))))
  (ss_if (st_test (se_op so_notN se_var se_non)) (ss_ret (se_tup (sa_cons se_var (sa_cons se_var (sa_cons (se_cb sc_tup (sa_cons (se_new (sn_lc (si_rng1 (sa_cons (se_fld (two_cls T.c_Web T.n_Web_many T.c_Spread T.n_Spread_many) se_var) sa_nil)) sb_name (by decide) st_yes calm_yes se_int)) sa_nil)) (sa_cons se_var sa_nil)))))) ss_next)))
  (ss_ret se_non))
theorem sc_squares : FnScope ["spread", "found", "yes", "_", "u", "v"] ["spread"] (defScope st_squares) := scope_ok rfl rfl rfl (by decide +kernel) rfl (by decide +kernel) (by decide +kernel)
theorem ok_squares (F : Fun K "squares" "squares" st_squares f fd) (T : Txt K A mg) {a_unlike_boxes : Addr} {d_unlike_boxes : FuncData} (h_unlike_boxes : DefKS P w K mg base "unlike_boxes" 7 ["spread"] (spOf K (con A (m_unlike_boxes A))) a_unlike_boxes d_unlike_boxes) {a_pairs_of : Addr} {d_pairs_of : FuncData} (h_pairs_of : DefKS P w K mg base "pairs_of" 1 ["many"] (spOf K (con A (m_pairs_of A))) a_pairs_of d_pairs_of) {a_Spread_box : Addr} {d_Spread_box : FuncData} (h_Spread_box : MetKS P w K mg base (A "Spread") "box" 5 ["self", "u", "v", "saying"] (spOf K (con A (m_Spread_box A))) a_Spread_box d_Spread_box) : FnOk P w K mg base (L2.CX P w) 8 f fd ["spread"] (spOf K (con A (m_squares A))) := by
  refine def_okT F sc_squares (fun gs M r h => run_con h) (fun cdv A0 outer s H E hr tk => ?_)
  refine ⟨_, (pss_cons (ps_set (i := 1) sc_squares.nd rfl (.inl rfl) (pe_callS h_unlike_boxes.ok (hr.mono (by decide)) (by rfl) h_unlike_boxes.gm h_unlike_boxes.kp h_unlike_boxes.bd (fun σ => passAt tk σ) (pa_cons (pv 0) pa_nil)))
      (pss_cons (ps_if (pt_cmpR op_notN (pv 1) pe_non (nomark _)) (pss_one ps_dead) pss_nil)
      (pss_cons (ps_set (i := 2) sc_squares.nd rfl (.inr rfl) (pe_lc (own := [("_", 3)]) (g := (gName 3)) (tt := tYes) rfl sc_squares.nd (pi_range1 (by rfl) T.range (pa_cons (pe_fld (pv 0) rfl) pa_nil)) (blkOk_by (own := [("_", 3)]) (N := ["spread", "found", "yes", "_", "u", "v"]) (sc := defScope st_squares) (by decide +kernel)) (fun _ _ _ _ _ => (pg_name (i := 3) sc_squares.nd rfl (.inl rfl))) (fun _ _ _ _ _ => pts_nil) (fun _ _ _ _ _ => pe_int)))
      (pss_one (ps_ret (pe_callTy (call_tuple_ofQ (K := K) rfl) (by rfl) T.tuple (by decide +kernel) (pa_cons (pe_lc (own := [("u", 4), ("v", 5)]) (g := (gRow K 2 (gCons (gName 4) (gCons (gName 5) gNil)))) (tt := tYes) rfl sc_squares.nd (pi_anyQ (K := K) rfl (pe_callS h_pairs_of.ok (hr.mono (by decide)) (by rfl) h_pairs_of.gm h_pairs_of.kp h_pairs_of.bd (fun σ => passAt tk σ) (pa_cons (pe_fld (pv 0) rfl) pa_nil))) (blkOk_by (own := [("u", 4), ("v", 5)]) (N := ["spread", "found", "yes", "_", "u", "v"]) (sc := defScope st_squares) (by decide +kernel)) (fun _ _ _ _ _ => (pg_rowQ (K := K) rfl rfl (pgs_cons (pg_name (i := 4) sc_squares.nd rfl (.inl rfl)) (pgs_cons (pg_name (i := 5) sc_squares.nd rfl (.inl rfl)) pgs_nil)))) (fun _ _ _ _ _ => pts_nil) (fun _ _ _ _ _ => (pe_tup (pa_cons (pe_tup (pa_cons (pv 4) (pa_cons (pv 5) pa_nil))) (pa_cons (pe_meth (pv 0) T.c_Spread h_Spread_box.me h_Spread_box.ok (hr.mono (by decide)) h_Spread_box.bd .nil passL (pa_cons (pv 4) (pa_cons (pv 5) (pa_cons (pv 2) pa_nil)))) pa_nil))))) pa_nil))))))), fun gs M r h => run_done (f := f_squares A) ?_ h⟩
  exact (ss_seq (ss_asg (se_call (fun _ _ _ _ h => h) (sa_cons se_var sa_nil)))
  (ss_seq (ss_if (st_test (se_op so_notN se_var se_non)) ss_no ss_next)
  (ss_seq (ss_asg (se_new (sn_lc (si_rng1 (sa_cons (se_fld (two_cls T.c_Web T.n_Web_many T.c_Spread T.n_Spread_many) se_var) sa_nil)) sb_name (by decide) st_yes calm_yes se_int)))
  (ss_ret (se_cb sc_tup (sa_cons (se_new (sn_lc (si_any (se_call (fun _ _ _ _ h => h) (sa_cons (se_fld (two_cls T.c_Web T.n_Web_many T.c_Spread T.n_Spread_many) se_var) sa_nil))) (sb_row (sbs_cons sb_name (sbs_cons sb_name sbs_nil))) (by decide) st_yes calm_yes (se_tup (sa_cons (se_tup (sa_cons se_var (sa_cons se_var sa_nil))) (sa_cons (se_meth se_var (sa_cons se_var (sa_cons se_var (sa_cons se_var sa_nil)))) sa_nil))))) sa_nil))))))
theorem sc_signs_of : FnScope ["lot", "many", "found", "place", "turn", "old", "sign"] ["lot", "many"] (defScope st_signs_of) := scope_ok rfl rfl rfl (by decide +kernel) rfl (by decide +kernel) (by decide +kernel)
theorem ok_signs_of (F : Fun K "signs_of" "signs_of" st_signs_of f fd) (T : Txt K A mg) : FnOk P w K mg base (L2.CX P w) 1 f fd ["lot", "many"] (spOf K (con A (m_signs_of A))) := by
  refine def_okT F sc_signs_of (fun gs M r h => run_con h) (fun cdv A0 outer s H E hr tk => ?_)
  refine ⟨_, (pss_cons (ps_set (i := 2) sc_signs_of.nd rfl (.inl rfl) (pe_lst (pa_cons pe_int pa_nil)))
      (pss_cons (ps_for (passes_of rfl) rfl (pi_range1 (by rfl) T.range (pa_cons (pv 1) pa_nil)) (pg_name (i := 3) sc_signs_of.nd rfl (.inl rfl)) (pss_cons (ps_set (i := 4) sc_signs_of.nd rfl (.inr rfl) (pe_ifExp (pt_cmpR (op_in_seqQ (K := K) rfl) (pv 3) (pv 0) rfl) (pe_un un_neg pe_int) pe_int))
      (pss_one (ps_setLc2 (i := 2) (own := [("old", 5), ("sign", 6)]) (vs1 := [6]) (g := (gName 5)) (g1 := (gName 6)) (tt := tYes) (tt1 := tYes) rfl sc_signs_of.nd rfl rfl (sw_true rfl rfl rfl (by decide +kernel)) (pi_anyQ (K := K) rfl (pv 2)) (blkOk_by (own := [("old", 5), ("sign", 6)]) (N := ["lot", "many", "found", "place", "turn", "old", "sign"]) (sc := defScope st_signs_of) (by decide +kernel)) (by decide) (fun _ _ _ _ _ => (pg_name (i := 5) sc_signs_of.nd rfl (.inl rfl))) (fun _ _ _ _ _ => pts_nil) (fun _ _ _ _ _ => (pi_anyQ (K := K) rfl (pe_tup (pa_cons (pv 5) (pa_cons (pe_op op_mulW (pv 4) (pv 5)) pa_nil))))) (fun _ _ _ _ _ => (pg_name (i := 6) sc_signs_of.nd rfl (.inl rfl))) (fun _ _ _ _ _ => pts_nil) (fun _ _ _ _ _ => (pv 6))))))
      (pss_one (ps_ret (pv 2))))), fun gs M r h => run_done (f := f_signs_of A) ?_ h⟩
  exact (ss_seq (ss_asg (se_new (sn_lst (sa_cons se_int sa_nil))))
  (ss_seq (ss_for (si_rng1 (sa_cons se_var sa_nil)) sb_name (ss_seq (ss_asg (se_if (st_test (se_op so_in se_var se_var)) (se_un (fun _ => .int) se_int) se_int))
  (ss_asg (se_new (sn_lc2 (si_any se_var) sb_name (by decide) sb_name (by decide) st_yes st_yes (si_any (se_tup (sa_cons se_var (sa_cons (se_op (so_I fun _ _ => .int) se_var se_var) sa_nil)))) se_var)))))
  (ss_ret se_var)))
theorem sc_distinct_numbers : FnScope ["row", "found", "entry"] ["row"] (defScope st_distinct_numbers) := scope_ok rfl rfl rfl (by decide +kernel) rfl (by decide +kernel) (by decide +kernel)
theorem ok_distinct_numbers (F : Fun K "distinct_numbers" "distinct_numbers" st_distinct_numbers f fd) (T : Txt K A mg) {a_is_row : Addr} {d_is_row : FuncData} (h_is_row : DefKS P w K mg base "is_row" 1 ["value"] (spOf K (con A (m_is_row A))) a_is_row d_is_row) {a_is_integer : Addr} {d_is_integer : FuncData} (h_is_integer : DefKS P w K mg base "is_integer" 1 ["value"] (spOf K (con A (m_is_integer A))) a_is_integer d_is_integer) : FnOk P w K mg base (L2.CX P w) 2 f fd ["row"] (spOf K (con A (m_distinct_numbers A))) := by
  refine def_okT F sc_distinct_numbers (fun gs M r h => run_con h) (fun cdv A0 outer s H E hr tk => ?_)
  refine ⟨_, (pss_cons (ps_if (pt_not (pt_val (pe_callS h_is_row.ok (hr.mono (by decide)) (by rfl) h_is_row.gm h_is_row.kp h_is_row.bd (fun σ => passAt tk σ) (pa_cons (pv 0) pa_nil)))) (pss_one (ps_ret pe_non)) pss_nil)
      (pss_cons (ps_if (pt_not (pt_val (pe_callB (cr_allQ (K := K) rfl rfl) (by rfl) T.all (by decide +kernel) (pa_cons (pe_lc (own := [("entry", 2)]) (g := (gName 2)) (tt := tYes) rfl sc_distinct_numbers.nd (pi_anyQ (K := K) rfl (pv 0)) (blkOk_by (own := [("entry", 2)]) (N := ["row", "found", "entry"]) (sc := defScope st_distinct_numbers) (by decide +kernel)) (fun _ _ _ _ _ => (pg_name (i := 2) sc_distinct_numbers.nd rfl (.inl rfl))) (fun _ _ _ _ _ => pts_nil) (fun _ _ _ _ _ => (pe_and (pe_callS h_is_integer.ok (hr.mono (by decide)) (by rfl) h_is_integer.gm h_is_integer.kp h_is_integer.bd (fun σ => passAt takes0 σ) (pa_cons (pv 2) pa_nil)) (pe_one (pe_cmpR op_ge (pv 2) pe_int (nomark _)))))) pa_nil)))) (pss_one (ps_ret pe_non)) pss_nil)
      (pss_cons (ps_set (i := 1) sc_distinct_numbers.nd rfl (.inl rfl) (pe_callTy (call_tuple_ofQ (K := K) rfl) (by rfl) T.tuple (by decide +kernel) (pa_cons (pe_callB (cr_sortedIQ (K := K) rfl) (by rfl) T.sorted (by decide +kernel) (pa_cons (pe_lc (own := [("entry", 2)]) (g := (gName 2)) (tt := tYes) rfl sc_distinct_numbers.nd (pi_anyQ (K := K) rfl (pv 0)) (blkOk_by (own := [("entry", 2)]) (N := ["row", "found", "entry"]) (sc := defScope st_distinct_numbers) (by decide +kernel)) (fun _ _ _ _ _ => (pg_name (i := 2) sc_distinct_numbers.nd rfl (.inl rfl))) (fun _ _ _ _ _ => pts_nil) (fun _ _ _ _ _ => (pe_callTy call_int1 (by rfl) T.int (by decide +kernel) (pa_cons (pv 2) pa_nil)))) pa_nil)) pa_nil)))
      (pss_cons (ps_if (pt_cmpR op_lt (pe_lenSetT (by rfl) T.len (by rfl) T.set (pv 1)) (pe_callB (call_len_seqQ (K := K) rfl) (by rfl) T.len PySem.boot_len (pa_cons (pv 1) pa_nil)) (nomark _)) (pss_one (ps_ret pe_non)) pss_nil)
      (pss_one (ps_ret (pv 1))))))), fun gs M r h => run_done (f := f_distinct_numbers A) ?_ h⟩
  exact (ss_seq (ss_if (st_not (st_B (se_call (fun _ _ _ _ h => h) (sa_cons se_var sa_nil)))) (ss_ret se_non) ss_next)
  (ss_seq (ss_if (st_not (st_B (se_cb sc_all (sa_cons (se_new (sn_lc (si_any se_var) sb_name (by decide) st_yes calm_yes (se_and (se_call (fun _ _ _ _ h => False.elim h) (sa_cons se_var sa_nil)) (se_op (so_I0 fun _ _ => .bl) se_var se_int)))) sa_nil)))) (ss_ret se_non) ss_next)
  (ss_seq (ss_asg (se_cb sc_tup (sa_cons (se_new (sn_cb sc_sorted (sa_cons (se_new (sn_lc (si_any se_var) sb_name (by decide) st_yes calm_yes (se_cb sc_int (sa_cons se_var sa_nil)))) sa_nil))) sa_nil)))
  (ss_seq (ss_if (st_test (se_op (so_I0 fun _ _ => .bl) (se_lenSet se_var) (se_cb sc_len (sa_cons se_var sa_nil)))) (ss_ret se_non) ss_next)
  (ss_ret se_var)))))
end
end My

set_option Elab.async false
set_option linter.all false
set_option maxRecDepth 100000
set_option maxHeartbeats 4000000
set_option exponentiation.threshold 100000
namespace My
open PySem L2 Lw
section
variable {P : Program} {w : World} {K : PySem.W.Frag} {A : Str → Addr} {mg : Str → Option Value} {base : Heap} {f : Addr} {fd : FuncData}
theorem sc_joined : FnScope ["lot", "other", "one", "two", "entry"] ["lot", "other"] (defScope st_joined) := scope_ok rfl rfl rfl (by decide +kernel) rfl (by decide +kernel) (by decide +kernel)
theorem ok_joined (F : Fun K "joined" "joined" st_joined f fd) (T : Txt K A mg) {a_distinct_numbers : Addr} {d_distinct_numbers : FuncData} (h_distinct_numbers : DefKS P w K mg base "distinct_numbers" 2 ["row"] (spOf K (con A (m_distinct_numbers A))) a_distinct_numbers d_distinct_numbers) : FnOk P w K mg base (L2.CX P w) 3 f fd ["lot", "other"] (spOf K (con A (m_joined A))) := by
  refine def_okT F sc_joined (fun gs M r h => run_con h) (fun cdv A0 outer s H E hr tk => ?_)
  refine ⟨_, (pss_cons (ps_set (i := 2) sc_joined.nd rfl (.inr rfl) (pe_callS h_distinct_numbers.ok (hr.mono (by decide)) (by rfl) h_distinct_numbers.gm h_distinct_numbers.kp h_distinct_numbers.bd (fun σ => passAt tk σ) (pa_cons (pv 0) pa_nil)))
      (pss_cons (ps_if (pt_cmpR op_isN (pv 2) pe_non (nomark _)) (pss_one (ps_raise rfl tk (pmk_own0 T.x_BadLot (by rfl)))) pss_nil)
      (pss_cons (ps_set (i := 3) sc_joined.nd rfl (.inr rfl) (pe_callS h_distinct_numbers.ok (hr.mono (by decide)) (by rfl) h_distinct_numbers.gm h_distinct_numbers.kp h_distinct_numbers.bd (fun σ => passAt tk σ) (pa_cons (pv 1) pa_nil)))
      (pss_cons (ps_if (pt_cmpR op_isN (pv 3) pe_non (nomark _)) (pss_one (ps_raise rfl tk (pmk_own0 T.x_BadLot (by rfl)))) pss_nil)
      (pss_one (ps_ret (pe_callTy (call_tuple_ofQ (K := K) rfl) (by rfl) T.tuple (by decide +kernel) (pa_cons (pe_callB (cr_sortedIQ (K := K) rfl) (by rfl) T.sorted (by decide +kernel) (pa_cons (pe_op op_cat (pe_lc (own := [("entry", 4)]) (g := (gName 4)) (tt := _) rfl sc_joined.nd (pi_anyQ (K := K) rfl (pv 2)) (blkOk_by (own := [("entry", 4)]) (N := ["lot", "other", "one", "two", "entry"]) (sc := defScope st_joined) (by decide +kernel)) (fun _ _ _ _ _ => (pg_name (i := 4) sc_joined.nd rfl (.inl rfl))) (fun _ _ _ _ _ => (pts_one (pt_cmpR (op_notIn_seqQ (K := K) rfl) (pv 4) (pv 3) rfl))) (fun _ _ _ _ _ => (pv 4))) (pe_lc (own := [("entry", 4)]) (g := (gName 4)) (tt := _) rfl sc_joined.nd (pi_anyQ (K := K) rfl (pv 3)) (blkOk_by (own := [("entry", 4)]) (N := ["lot", "other", "one", "two", "entry"]) (sc := defScope st_joined) (by decide +kernel)) (fun _ _ _ _ _ => (pg_name (i := 4) sc_joined.nd rfl (.inl rfl))) (fun _ _ _ _ _ => (pts_one (pt_cmpR (op_notIn_seqQ (K := K) rfl) (pv 4) (pv 2) rfl))) (fun _ _ _ _ _ => (pv 4)))) pa_nil)) pa_nil)))))))), fun gs M r h => run_done (f := f_joined A) ?_ h⟩
  exact (ss_seq (ss_asg (se_call (fun _ _ _ _ h => h) (sa_cons se_var sa_nil)))
  (ss_seq (ss_if (st_test (se_op so_isN se_var se_non)) ss_raise ss_next)
  (ss_seq (ss_asg (se_call (fun _ _ _ _ h => h) (sa_cons se_var sa_nil)))
  (ss_seq (ss_if (st_test (se_op so_isN se_var se_non)) ss_raise ss_next)
  (ss_ret (se_cb sc_tup (sa_cons (se_new (sn_cb sc_sorted (sa_cons (se_new (sn_cat (se_new (sn_lc (si_any se_var) sb_name (by decide) (st_calm (st_test (se_op so_in se_var se_var))) calm_tCalm se_var)) (se_new (sn_lc (si_any se_var) sb_name (by decide) (st_calm (st_test (se_op so_in se_var se_var))) calm_tCalm se_var)))) sa_nil))) sa_nil)))))))
theorem sc_weight_tops : FnScope ["web", "tops", "u", "v", "p", "q", "signs", "_", "top", "sign"] ["web"] (defScope st_weight_tops) := scope_ok rfl rfl rfl (by decide +kernel) rfl (by decide +kernel) (by decide +kernel)
theorem ok_weight_tops (F : Fun K "weight_tops" "weight_tops" st_weight_tops f fd) (T : Txt K A mg) {a_signs_of : Addr} {d_signs_of : FuncData} (h_signs_of : DefKS P w K mg base "signs_of" 1 ["lot", "many"] (spOf K (con A (m_signs_of A))) a_signs_of d_signs_of) {a_joined : Addr} {d_joined : FuncData} (h_joined : DefKS P w K mg base "joined" 3 ["lot", "other"] (spOf K (con A (m_joined A))) a_joined d_joined) : FnOk P w K mg base (L2.CX P w) 4 f fd ["web"] (spOf K (con A (m_weight_tops A))) := by
  refine def_okT F sc_weight_tops (fun gs M r h => run_con h) (fun cdv A0 outer s H E hr tk => ?_)
  refine ⟨_, (pss_cons (ps_setLc (i := 1) (own := [("_", 7)]) (g := (gName 7)) (tt := tYes) rfl sc_weight_tops.nd rfl rfl (sw_true rfl rfl rfl (by decide +kernel)) (pi_range1 (by rfl) T.range (pa_cons (pe_op op_shl pe_int (pe_fld (pv 0) rfl)) pa_nil)) (blkOk_by (own := [("_", 7)]) (N := ["web", "tops", "u", "v", "p", "q", "signs", "_", "top", "sign"]) (sc := defScope st_weight_tops) (by decide +kernel)) (fun _ _ _ _ _ => (pg_name (i := 7) sc_weight_tops.nd rfl (.inl rfl))) (fun _ _ _ _ _ => pts_nil) (fun _ _ _ _ _ => pe_int))
      (pss_cons (ps_for (passes_of rfl) rfl (pi_anyQ (K := K) rfl (pe_fld (pv 0) rfl)) (pg_rowQ (K := K) rfl rfl (pgs_cons (pg_name (i := 2) sc_weight_tops.nd rfl (.inl rfl)) (pgs_cons (pg_name (i := 3) sc_weight_tops.nd rfl (.inl rfl)) (pgs_cons (pg_rowQ (K := K) rfl rfl (pgs_cons (pg_name (i := 4) sc_weight_tops.nd rfl (.inr rfl)) (pgs_cons (pg_name (i := 5) sc_weight_tops.nd rfl (.inr rfl)) pgs_nil))) pgs_nil)))) (pss_cons (ps_set (i := 6) sc_weight_tops.nd rfl (.inl rfl) (pe_callS h_signs_of.ok (hr.mono (by decide)) (by rfl) h_signs_of.gm h_signs_of.kp h_signs_of.bd (fun σ => passAt tk σ) (pa_cons (pe_callS h_joined.ok (hr.mono (by decide)) (by rfl) h_joined.gm h_joined.kp h_joined.bd (fun σ => passAt tk σ) (pa_cons (pe_tup (pa_cons (pv 2) pa_nil)) (pa_cons (pe_tup (pa_cons (pv 3) pa_nil)) pa_nil))) (pa_cons (pe_fld (pv 0) rfl) pa_nil))))
      (pss_one (ps_setLc (i := 1) (own := [("top", 8), ("sign", 9)]) (g := (gRow K 2 (gCons (gName 8) (gCons (gName 9) gNil)))) (tt := tYes) rfl sc_weight_tops.nd rfl rfl (sw_true rfl rfl rfl (by decide +kernel)) (pi_zipBQ (K := K) rfl (by rfl) T.zip (pa_cons (pv 1) (pa_cons (pv 6) pa_nil))) (blkOk_by (own := [("top", 8), ("sign", 9)]) (N := ["web", "tops", "u", "v", "p", "q", "signs", "_", "top", "sign"]) (sc := defScope st_weight_tops) (by decide +kernel)) (fun _ _ _ _ _ => (pg_rowQ (K := K) rfl rfl (pgs_cons (pg_name (i := 8) sc_weight_tops.nd rfl (.inl rfl)) (pgs_cons (pg_name (i := 9) sc_weight_tops.nd rfl (.inl rfl)) pgs_nil)))) (fun _ _ _ _ _ => pts_nil) (fun _ _ _ _ _ => (pe_op op_mulW (pv 8) (pe_op op_add (pv 5) (pe_op op_mulW (pv 4) (pv 9)))))))))
      (pss_one (ps_ret (pv 1))))), fun gs M r h => run_done (f := f_weight_tops A) ?_ h⟩
  exact (ss_seq (ss_asg (se_new (sn_lc (si_rng1 (sa_cons (se_op (so_I fun _ _ => .int) se_int (se_fld (two_cls T.c_Web T.n_Web_many T.c_Spread T.n_Spread_many) se_var)) sa_nil)) sb_name (by decide) st_yes calm_yes se_int)))
  (ss_seq (ss_for (si_any (se_fld (one_cls T.c_Web T.n_Web_ties) se_var)) (sb_row (sbs_cons sb_name (sbs_cons sb_name (sbs_cons (sb_row (sbs_cons sb_name (sbs_cons sb_name sbs_nil))) sbs_nil)))) (ss_seq (ss_asg (se_call (fun _ _ _ _ h => h) (sa_cons (se_call (fun _ _ _ _ h => h) (sa_cons (se_tup (sa_cons se_var sa_nil)) (sa_cons (se_tup (sa_cons se_var sa_nil)) sa_nil))) (sa_cons (se_fld (two_cls T.c_Web T.n_Web_many T.c_Spread T.n_Spread_many) se_var) sa_nil))))
  (ss_asg (se_new (sn_lc (si_zip2 (sa_cons se_var (sa_cons se_var sa_nil))) (sb_row (sbs_cons sb_name (sbs_cons sb_name sbs_nil))) (by decide) st_yes calm_yes (se_op (so_I fun _ _ => .int) se_var (se_op (so_I0 fun _ _ => .int) se_var (se_op (so_I fun _ _ => .int) se_var se_var))))))))
  (ss_ret se_var)))
theorem sc_places_told : FnScope ["rows", "many"] ["rows"] (defScope st_places_told) := scope_ok rfl rfl rfl (by decide +kernel) rfl (by decide +kernel) (by decide +kernel)
theorem ok_places_told (F : Fun K "places_told" "places_told" st_places_told f fd) (T : Txt K A mg) {a_is_row : Addr} {d_is_row : FuncData} (h_is_row : DefKS P w K mg base "is_row" 1 ["value"] (spOf K (con A (m_is_row A))) a_is_row d_is_row) : FnOk P w K mg base (L2.CX P w) 2 f fd ["rows"] (spOf K (con A (m_places_told A))) := by
  refine def_okT F sc_places_told (fun gs M r h => run_con h) (fun cdv A0 outer s H E hr tk => ?_)
  refine ⟨_, (pss_cons (ps_if (pt_val (pe_callS h_is_row.ok (hr.mono (by decide)) (by rfl) h_is_row.gm h_is_row.kp h_is_row.bd (fun σ => passAt tk σ) (pa_cons (pv 0) pa_nil))) (pss_one (ps_for (passes_of rfl) rfl (pi_range2 (by rfl) T.range (pa_cons pe_int (pa_cons (pe_op op_add (pe_glob (v := .int 7) (by rfl) T.k_MOST_SPREAD.choose_spec ⟨_, rfl⟩) pe_int) pa_nil))) (pg_name (i := 1) sc_places_told.nd rfl (.inl rfl)) (pss_one (ps_if (pt_cmpR op_eq (pe_callB (call_len_seqQ (K := K) rfl) (by rfl) T.len PySem.boot_len (pa_cons (pv 0) pa_nil)) (pe_op op_shl pe_int (pv 1)) (nomark _)) (pss_one (ps_ret (pv 1))) pss_nil)))) pss_nil)
      (pss_one ps_dead)), fun gs M r h => run_done (f := f_places_told A) ?_ h⟩
  exact (ss_seq (ss_if (st_B (se_call (fun _ _ _ _ h => h) (sa_cons se_var sa_nil))) (ss_for (si_rng2 (sa_cons se_int (sa_cons (se_op (so_I0 fun _ _ => .int) se_int se_int) sa_nil))) sb_name (ss_if (st_test (se_op so_eq (se_cb sc_len (sa_cons se_var sa_nil)) (se_op (so_I fun _ _ => .int) se_int se_var))) (ss_ret se_var) ss_next)) ss_next)
  ss_no)
theorem sc_chances_of : FnScope ["rows", "at", "row", "found"] ["rows"] (defScope st_chances_of) := scope_ok rfl rfl rfl (by decide +kernel) rfl (by decide +kernel) (by decide +kernel)
theorem ok_chances_of (F : Fun K "chances_of" "chances_of" st_chances_of f fd) (T : Txt K A mg) {a_sign_of : Addr} {d_sign_of : FuncData} (h_sign_of : DefKS P w K mg base "sign_of" 4 ["one"] (spOf K (con A (m_sign_of A))) a_sign_of d_sign_of) {a_is_ratio : Addr} {d_is_ratio : FuncData} (h_is_ratio : DefKS P w K mg base "is_ratio" 2 ["value"] (spOf K (con A (m_is_ratio A))) a_is_ratio d_is_ratio) {a_ratio_of : Addr} {d_ratio_of : FuncData} (h_ratio_of : DefKS P w K mg base "ratio_of" 3 ["number"] (spOf K (con A (m_ratio_of A))) a_ratio_of d_ratio_of) {a_sum_of : Addr} {d_sum_of : FuncData} (h_sum_of : DefKS P w K mg base "sum_of" 2 ["ratios"] (spOf K (con A (m_sum_of A))) a_sum_of d_sum_of) : FnOk P w K mg base (L2.CX P w) 5 f fd ["rows"] (spOf K (con A (m_chances_of A))) := by
  refine def_okT F sc_chances_of (fun gs M r h => run_con h) (fun cdv A0 outer s H E hr tk => ?_)
  refine ⟨_, (pss_cons (ps_for (passes_of rfl) rfl (pi_enumAQ (K := K) rfl (by rfl) T.enumerate (pa_cons (pv 0) pa_nil)) (pg_rowQ (K := K) rfl rfl (pgs_cons (pg_name (i := 1) sc_chances_of.nd rfl (.inl rfl)) (pgs_cons (pg_name (i := 2) sc_chances_of.nd rfl (.inl rfl)) pgs_nil))) (pss_one (ps_if (PW.pt (pw_or (pt_not (pt_val (pe_callS h_is_ratio.ok (hr.mono (by decide)) (by rfl) h_is_ratio.gm h_is_ratio.kp h_is_ratio.bd (fun σ => passAt tk σ) (pa_cons (pv 2) pa_nil)))) (pw_or1 (pt_cmpR op_le (pe_callS h_sign_of.ok (hr.mono (by decide)) (by rfl) h_sign_of.gm h_sign_of.kp h_sign_of.bd (fun σ => passAt tk σ) (pa_cons (pv 2) pa_nil)) pe_int (nomark _))))) (pss_one ps_dead) pss_nil)))
      (pss_cons (ps_set (i := 3) sc_chances_of.nd rfl (.inl rfl) (pe_callTy (call_tuple_ofQ (K := K) rfl) (by rfl) T.tuple (by decide +kernel) (pa_cons (pe_lc (own := [("row", 2)]) (g := (gName 2)) (tt := tYes) rfl sc_chances_of.nd (pi_anyQ (K := K) rfl (pv 0)) (blkOk_by (own := [("row", 2)]) (N := ["rows", "at", "row", "found"]) (sc := defScope st_chances_of) (by decide +kernel)) (fun _ _ _ _ _ => (pg_name (i := 2) sc_chances_of.nd rfl (.inl rfl))) (fun _ _ _ _ _ => pts_nil) (fun _ _ _ _ _ => (pe_callS h_ratio_of.ok (hr.mono (by decide)) (by rfl) h_ratio_of.gm h_ratio_of.kp h_ratio_of.bd (fun σ => passAt takes0 σ) (pa_cons (pv 2) pa_nil)))) pa_nil)))
      (pss_cons (ps_for (passes_of rfl) rfl (pi_enumAQ (K := K) rfl (by rfl) T.enumerate (pa_cons (pv 3) pa_nil)) (pg_rowQ (K := K) rfl rfl (pgs_cons (pg_name (i := 1) sc_chances_of.nd rfl (.inl rfl)) (pgs_cons (pg_name (i := 2) sc_chances_of.nd rfl (.inl rfl)) pgs_nil))) (pss_one (ps_if (pt_cmpR (op_neDQ (K := K) rfl hr.units) (pv 2) (pe_ix (ix_seqQ (K := K) rfl) (pv 3) (pe_op op_sub (pe_op op_sub (pe_callB (call_len_seqQ (K := K) rfl) (by rfl) T.len PySem.boot_len (pa_cons (pv 3) pa_nil)) pe_int) (pv 1)) (fun _ _ => rfl)) (nomark _)) (pss_one ps_dead) pss_nil)))
      (pss_cons (ps_if (pt_cmpR (op_neDQ (K := K) rfl hr.units) (pe_callS h_sum_of.ok (hr.mono (by decide)) (by rfl) h_sum_of.gm h_sum_of.kp h_sum_of.bd (fun σ => passAt tk σ) (pa_cons (pv 3) pa_nil)) (pe_tup (pa_cons pe_int (pa_cons pe_int pa_nil))) (nomark _)) (pss_one ps_dead) pss_nil)
      (pss_one (ps_ret (pv 3))))))), fun gs M r h => run_done (f := f_chances_of A) ?_ h⟩
  exact (ss_seq (ss_for (si_enum (sa_cons se_var sa_nil)) (sb_row (sbs_cons sb_name (sbs_cons sb_name sbs_nil))) (ss_if (st_or (st_not (st_B (se_call (fun _ _ _ _ h => h) (sa_cons se_var sa_nil)))) (st_test (se_op (so_I0 fun _ _ => .bl) (se_call (fun _ _ _ _ h => h) (sa_cons se_var sa_nil)) se_int))) ss_no ss_next))
  (ss_seq (ss_asg (se_cb sc_tup (sa_cons (se_new (sn_lc (si_any se_var) sb_name (by decide) st_yes calm_yes (se_call (fun _ _ _ _ h => False.elim h) (sa_cons se_var sa_nil)))) sa_nil)))
  (ss_seq (ss_for (si_enum (sa_cons se_var sa_nil)) (sb_row (sbs_cons sb_name (sbs_cons sb_name sbs_nil))) (ss_if (st_test (se_op so_neD se_var (se_ix se_var (se_op (so_I0 fun _ _ => .int) (se_op (so_I0 fun _ _ => .int) (se_cb sc_len (sa_cons se_var sa_nil)) se_int) se_var)))) ss_no ss_next))
  (ss_seq (ss_if (st_test (se_op so_neD (se_call (fun _ _ _ _ h => h) (sa_cons se_var sa_nil)) (se_tup (sa_cons se_int (sa_cons se_int sa_nil))))) ss_no ss_next)
  (ss_ret se_var)))))
theorem sc_Spread_init : FnScope ["self", "rows"] ["self", "rows"] (defScope st_Spread_init) := scope_ok rfl rfl rfl (by decide +kernel) rfl (by decide +kernel) (by decide +kernel)
theorem ok_Spread_init (F : Fun K "__init__" "Spread.__init__" st_Spread_init f fd) (T : Txt K A mg) {a_places_told : Addr} {d_places_told : FuncData} (h_places_told : DefKS P w K mg base "places_told" 2 ["rows"] (spOf K (con A (m_places_told A))) a_places_told d_places_told) {a_chances_of : Addr} {d_chances_of : FuncData} (h_chances_of : DefKS P w K mg base "chances_of" 5 ["rows"] (spOf K (con A (m_chances_of A))) a_chances_of d_chances_of) : FnOk P w K mg base (L2.CX P w) 6 f fd ["self", "rows"] (spOf K (con A (m_Spread_init A))) := by
  refine def_okT F sc_Spread_init (fun gs M r h => run_con h) (fun cdv A0 outer s H E hr tk => ?_)
  refine ⟨_, (pss_cons (ps_fld (pv 0) (pe_callS h_places_told.ok (hr.mono (by decide)) (by rfl) h_places_told.gm h_places_told.kp h_places_told.bd (fun σ => passAt tk σ) (pa_cons (pv 1) pa_nil)) rfl)
      (pss_one (ps_fld (pv 0) (pe_callS h_chances_of.ok (hr.mono (by decide)) (by rfl) h_chances_of.gm h_chances_of.kp h_chances_of.bd (fun σ => passAt tk σ) (pa_cons (pv 1) pa_nil)) rfl))), fun gs M r h => run_done (f := f_Spread_init A) ?_ h⟩
  exact (ss_seq (ss_setF T.c_Spread T.n_Spread_many se_var (se_call (fun _ _ _ _ h => h) (sa_cons se_var sa_nil)))
  (ss_setF T.c_Spread T.n_Spread_rows se_var (se_call (fun _ _ _ _ h => h) (sa_cons se_var sa_nil))))
theorem sc_Spread_of : FnScope ["cls", "web", "tops", "bottom", "top"] ["cls", "web"] (defScope st_Spread_of) := scope_ok rfl rfl rfl (by decide +kernel) rfl (by decide +kernel) (by decide +kernel)
theorem ok_Spread_of (F : Fun K "of" "Spread.of" st_Spread_of f fd) (T : Txt K A mg) {a_weight_tops : Addr} {d_weight_tops : FuncData} (h_weight_tops : DefKS P w K mg base "weight_tops" 4 ["web"] (spOf K (con A (m_weight_tops A))) a_weight_tops d_weight_tops) {a_lowest : Addr} {d_lowest : FuncData} (h_lowest : DefKS P w K mg base "lowest" 1 ["top", "bottom"] (spOf K (con A (m_lowest A))) a_lowest d_lowest) {a_Spread_init : Addr} {d_Spread_init : FuncData} (h_Spread_init : IniKS P w K mg base (A "Spread") 6 ["self", "rows"] (spOf K (con A (m_Spread_init A))) a_Spread_init d_Spread_init) : FnOk P w K mg base (L2.CX P w) 8 f fd ["cls", "web"] (spOf K (con A (m_Spread_of A))) := by
  refine def_okT F sc_Spread_of (fun gs M r h => run_con h) (fun cdv A0 outer s H E hr tk => ?_)
  refine ⟨_, (pss_cons (ps_if (pt_cmpR op_gt (pe_fld (pv 1) rfl) (pe_glob (v := .int 7) (by rfl) T.k_MOST_SPREAD.choose_spec ⟨_, rfl⟩) (nomark _)) (pss_one ps_dead) pss_nil)
      (pss_cons (ps_set (i := 2) sc_Spread_of.nd rfl (.inl rfl) (pe_callS h_weight_tops.ok (hr.mono (by decide)) (by rfl) h_weight_tops.gm h_weight_tops.kp h_weight_tops.bd (fun σ => passAt tk σ) (pa_cons (pv 1) pa_nil)))
      (pss_cons (ps_set (i := 3) sc_Spread_of.nd rfl (.inr rfl) (pe_callB (cr_sumQ (K := K) rfl rfl) (by rfl) T.sum (by decide +kernel) (pa_cons (pv 2) pa_nil)))
      (pss_one (ps_ret (pe_makeL (i := 0) h_Spread_init.make h_Spread_init.ok (hr.mono (by decide)) rfl (.inl rfl) h_Spread_init.bd (fun σ => passAt tk σ) (pa_cons (pe_lc (own := [("top", 4)]) (g := (gName 4)) (tt := tYes) rfl sc_Spread_of.nd (pi_anyQ (K := K) rfl (pv 2)) (blkOk_by (own := [("top", 4)]) (N := ["cls", "web", "tops", "bottom", "top"]) (sc := defScope st_Spread_of) (by decide +kernel)) (fun _ _ _ _ _ => (pg_name (i := 4) sc_Spread_of.nd rfl (.inl rfl))) (fun _ _ _ _ _ => pts_nil) (fun _ _ _ _ _ => (pe_callS h_lowest.ok (hr.mono (by decide)) (by rfl) h_lowest.gm h_lowest.kp h_lowest.bd (fun σ => passAt takes0 σ) (pa_cons (pv 4) (pa_cons (pv 3) pa_nil))))) pa_nil))))))), fun gs M r h => run_done (f := f_Spread_of A) ?_ h⟩
  exact (ss_seq (ss_if (st_test (se_op (so_I0 fun _ _ => .bl) (se_fld (two_cls T.c_Web T.n_Web_many T.c_Spread T.n_Spread_many) se_var) se_int)) ss_no ss_next)
  (ss_seq (ss_asg (se_call (fun _ _ _ _ h => h) (sa_cons se_var sa_nil)))
  (ss_seq (ss_asg (se_cb sc_sum (sa_cons se_var sa_nil)))
  (ss_ret (se_makeL (fun _ _ _ _ h => h) (sa_cons (se_new (sn_lc (si_any se_var) sb_name (by decide) st_yes calm_yes (se_call (fun _ _ _ _ h => False.elim h) (sa_cons se_var (sa_cons se_var sa_nil))))) sa_nil))))))
end
end My

set_option Elab.async false
set_option linter.all false
set_option maxRecDepth 100000
set_option maxHeartbeats 4000000
set_option exponentiation.threshold 100000
namespace My
open PySem L2 Lw
section
variable {P : Program} {w : World} {K : PySem.W.Frag} {A : Str → Addr} {mg : Str → Option Value} {base : Heap} {f : Addr} {fd : FuncData}
theorem sc_lot_of : FnScope ["lot", "many", "places", "found", "place"] ["lot", "many"] (defScope st_lot_of) := scope_ok rfl rfl rfl (by decide +kernel) rfl (by decide +kernel) (by decide +kernel)
theorem ok_lot_of (F : Fun K "lot_of" "lot_of" st_lot_of f fd) (T : Txt K A mg) {a_count_of : Addr} {d_count_of : FuncData} (h_count_of : DefKS P w K mg base "count_of" 2 ["many", "most"] (spOf K (con A (m_count_of A))) a_count_of d_count_of) {a_distinct_numbers : Addr} {d_distinct_numbers : FuncData} (h_distinct_numbers : DefKS P w K mg base "distinct_numbers" 2 ["row"] (spOf K (con A (m_distinct_numbers A))) a_distinct_numbers d_distinct_numbers) : FnOk P w K mg base (L2.CX P w) 3 f fd ["lot", "many"] (spOf K (con A (m_lot_of A))) := by
  refine def_okT F sc_lot_of (fun gs M r h => run_con h) (fun cdv A0 outer s H E hr tk => ?_)
  refine ⟨_, (pss_cons (ps_set (i := 2) sc_lot_of.nd rfl (.inr rfl) (pe_callS h_count_of.ok (hr.mono (by decide)) (by rfl) h_count_of.gm h_count_of.kp h_count_of.bd (fun σ => passAt tk σ) (pa_cons (pv 1) (pa_cons (pe_glob (v := .int 10) (by rfl) T.k_MOST_PLACES.choose_spec ⟨_, rfl⟩) pa_nil))))
      (pss_cons (ps_set (i := 3) sc_lot_of.nd rfl (.inl rfl) (pe_callS h_distinct_numbers.ok (hr.mono (by decide)) (by rfl) h_distinct_numbers.gm h_distinct_numbers.kp h_distinct_numbers.bd (fun σ => passAt tk σ) (pa_cons (pv 0) pa_nil)))
      (pss_cons (ps_if (PW.pt (pw_or (pt_cmpR op_isN (pv 3) pe_non (nomark _)) (pw_or1 (pt_not (pt_val (pe_callB (cr_allQ (K := K) rfl rfl) (by rfl) T.all (by decide +kernel) (pa_cons (pe_lc (own := [("place", 4)]) (g := (gName 4)) (tt := tYes) rfl sc_lot_of.nd (pi_anyQ (K := K) rfl (pv 3)) (blkOk_by (own := [("place", 4)]) (N := ["lot", "many", "places", "found", "place"]) (sc := defScope st_lot_of) (by decide +kernel)) (fun _ _ _ _ _ => (pg_name (i := 4) sc_lot_of.nd rfl (.inl rfl))) (fun _ _ _ _ _ => pts_nil) (fun _ _ _ _ _ => (pe_cmpR op_lt (pv 4) (pv 2) (nomark _)))) pa_nil))))))) (pss_one (ps_raise rfl tk (pmk_own0 T.x_BadLot (by rfl)))) pss_nil)
      (pss_one (ps_ret (pv 3)))))), fun gs M r h => run_done (f := f_lot_of A) ?_ h⟩
  exact (ss_seq (ss_asg (se_call (fun _ _ _ _ h => h) (sa_cons se_var (sa_cons se_int sa_nil))))
  (ss_seq (ss_asg (se_call (fun _ _ _ _ h => h) (sa_cons se_var sa_nil)))
  (ss_seq (ss_if (st_or (st_test (se_op so_isN se_var se_non)) (st_not (st_B (se_cb sc_all (sa_cons (se_new (sn_lc (si_any se_var) sb_name (by decide) st_yes calm_yes (se_op (so_I0 fun _ _ => .bl) se_var se_var))) sa_nil))))) ss_raise ss_next)
  (ss_ret se_var))))
theorem sc_Spread_left_out : FnScope ["self", "lot", "places", "kept", "tops", "bottom", "sums", "said", "top", "rest", "place"] ["self", "lot"] (defScope st_Spread_left_out) := scope_ok rfl rfl rfl (by decide +kernel) rfl (by decide +kernel) (by decide +kernel)
theorem ok_Spread_left_out (F : Fun K "left_out" "Spread.left_out" st_Spread_left_out f fd) (T : Txt K A mg) {a_lot_of : Addr} {d_lot_of : FuncData} (h_lot_of : DefKS P w K mg base "lot_of" 3 ["lot", "many"] (spOf K (con A (m_lot_of A))) a_lot_of d_lot_of) {a_over_common : Addr} {d_over_common : FuncData} (h_over_common : DefKS P w K mg base "over_common" 1 ["ratios"] (spOf K (con A (m_over_common A))) a_over_common d_over_common) {a_sayings : Addr} {d_sayings : FuncData} (h_sayings : DefKS P w K mg base "sayings" 3 ["many"] (spOf K (con A (m_sayings A))) a_sayings d_sayings) {a_lowest : Addr} {d_lowest : FuncData} (h_lowest : DefKS P w K mg base "lowest" 1 ["top", "bottom"] (spOf K (con A (m_lowest A))) a_lowest d_lowest) {a_Spread_init : Addr} {d_Spread_init : FuncData} (h_Spread_init : IniKS P w K mg base (A "Spread") 6 ["self", "rows"] (spOf K (con A (m_Spread_init A))) a_Spread_init d_Spread_init) : FnOk P w K mg base (L2.CX P w) 8 f fd ["self", "lot"] (spOf K (con A (m_Spread_left_out A))) := by
  refine def_okT F sc_Spread_left_out (fun gs M r h => run_con h) (fun cdv A0 outer s H E hr tk => ?_)
  refine ⟨_, (pss_cons (ps_set (i := 2) sc_Spread_left_out.nd rfl (.inr rfl) (pe_callS h_lot_of.ok (hr.mono (by decide)) (by rfl) h_lot_of.gm h_lot_of.kp h_lot_of.bd (fun σ => passAt tk σ) (pa_cons (pv 1) (pa_cons (pe_fld (pv 0) rfl) pa_nil))))
      (pss_cons (ps_if (pt_cmpR op_eq (pe_callB (call_len_seqQ (K := K) rfl) (by rfl) T.len PySem.boot_len (pa_cons (pv 2) pa_nil)) (pe_fld (pv 0) rfl) (nomark _)) (pss_one (ps_raise rfl tk (pmk_own0 T.x_BadLot (by rfl)))) pss_nil)
      (pss_cons (ps_setLc (i := 3) (own := [("place", 10)]) (g := (gName 10)) (tt := _) rfl sc_Spread_left_out.nd rfl rfl (sw_true rfl rfl rfl (by decide +kernel)) (pi_range1 (by rfl) T.range (pa_cons (pe_fld (pv 0) rfl) pa_nil)) (blkOk_by (own := [("place", 10)]) (N := ["self", "lot", "places", "kept", "tops", "bottom", "sums", "said", "top", "rest", "place"]) (sc := defScope st_Spread_left_out) (by decide +kernel)) (fun _ _ _ _ _ => (pg_name (i := 10) sc_Spread_left_out.nd rfl (.inl rfl))) (fun _ _ _ _ _ => (pts_one (pt_cmpR (op_notIn_seqQ (K := K) rfl) (pv 10) (pv 2) rfl))) (fun _ _ _ _ _ => (pv 10)))
      (pss_cons (ps_asg (pe_callS h_over_common.ok (hr.mono (by decide)) (by rfl) h_over_common.gm h_over_common.kp h_over_common.bd (fun σ => passAt tk σ) (pa_cons (pe_fld (pv 0) rfl) pa_nil)) (pg_rowQ (K := K) rfl rfl (pgs_cons (pg_name (i := 4) sc_Spread_left_out.nd rfl (.inl rfl)) (pgs_cons (pg_name (i := 5) sc_Spread_left_out.nd rfl (.inr rfl)) pgs_nil))))
      (pss_cons (ps_set (i := 6) sc_Spread_left_out.nd rfl (.inr rfl) pe_dnewT)
      (pss_cons (ps_for (passes_of rfl) rfl (pi_zipBQ (K := K) rfl (by rfl) T.zip (pa_cons (pe_callS h_sayings.ok (hr.mono (by decide)) (by rfl) h_sayings.gm h_sayings.kp h_sayings.bd (fun σ => passAt tk σ) (pa_cons (pe_fld (pv 0) rfl) pa_nil)) (pa_cons (pv 4) pa_nil))) (pg_rowQ (K := K) rfl rfl (pgs_cons (pg_name (i := 7) sc_Spread_left_out.nd rfl (.inr rfl)) (pgs_cons (pg_name (i := 8) sc_Spread_left_out.nd rfl (.inl rfl)) pgs_nil))) (pss_cons (ps_set (i := 9) sc_Spread_left_out.nd rfl (.inl rfl) (pe_callTy (call_tuple_ofQ (K := K) rfl) (by rfl) T.tuple (by decide +kernel) (pa_cons (pe_lc (own := [("place", 10)]) (g := (gName 10)) (tt := tYes) rfl sc_Spread_left_out.nd (pi_anyQ (K := K) rfl (pv 3)) (blkOk_by (own := [("place", 10)]) (N := ["self", "lot", "places", "kept", "tops", "bottom", "sums", "said", "top", "rest", "place"]) (sc := defScope st_Spread_left_out) (by decide +kernel)) (fun _ _ _ _ _ => (pg_name (i := 10) sc_Spread_left_out.nd rfl (.inl rfl))) (fun _ _ _ _ _ => pts_nil) (fun _ _ _ _ _ => (pe_ix (ix_seqQ (K := K) rfl) (pv 7) (pv 10) (fun _ _ => rfl)))) pa_nil)))
      (pss_one (ps_dput (hu_of hr) (pv 6) (pv 9) (pe_op op_add (pe_dget2 (hu_of hr) (pv 6) (pv 9) pe_int ⟨rfl, rfl, rfl, rfl⟩) (pv 8)) rfl))))
      (pss_one (ps_ret (pe_makeS h_Spread_init.make h_Spread_init.ok (hr.mono (by decide)) (by rfl) T.g_Spread h_Spread_init.bd (fun σ => passAt tk σ) (pa_cons (pe_lc (own := [("rest", 9)]) (g := (gName 9)) (tt := tYes) rfl sc_Spread_left_out.nd (pi_anyQ (K := K) rfl (pe_callS h_sayings.ok (hr.mono (by decide)) (by rfl) h_sayings.gm h_sayings.kp h_sayings.bd (fun σ => passAt tk σ) (pa_cons (pe_callB (call_len_seqQ (K := K) rfl) (by rfl) T.len PySem.boot_len (pa_cons (pv 3) pa_nil)) pa_nil))) (blkOk_by (own := [("rest", 9)]) (N := ["self", "lot", "places", "kept", "tops", "bottom", "sums", "said", "top", "rest", "place"]) (sc := defScope st_Spread_left_out) (by decide +kernel)) (fun _ _ _ _ _ => (pg_name (i := 9) sc_Spread_left_out.nd rfl (.inl rfl))) (fun _ _ _ _ _ => pts_nil) (fun _ _ _ _ _ => (pe_callS h_lowest.ok (hr.mono (by decide)) (by rfl) h_lowest.gm h_lowest.kp h_lowest.bd (fun σ => passAt takes0 σ) (pa_cons (pe_dget (hu_of hr) (pv 6) (pv 9) (fun _ _ => rfl)) (pa_cons (pv 5) pa_nil))))) pa_nil)))))))))), fun gs M r h => run_done (f := f_Spread_left_out A) ?_ h⟩
  exact (ss_seq (ss_asg (se_call (fun _ _ _ _ h => h) (sa_cons se_var (sa_cons (se_fld (one_cls T.c_Spread T.n_Spread_many) se_var) sa_nil))))
  (ss_seq (ss_if (st_test (se_op so_eq (se_cb sc_len (sa_cons se_var sa_nil)) (se_fld (one_cls T.c_Spread T.n_Spread_many) se_var))) ss_raise ss_next)
  (ss_seq (ss_asg (se_new (sn_lc (si_rng1 (sa_cons (se_fld (one_cls T.c_Spread T.n_Spread_many) se_var) sa_nil)) sb_name (by decide) (st_calm (st_test (se_op so_in se_var se_var))) calm_tCalm se_var)))
  (ss_seq (ss_asgT (se_call (fun _ _ _ _ h => h) (sa_cons (se_fld (one_cls T.c_Spread T.n_Spread_rows) se_var) sa_nil)) (sb_row (sbs_cons sb_name (sbs_cons sb_name sbs_nil))))
  (ss_seq ss_dnew
  (ss_seq (ss_for (si_zip2 (sa_cons (se_call (fun _ _ _ _ h => h) (sa_cons (se_fld (one_cls T.c_Spread T.n_Spread_many) se_var) sa_nil)) (sa_cons se_var sa_nil))) (sb_row (sbs_cons sb_name (sbs_cons sb_name sbs_nil))) (ss_seq (ss_asg (se_cb sc_tup (sa_cons (se_new (sn_lc (si_any se_var) sb_name (by decide) st_yes calm_yes (se_ix se_var se_var))) sa_nil)))
  (ss_dput se_var (se_op (so_I0 fun _ _ => .int) (se_dget2 se_var se_int) se_var))))
  (ss_ret (se_make (fun _ _ _ _ h => h) (sa_cons (se_new (sn_lc (si_any (se_call (fun _ _ _ _ h => h) (sa_cons (se_cb sc_len (sa_cons se_var sa_nil)) sa_nil))) sb_name (by decide) st_yes calm_yes (se_call (fun _ _ _ _ h => False.elim h) (sa_cons (se_dget se_var) (sa_cons se_var sa_nil))))) sa_nil)))))))))
theorem sc_merged_pull : FnScope ["one", "other", "p", "q", "r", "s"] ["one", "other"] (defScope st_merged_pull) := scope_ok rfl rfl rfl (by decide +kernel) rfl (by decide +kernel) (by decide +kernel)
theorem ok_merged_pull (F : Fun K "merged_pull" "merged_pull" st_merged_pull f fd) (T : Txt K A mg) {a_lowest : Addr} {d_lowest : FuncData} (h_lowest : DefKS P w K mg base "lowest" 1 ["top", "bottom"] (spOf K (con A (m_lowest A))) a_lowest d_lowest) : FnOk P w K mg base (L2.CX P w) 2 f fd ["one", "other"] (spOf K (con A (m_merged_pull A))) := by
  refine def_okT F sc_merged_pull (fun gs M r h => run_con h) (fun cdv A0 outer s H E hr tk => ?_)
  refine ⟨_, (pss_cons (ps_asg (pv 0) (pg_rowQ (K := K) rfl rfl (pgs_cons (pg_name (i := 2) sc_merged_pull.nd rfl (.inl rfl)) (pgs_cons (pg_name (i := 3) sc_merged_pull.nd rfl (.inl rfl)) pgs_nil))))
      (pss_cons (ps_asg (pv 1) (pg_rowQ (K := K) rfl rfl (pgs_cons (pg_name (i := 4) sc_merged_pull.nd rfl (.inl rfl)) (pgs_cons (pg_name (i := 5) sc_merged_pull.nd rfl (.inl rfl)) pgs_nil))))
      (pss_one (ps_ret (pe_callS h_lowest.ok (hr.mono (by decide)) (by rfl) h_lowest.gm h_lowest.kp h_lowest.bd (fun σ => passAt tk σ) (pa_cons (pe_op op_add (pe_op op_mulW (pv 2) (pv 5)) (pe_op op_mulW (pv 4) (pv 3))) (pa_cons (pe_op op_add (pe_op op_mulW (pv 3) (pv 5)) (pe_op op_mulW (pv 2) (pv 4))) pa_nil))))))), fun gs M r h => run_done (f := f_merged_pull A) ?_ h⟩
  exact (ss_seq (ss_asgT se_var (sb_row (sbs_cons sb_name (sbs_cons sb_name sbs_nil))))
  (ss_seq (ss_asgT se_var (sb_row (sbs_cons sb_name (sbs_cons sb_name sbs_nil))))
  (ss_ret (se_call (fun _ _ _ _ h => h) (sa_cons (se_op (so_I0 fun _ _ => .int) (se_op (so_I fun _ _ => .int) se_var se_var) (se_op (so_I fun _ _ => .int) se_var se_var)) (sa_cons (se_op (so_I0 fun _ _ => .int) (se_op (so_I fun _ _ => .int) se_var se_var) (se_op (so_I fun _ _ => .int) se_var se_var)) sa_nil))))))
theorem sc_Web_merged : FnScope ["self", "pulls", "u", "v", "t", "pair"] ["self"] (defScope st_Web_merged) := scope_ok rfl rfl rfl (by decide +kernel) rfl (by decide +kernel) (by decide +kernel)
theorem ok_Web_merged (F : Fun K "merged" "Web.merged" st_Web_merged f fd) (T : Txt K A mg) {a_merged_pull : Addr} {d_merged_pull : FuncData} (h_merged_pull : DefKS P w K mg base "merged_pull" 2 ["one", "other"] (spOf K (con A (m_merged_pull A))) a_merged_pull d_merged_pull) {a_Web_init : Addr} {d_Web_init : FuncData} (h_Web_init : IniKS P w K mg base (A "Web") 6 ["self", "many", "ties"] (spOf K (con A (m_Web_init A))) a_Web_init d_Web_init) : FnOk P w K mg base (L2.CX P w) 8 f fd ["self"] (spOf K (con A (m_Web_merged A))) := by
  refine def_okT F sc_Web_merged (fun gs M r h => run_con h) (fun cdv A0 outer s H E hr tk => ?_)
  refine ⟨_, (pss_cons (ps_set (i := 1) sc_Web_merged.nd rfl (.inr rfl) pe_dnewT)
      (pss_cons (ps_for (passes_of rfl) rfl (pi_anyQ (K := K) rfl (pe_fld (pv 0) rfl)) (pg_rowQ (K := K) rfl rfl (pgs_cons (pg_name (i := 2) sc_Web_merged.nd rfl (.inl rfl)) (pgs_cons (pg_name (i := 3) sc_Web_merged.nd rfl (.inl rfl)) (pgs_cons (pg_name (i := 4) sc_Web_merged.nd rfl (.inl rfl)) pgs_nil)))) (pss_one (ps_if (pt_cmpR (op_neDQ (K := K) rfl hr.units) (pv 2) (pv 3) (nomark _)) (pss_cons (ps_set (i := 5) sc_Web_merged.nd rfl (.inl rfl) (pe_tup (pa_cons (pe_callB (call_min2 rfl) (by rfl) T.min (by decide +kernel) (pa_cons (pv 2) (pa_cons (pv 3) pa_nil))) (pa_cons (pe_callB (call_max2 rfl) (by rfl) T.max (by decide +kernel) (pa_cons (pv 2) (pa_cons (pv 3) pa_nil))) pa_nil))))
      (pss_one (ps_dput (hu_of hr) (pv 1) (pv 5) (pe_callS h_merged_pull.ok (hr.mono (by decide)) (by rfl) h_merged_pull.gm h_merged_pull.kp h_merged_pull.bd (fun σ => passAt tk σ) (pa_cons (pe_dget2 (hu_of hr) (pv 1) (pv 5) (pe_tup (pa_cons pe_int (pa_cons pe_int pa_nil))) ⟨rfl, rfl, rfl, rfl⟩) (pa_cons (pv 4) pa_nil))) rfl))) pss_nil)))
      (pss_one (ps_ret (pe_makeS h_Web_init.make h_Web_init.ok (hr.mono (by decide)) (by rfl) T.g_Web h_Web_init.bd (fun σ => passAt tk σ) (pa_cons (pe_fld (pv 0) rfl) (pa_cons (pe_lc (own := [("u", 2), ("v", 3)]) (g := (gRow K 2 (gCons (gName 2) (gCons (gName 3) gNil)))) (tt := _) rfl sc_Web_merged.nd (pi_anyQ (K := K) rfl (pe_callB (cr_sortedK (m := 2) (top := 1000) (by decide) rfl) (by rfl) T.sorted (by decide +kernel) (pa_cons (pv 1) pa_nil))) (blkOk_by (own := [("u", 2), ("v", 3)]) (N := ["self", "pulls", "u", "v", "t", "pair"]) (sc := defScope st_Web_merged) (by decide +kernel)) (fun _ _ _ _ _ => (pg_rowQ (K := K) rfl rfl (pgs_cons (pg_name (i := 2) sc_Web_merged.nd rfl (.inl rfl)) (pgs_cons (pg_name (i := 3) sc_Web_merged.nd rfl (.inl rfl)) pgs_nil)))) (fun _ _ _ _ _ => (pts_one (pt_cmpR (op_neDQ (K := K) rfl hr.units) (pe_dget (hu_of hr) (pv 1) (pe_tup (pa_cons (pv 2) (pa_cons (pv 3) pa_nil))) (fun _ _ => rfl)) (pe_tup (pa_cons pe_int (pa_cons pe_int pa_nil))) (nomark _)))) (fun _ _ _ _ _ => (pe_tup (pa_cons (pv 2) (pa_cons (pv 3) (pa_cons (pe_dget (hu_of hr) (pv 1) (pe_tup (pa_cons (pv 2) (pa_cons (pv 3) pa_nil))) (fun _ _ => rfl)) pa_nil)))))) pa_nil))))))), fun gs M r h => run_done (f := f_Web_merged A) ?_ h⟩
  exact (ss_seq ss_dnew
  (ss_seq (ss_for (si_any (se_fld (one_cls T.c_Web T.n_Web_ties) se_var)) (sb_row (sbs_cons sb_name (sbs_cons sb_name (sbs_cons sb_name sbs_nil)))) (ss_if (st_test (se_op so_neD se_var se_var)) (ss_seq (ss_asg (se_tup (sa_cons (se_cb sc_i2 (sa_cons se_var (sa_cons se_var sa_nil))) (sa_cons (se_cb sc_i2 (sa_cons se_var (sa_cons se_var sa_nil))) sa_nil))))
  (ss_dput se_var (se_call (fun _ _ _ _ h => False.elim h) (sa_cons (se_dget2 se_var (se_tup (sa_cons se_int (sa_cons se_int sa_nil)))) (sa_cons se_var sa_nil))))) ss_next))
  (ss_ret (se_make (fun _ _ _ _ h => h) (sa_cons (se_fld (one_cls T.c_Web T.n_Web_many) se_var) (sa_cons (se_new (sn_lc (si_any (se_new sn_sortK)) (sb_row (sbs_cons sb_name (sbs_cons sb_name sbs_nil))) (by decide) (st_calm (st_test (se_op so_neD (se_dget (se_tup (sa_cons se_var (sa_cons se_var sa_nil)))) (se_tup (sa_cons se_int (sa_cons se_int sa_nil)))))) calm_tCalm (se_tup (sa_cons se_var (sa_cons se_var (sa_cons (se_dget (se_tup (sa_cons se_var (sa_cons se_var sa_nil)))) sa_nil)))))) sa_nil))))))
theorem sc_mean : FnScope ["web", "lot", "floor", "places", "tops", "signs", "top", "sign"] ["web", "lot", "floor"] (defScope st_mean) := scope_ok rfl rfl rfl (by decide +kernel) rfl (by decide +kernel) (by decide +kernel)
theorem ok_mean (F : Fun K "mean" "mean" st_mean f fd) (T : Txt K A mg) {a_lot_of : Addr} {d_lot_of : FuncData} (h_lot_of : DefKS P w K mg base "lot_of" 3 ["lot", "many"] (spOf K (con A (m_lot_of A))) a_lot_of d_lot_of) {a_is_place : Addr} {d_is_place : FuncData} (h_is_place : DefKS P w K mg base "is_place" 2 ["value", "many"] (spOf K (con A (m_is_place A))) a_is_place d_is_place) {a_joined : Addr} {d_joined : FuncData} (h_joined : DefKS P w K mg base "joined" 3 ["lot", "other"] (spOf K (con A (m_joined A))) a_joined d_joined) {a_weight_tops : Addr} {d_weight_tops : FuncData} (h_weight_tops : DefKS P w K mg base "weight_tops" 4 ["web"] (spOf K (con A (m_weight_tops A))) a_weight_tops d_weight_tops) {a_signs_of : Addr} {d_signs_of : FuncData} (h_signs_of : DefKS P w K mg base "signs_of" 1 ["lot", "many"] (spOf K (con A (m_signs_of A))) a_signs_of d_signs_of) {a_lowest : Addr} {d_lowest : FuncData} (h_lowest : DefKS P w K mg base "lowest" 1 ["top", "bottom"] (spOf K (con A (m_lowest A))) a_lowest d_lowest) : FnOk P w K mg base (L2.CX P w) 5 f fd ["web", "lot", "floor"] (spOf K (con A (m_mean A))) := by
  refine def_okT F sc_mean (fun gs M r h => run_con h) (fun cdv A0 outer s H E hr tk => ?_)
  refine ⟨_, (pss_cons (ps_set (i := 3) sc_mean.nd rfl (.inl rfl) (pe_callS h_lot_of.ok (hr.mono (by decide)) (by rfl) h_lot_of.gm h_lot_of.kp h_lot_of.bd (fun σ => passAt tk σ) (pa_cons (pv 1) (pa_cons (pe_fld (pv 0) rfl) pa_nil))))
      (pss_cons (ps_if (pt_cmpR op_notN (pv 2) pe_non (nomark _)) (pss_cons (ps_if (pt_not (pt_val (pe_callS h_is_place.ok (hr.mono (by decide)) (by rfl) h_is_place.gm h_is_place.kp h_is_place.bd (fun σ => passAt tk σ) (pa_cons (pv 2) (pa_cons (pe_fld (pv 0) rfl) pa_nil))))) (pss_one (ps_raise rfl tk (pmk_own0 T.x_BadPlace (by rfl)))) pss_nil)
      (pss_one (ps_if (pt_truthQ (K := K) rfl (pe_op op_and (pe_callB (call_len_seqQ (K := K) rfl) (by rfl) T.len PySem.boot_len (pa_cons (pv 3) pa_nil)) pe_int) (by intro _; rfl)) (pss_one (ps_set (i := 3) sc_mean.nd rfl (.inl rfl) (pe_callS h_joined.ok (hr.mono (by decide)) (by rfl) h_joined.gm h_joined.kp h_joined.bd (fun σ => passAt tk σ) (pa_cons (pv 3) (pa_cons (pe_tup (pa_cons (pv 2) pa_nil)) pa_nil))))) pss_nil))) pss_nil)
      (pss_cons (ps_set (i := 4) sc_mean.nd rfl (.inl rfl) (pe_callS h_weight_tops.ok (hr.mono (by decide)) (by rfl) h_weight_tops.gm h_weight_tops.kp h_weight_tops.bd (fun σ => passAt tk σ) (pa_cons (pv 0) pa_nil)))
      (pss_cons (ps_set (i := 5) sc_mean.nd rfl (.inl rfl) (pe_callS h_signs_of.ok (hr.mono (by decide)) (by rfl) h_signs_of.gm h_signs_of.kp h_signs_of.bd (fun σ => passAt tk σ) (pa_cons (pv 3) (pa_cons (pe_fld (pv 0) rfl) pa_nil))))
      (pss_one (ps_ret (pe_callS h_lowest.ok (hr.mono (by decide)) (by rfl) h_lowest.gm h_lowest.kp h_lowest.bd (fun σ => passAt tk σ) (pa_cons (pe_callB (cr_sumQ (K := K) rfl rfl) (by rfl) T.sum (by decide +kernel) (pa_cons (pe_lc (own := [("top", 6), ("sign", 7)]) (g := (gRow K 2 (gCons (gName 6) (gCons (gName 7) gNil)))) (tt := tYes) rfl sc_mean.nd (pi_zipBQ (K := K) rfl (by rfl) T.zip (pa_cons (pv 4) (pa_cons (pv 5) pa_nil))) (blkOk_by (own := [("top", 6), ("sign", 7)]) (N := ["web", "lot", "floor", "places", "tops", "signs", "top", "sign"]) (sc := defScope st_mean) (by decide +kernel)) (fun _ _ _ _ _ => (pg_rowQ (K := K) rfl rfl (pgs_cons (pg_name (i := 6) sc_mean.nd rfl (.inl rfl)) (pgs_cons (pg_name (i := 7) sc_mean.nd rfl (.inl rfl)) pgs_nil)))) (fun _ _ _ _ _ => pts_nil) (fun _ _ _ _ _ => (pe_op op_mulW (pv 6) (pv 7)))) pa_nil)) (pa_cons (pe_callB (cr_sumQ (K := K) rfl rfl) (by rfl) T.sum (by decide +kernel) (pa_cons (pv 4) pa_nil)) pa_nil))))))))), fun gs M r h => run_done (f := f_mean A) ?_ h⟩
  exact (ss_seq (ss_asg (se_call (fun _ _ _ _ h => h) (sa_cons se_var (sa_cons (se_fld (two_cls T.c_Web T.n_Web_many T.c_Spread T.n_Spread_many) se_var) sa_nil))))
  (ss_seq (ss_if (st_test (se_op so_notN se_var se_non)) (ss_seq (ss_if (st_not (st_B (se_call (fun _ _ _ _ h => h) (sa_cons se_var (sa_cons (se_fld (two_cls T.c_Web T.n_Web_many T.c_Spread T.n_Spread_many) se_var) sa_nil))))) ss_raise ss_next)
  (ss_if (st_tru (se_op (so_I0 fun _ _ => .int) (se_cb sc_len (sa_cons se_var sa_nil)) se_int)) (ss_asg (se_call (fun _ _ _ _ h => h) (sa_cons se_var (sa_cons (se_tup (sa_cons se_var sa_nil)) sa_nil)))) ss_next)) ss_next)
  (ss_seq (ss_asg (se_call (fun _ _ _ _ h => h) (sa_cons se_var sa_nil)))
  (ss_seq (ss_asg (se_call (fun _ _ _ _ h => h) (sa_cons se_var (sa_cons (se_fld (two_cls T.c_Web T.n_Web_many T.c_Spread T.n_Spread_many) se_var) sa_nil))))
  (ss_ret (se_call (fun _ _ _ _ h => h) (sa_cons (se_cb sc_sum (sa_cons (se_new (sn_lc (si_zip2 (sa_cons se_var (sa_cons se_var sa_nil))) (sb_row (sbs_cons sb_name (sbs_cons sb_name sbs_nil))) (by decide) st_yes calm_yes (se_op (so_I fun _ _ => .int) se_var se_var))) sa_nil)) (sa_cons (se_cb sc_sum (sa_cons se_var sa_nil)) sa_nil))))))))
theorem sc_l_doubled : FnScope ["_law_pull_here", "_law_found", "_law_due", "_law_pair", "_law_high", "_law_low"] ["_law_pull_here"] (defScope st_l_doubled) := scope_ok rfl rfl rfl (by decide +kernel) rfl (by decide +kernel) (by decide +kernel)
theorem ok_l_doubled (F : Fun K "_law_doubled" "_law_doubled" st_l_doubled f fd) (T : Txt K A mg) {a_double_pull : Addr} {d_double_pull : FuncData} (h_double_pull : DefKS P w K mg base "double_pull" 5 ["pull"] (spOf K (con A (m_double_pull A))) a_double_pull d_double_pull) {a_Web_init : Addr} {d_Web_init : FuncData} (h_Web_init : IniKS P w K mg base (A "Web") 6 ["self", "many", "ties"] (spOf K (con A (m_Web_init A))) a_Web_init d_Web_init) {a_Web_merged : Addr} {d_Web_merged : FuncData} (h_Web_merged : MetKS P w K mg base (A "Web") "merged" 8 ["self"] (spOf K (con A (m_Web_merged A))) a_Web_merged d_Web_merged) {a_mean : Addr} {d_mean : FuncData} {e_mean : List Value} (h_mean : DefKD P w K mg base "mean" [.non] e_mean 5 ["web", "lot", "floor"] (spOf K (con A (m_mean A))) a_mean d_mean) {a_l_is : Addr} {d_l_is : FuncData} (h_l_is : DefKS P w K mg base "_law_is" 3 ["_law_value", "_law_pair"] (spOf K (con A (m_l_is A))) a_l_is d_l_is) {a_square_of_double : Addr} {d_square_of_double : FuncData} (h_square_of_double : DefKS P w K mg base "square_of_double" 5 ["double"] (spOf K (con A (m_square_of_double A))) a_square_of_double d_square_of_double) : FnOk P w K mg base (L2.CX P w) 9 f fd ["_law_pull_here"] (spOf K (con A (m_l_doubled A))) := by
  refine def_okT F sc_l_doubled (fun gs M r h => run_con h) (fun cdv A0 outer s H E hr tk => ?_)
  refine ⟨_, (pss_cons (ps_set (i := 1) sc_l_doubled.nd rfl (.inl rfl) (pe_callS h_double_pull.ok (hr.mono (by decide)) (by rfl) h_double_pull.gm h_double_pull.kp h_double_pull.bd (fun σ => passAt tk σ) (pa_cons (pe_callTy (call_list_ofQ (K := K) rfl) (by rfl) T.list (by decide +kernel) (pa_cons (pv 0) pa_nil)) pa_nil)))
      (pss_cons (ps_set (i := 2) sc_l_doubled.nd rfl (.inl rfl) (pe_tup (pa_cons (pe_op op_mulW (pe_op op_mulW pe_int (pe_ix (ix_seqQ (K := K) rfl) (pv 0) pe_int (fun _ _ => rfl))) (pe_ix (ix_seqQ (K := K) rfl) (pv 0) pe_int (fun _ _ => rfl))) (pa_cons (pe_op op_add (pe_op op_mulW (pe_ix (ix_seqQ (K := K) rfl) (pv 0) pe_int (fun _ _ => rfl)) (pe_ix (ix_seqQ (K := K) rfl) (pv 0) pe_int (fun _ _ => rfl))) (pe_op op_mulW (pe_ix (ix_seqQ (K := K) rfl) (pv 0) pe_int (fun _ _ => rfl)) (pe_ix (ix_seqQ (K := K) rfl) (pv 0) pe_int (fun _ _ => rfl)))) pa_nil))))
      (pss_cons (ps_set (i := 3) sc_l_doubled.nd rfl (.inl rfl) (pe_makeS h_Web_init.make h_Web_init.ok (hr.mono (by decide)) (by rfl) T.g_Web h_Web_init.bd (fun σ => passAt tk σ) (pa_cons pe_int (pa_cons (pe_lst (pa_cons (pe_tup (pa_cons pe_int (pa_cons pe_int (pa_cons (pv 0) pa_nil)))) (pa_cons (pe_tup (pa_cons pe_int (pa_cons pe_int (pa_cons (pv 0) pa_nil)))) pa_nil))) pa_nil))))
      (pss_cons (ps_if (PW.pt (pw_or (pt_not (pt_val (pe_callS h_l_is.ok (hr.mono (by decide)) (by rfl) h_l_is.gm h_l_is.kp h_l_is.bd (fun σ => passAt tk σ) (pa_cons (pv 1) (pa_cons (pv 2) pa_nil))))) (pw_or (pt_cmpR (op_neDQ (K := K) rfl hr.units) (pe_callSD h_mean.ok (hr.mono (by decide)) (by rfl) h_mean.gm h_mean.kp h_mean.bd h_mean.vs (fun σ => passAt tk σ) (pa_cons (pv 3) (pa_cons (pe_tup (pa_cons pe_int (pa_cons pe_int pa_nil))) pa_nil))) (pv 1) (nomark _)) (pw_or1 (pt_cmpR (op_neDQ (K := K) rfl hr.units) (pe_fld (pe_meth0 (pv 3) T.c_Web h_Web_merged.me h_Web_merged.ok (hr.mono (by decide)) h_Web_merged.bd .nil passL) rfl) (pe_fld (pe_meth0 (pe_makeS h_Web_init.make h_Web_init.ok (hr.mono (by decide)) (by rfl) T.g_Web h_Web_init.bd (fun σ => passAt tk σ) (pa_cons pe_int (pa_cons (pe_lst (pa_cons (pe_tup (pa_cons pe_int (pa_cons pe_int (pa_cons (pv 1) pa_nil)))) pa_nil)) pa_nil))) T.c_Web h_Web_merged.me h_Web_merged.ok (hr.mono (by decide)) h_Web_merged.bd .nil passL) rfl) (nomark _)))))) (pss_one (ps_ret pe_bl)) pss_nil)
      (pss_cons (ps_set (i := 4) sc_l_doubled.nd rfl (.inl rfl) (pe_op op_add (pe_ix (ix_seqQ (K := K) rfl) (pv 0) pe_int (fun _ _ => rfl)) (pe_ix (ix_seqQ (K := K) rfl) (pv 0) pe_int (fun _ _ => rfl))))
      (pss_cons (ps_set (i := 5) sc_l_doubled.nd rfl (.inl rfl) (pe_op op_sub (pe_ix (ix_seqQ (K := K) rfl) (pv 0) pe_int (fun _ _ => rfl)) (pe_ix (ix_seqQ (K := K) rfl) (pv 0) pe_int (fun _ _ => rfl))))
      (pss_one (ps_ret (pe_callS h_l_is.ok (hr.mono (by decide)) (by rfl) h_l_is.gm h_l_is.kp h_l_is.bd (fun σ => passAt tk σ) (pa_cons (pe_callS h_square_of_double.ok (hr.mono (by decide)) (by rfl) h_square_of_double.gm h_square_of_double.kp h_square_of_double.bd (fun σ => passAt tk σ) (pa_cons (pv 1) pa_nil)) (pa_cons (pe_tup (pa_cons (pe_op op_mulW (pv 4) (pv 4)) (pa_cons (pe_op op_mulW (pv 5) (pv 5)) pa_nil))) pa_nil))))))))))), fun gs M r h => run_done (f := f_l_doubled A) ?_ h⟩
  exact (ss_seq (ss_asg (se_call (fun _ _ _ _ h => h) (sa_cons (se_new (sn_cb sc_list (sa_cons se_var sa_nil))) sa_nil)))
  (ss_seq (ss_asg (se_tup (sa_cons (se_op (so_I fun _ _ => .int) (se_op (so_I fun _ _ => .int) se_int (se_ix se_var se_int)) (se_ix se_var se_int)) (sa_cons (se_op (so_I0 fun _ _ => .int) (se_op (so_I fun _ _ => .int) (se_ix se_var se_int) (se_ix se_var se_int)) (se_op (so_I fun _ _ => .int) (se_ix se_var se_int) (se_ix se_var se_int))) sa_nil))))
  (ss_seq (ss_asg (se_make (fun _ _ _ _ h => h) (sa_cons se_int (sa_cons (se_new (sn_lst (sa_cons (se_tup (sa_cons se_int (sa_cons se_int (sa_cons se_var sa_nil)))) (sa_cons (se_tup (sa_cons se_int (sa_cons se_int (sa_cons se_var sa_nil)))) sa_nil)))) sa_nil))))
  (ss_seq (ss_if (st_or (st_not (st_B (se_call (fun _ _ _ _ h => h) (sa_cons se_var (sa_cons se_var sa_nil))))) (st_or (st_test (se_op so_neD (se_callD (.cons .non .nil) (fun _ _ _ _ h => h) (sa_cons se_var (sa_cons (se_tup (sa_cons se_int (sa_cons se_int sa_nil))) sa_nil))) se_var)) (st_test (se_op so_neD (se_fld (one_cls T.c_Web T.n_Web_ties) (se_meth se_var sa_nil)) (se_fld (one_cls T.c_Web T.n_Web_ties) (se_meth (se_make (fun _ _ _ _ h => False.elim h) (sa_cons se_int (sa_cons (se_new (sn_lst (sa_cons (se_tup (sa_cons se_int (sa_cons se_int (sa_cons se_var sa_nil)))) sa_nil))) sa_nil))) sa_nil)))))) (ss_ret se_bl) ss_next)
  (ss_seq (ss_asg (se_op (so_I0 fun _ _ => .int) (se_ix se_var se_int) (se_ix se_var se_int)))
  (ss_seq (ss_asg (se_op (so_I0 fun _ _ => .int) (se_ix se_var se_int) (se_ix se_var se_int)))
  (ss_ret (se_call (fun _ _ _ _ h => h) (sa_cons (se_call (fun _ _ _ _ h => h) (sa_cons se_var sa_nil)) (sa_cons (se_tup (sa_cons (se_op (so_I fun _ _ => .int) se_var se_var) (sa_cons (se_op (so_I fun _ _ => .int) se_var se_var) sa_nil))) sa_nil))))))))))
end
end My

set_option Elab.async false
set_option linter.all false
set_option maxRecDepth 100000
set_option maxHeartbeats 4000000
set_option exponentiation.threshold 100000
namespace My
open PySem L2 Lw
section
variable {P : Program} {w : World} {K : PySem.W.Frag} {A : Str → Addr} {mg : Str → Option Value} {base : Heap} {f : Addr} {fd : FuncData}
theorem sc_l_pulls_hold : FnScope ["_law_pulls", "_law_boxes", "_law_due", "_law_told_here", "_law_means", "_law_own", "_law_web", "_law_found", "_law_k", "_law_box", "_law_pull_here"] ["_law_pulls"] (defScope st_l_pulls_hold) := scope_ok rfl rfl rfl (by decide +kernel) rfl (by decide +kernel) (by decide +kernel)
theorem ok_l_pulls_hold (F : Fun K "_law_pulls_hold" "_law_pulls_hold" st_l_pulls_hold f fd) (T : Txt K A mg) {a_l_star_boxes : Addr} {d_l_star_boxes : FuncData} (h_l_star_boxes : DefKS P w K mg base "_law_star_boxes" 3 ["_law_pulls"] (spN K (m_l_star_boxes A)) a_l_star_boxes d_l_star_boxes) {a_triangle_doubles : Addr} {d_triangle_doubles : FuncData} (h_triangle_doubles : DefKS P w K mg base "triangle_doubles" 6 ["t1", "t2", "t3"] (spOf K (con A (m_triangle_doubles A))) a_triangle_doubles d_triangle_doubles) {a_l_three_are : Addr} {d_l_three_are : FuncData} (h_l_three_are : DefKS P w K mg base "_law_three_are" 4 ["_law_found", "_law_due"] (spOf K (con A (m_l_three_are A))) a_l_three_are d_l_three_are) {a_star_means : Addr} {d_star_means : FuncData} (h_star_means : DefKS P w K mg base "star_means" 5 ["t1", "t2", "t3"] (spOf K (con A (m_star_means A))) a_star_means d_star_means) {a_l_times : Addr} {d_l_times : FuncData} (h_l_times : DefKS P w K mg base "_law_times" 1 ["_law_one", "_law_other"] (spOf K (con A (m_l_times A))) a_l_times d_l_times) {a_triangle_squares : Addr} {d_triangle_squares : FuncData} (h_triangle_squares : DefKS P w K mg base "triangle_squares" 7 ["m12", "m13", "m23"] (spOf K (con A (m_triangle_squares A))) a_triangle_squares d_triangle_squares) {a_Web_init : Addr} {d_Web_init : FuncData} (h_Web_init : IniKS P w K mg base (A "Web") 6 ["self", "many", "ties"] (spOf K (con A (m_Web_init A))) a_Web_init d_Web_init) {a_squares : Addr} {d_squares : FuncData} (h_squares : DefKS P w K mg base "squares" 8 ["spread"] (spOf K (con A (m_squares A))) a_squares d_squares) {a_Spread_of p_Spread_of : Addr} {c_Spread_of : Value} (h_Spread_of : CMetKS P w K mg base (A "Spread") "of" 8 (spOf K (con A (m_Spread_of A))) a_Spread_of p_Spread_of c_Spread_of) {a_Spread_left_out : Addr} {d_Spread_left_out : FuncData} (h_Spread_left_out : MetKS P w K mg base (A "Spread") "left_out" 8 ["self", "lot"] (spOf K (con A (m_Spread_left_out A))) a_Spread_left_out d_Spread_left_out) {a_l_is : Addr} {d_l_is : FuncData} (h_l_is : DefKS P w K mg base "_law_is" 3 ["_law_value", "_law_pair"] (spOf K (con A (m_l_is A))) a_l_is d_l_is) {a_square_of_double : Addr} {d_square_of_double : FuncData} (h_square_of_double : DefKS P w K mg base "square_of_double" 5 ["double"] (spOf K (con A (m_square_of_double A))) a_square_of_double d_square_of_double) {a_l_doubled : Addr} {d_l_doubled : FuncData} (h_l_doubled : DefKS P w K mg base "_law_doubled" 9 ["_law_pull_here"] (spOf K (con A (m_l_doubled A))) a_l_doubled d_l_doubled) : FnOk P w K mg base (L2.CX P w) 10 f fd ["_law_pulls"] (spOf K (con A (m_l_pulls_hold A))) := by
  refine def_okT F sc_l_pulls_hold (fun gs M r h => run_con h) (fun cdv A0 outer s H E hr tk => ?_)
  refine ⟨_, (pss_cons (ps_set (i := 1) sc_l_pulls_hold.nd rfl (.inl rfl) (pe_callS h_l_star_boxes.ok (hr.mono (by decide)) (by rfl) h_l_star_boxes.gm h_l_star_boxes.kp h_l_star_boxes.bd (fun σ => passAt tk σ) (pa_cons (pv 0) pa_nil)))
      (pss_cons (ps_setLc (i := 2) (own := [("_law_box", 9)]) (g := (gName 9)) (tt := tYes) rfl sc_l_pulls_hold.nd rfl rfl (sw_true rfl rfl rfl (by decide +kernel)) (pi_anyQ (K := K) rfl (pv 1)) (blkOk_by (own := [("_law_box", 9)]) (N := ["_law_pulls", "_law_boxes", "_law_due", "_law_told_here", "_law_means", "_law_own", "_law_web", "_law_found", "_law_k", "_law_box", "_law_pull_here"]) (sc := defScope st_l_pulls_hold) (by decide +kernel)) (fun _ _ _ _ _ => (pg_name (i := 9) sc_l_pulls_hold.nd rfl (.inl rfl))) (fun _ _ _ _ _ => pts_nil) (fun _ _ _ _ _ => (pe_tup (pa_cons (pe_op op_sub (pe_ix (ix_seqQ (K := K) rfl) (pv 9) pe_int (fun _ _ => rfl)) (pe_ix (ix_seqQ (K := K) rfl) (pv 9) pe_int (fun _ _ => rfl))) (pa_cons (pe_op op_add (pe_ix (ix_seqQ (K := K) rfl) (pv 9) pe_int (fun _ _ => rfl)) (pe_ix (ix_seqQ (K := K) rfl) (pv 9) pe_int (fun _ _ => rfl))) pa_nil)))))
      (pss_cons (ps_set (i := 3) sc_l_pulls_hold.nd rfl (.inl rfl) (pe_callS h_triangle_doubles.ok (hr.mono (by decide)) (by rfl) h_triangle_doubles.gm h_triangle_doubles.kp h_triangle_doubles.bd (fun σ => passAt tk σ) (pa_cons (pe_ix (ix_seqQ (K := K) rfl) (pv 0) pe_int (fun _ _ => rfl)) (pa_cons (pe_callTy (call_list_ofQ (K := K) rfl) (by rfl) T.list (by decide +kernel) (pa_cons (pe_ix (ix_seqQ (K := K) rfl) (pv 0) pe_int (fun _ _ => rfl)) pa_nil)) (pa_cons (pe_ix (ix_seqQ (K := K) rfl) (pv 0) pe_int (fun _ _ => rfl)) pa_nil)))))
      (pss_cons (ps_if (pt_not (pt_val (pe_callS h_l_three_are.ok (hr.mono (by decide)) (by rfl) h_l_three_are.gm h_l_three_are.kp h_l_three_are.bd (fun σ => passAt tk σ) (pa_cons (pv 3) (pa_cons (pv 2) pa_nil))))) (pss_one (ps_ret pe_bl)) pss_nil)
      (pss_cons (ps_set (i := 4) sc_l_pulls_hold.nd rfl (.inl rfl) (pe_callS h_star_means.ok (hr.mono (by decide)) (by rfl) h_star_means.gm h_star_means.kp h_star_means.bd (fun σ => passAt tk σ) (pa_cons (pe_ix (ix_seqQ (K := K) rfl) (pv 0) pe_int (fun _ _ => rfl)) (pa_cons (pe_ix (ix_seqQ (K := K) rfl) (pv 0) pe_int (fun _ _ => rfl)) (pa_cons (pe_callTy (call_list_ofQ (K := K) rfl) (by rfl) T.list (by decide +kernel) (pa_cons (pe_ix (ix_seqQ (K := K) rfl) (pv 0) pe_int (fun _ _ => rfl)) pa_nil)) pa_nil)))))
      (pss_cons (ps_set (i := 5) sc_l_pulls_hold.nd rfl (.inl rfl) (pe_lst (pa_cons (pe_callS h_l_times.ok (hr.mono (by decide)) (by rfl) h_l_times.gm h_l_times.kp h_l_times.bd (fun σ => passAt tk σ) (pa_cons (pe_ix (ix_seqQ (K := K) rfl) (pv 0) pe_int (fun _ _ => rfl)) (pa_cons (pe_ix (ix_seqQ (K := K) rfl) (pv 0) pe_int (fun _ _ => rfl)) pa_nil))) (pa_cons (pe_callS h_l_times.ok (hr.mono (by decide)) (by rfl) h_l_times.gm h_l_times.kp h_l_times.bd (fun σ => passAt tk σ) (pa_cons (pe_ix (ix_seqQ (K := K) rfl) (pv 0) pe_int (fun _ _ => rfl)) (pa_cons (pe_ix (ix_seqQ (K := K) rfl) (pv 0) pe_int (fun _ _ => rfl)) pa_nil))) (pa_cons (pe_callS h_l_times.ok (hr.mono (by decide)) (by rfl) h_l_times.gm h_l_times.kp h_l_times.bd (fun σ => passAt tk σ) (pa_cons (pe_ix (ix_seqQ (K := K) rfl) (pv 0) pe_int (fun _ _ => rfl)) (pa_cons (pe_ix (ix_seqQ (K := K) rfl) (pv 0) pe_int (fun _ _ => rfl)) pa_nil))) pa_nil)))))
      (pss_cons (ps_if (PW.pt (pw_or (pt_not (pt_val (pe_callS h_l_three_are.ok (hr.mono (by decide)) (by rfl) h_l_three_are.gm h_l_three_are.kp h_l_three_are.bd (fun σ => passAt tk σ) (pa_cons (pv 4) (pa_cons (pv 5) pa_nil))))) (pw_or1 (pt_not (pt_val (pe_callS h_l_three_are.ok (hr.mono (by decide)) (by rfl) h_l_three_are.gm h_l_three_are.kp h_l_three_are.bd (fun σ => passAt tk σ) (pa_cons (pe_callS h_triangle_squares.ok (hr.mono (by decide)) (by rfl) h_triangle_squares.gm h_triangle_squares.kp h_triangle_squares.bd (fun σ => passAt tk σ) (pa_cons (pe_ix (ix_seqQ (K := K) rfl) (pv 4) pe_int (fun _ _ => rfl)) (pa_cons (pe_ix (ix_seqQ (K := K) rfl) (pv 4) pe_int (fun _ _ => rfl)) (pa_cons (pe_ix (ix_seqQ (K := K) rfl) (pv 4) pe_int (fun _ _ => rfl)) pa_nil)))) (pa_cons (pv 1) pa_nil)))))))) (pss_one (ps_ret pe_bl)) pss_nil)
      (pss_cons (ps_set (i := 6) sc_l_pulls_hold.nd rfl (.inl rfl) (pe_makeS h_Web_init.make h_Web_init.ok (hr.mono (by decide)) (by rfl) T.g_Web h_Web_init.bd (fun σ => passAt tk σ) (pa_cons pe_int (pa_cons (pe_lc (own := [("_law_k", 8)]) (g := (gName 8)) (tt := tYes) rfl sc_l_pulls_hold.nd (pi_range1 (by rfl) T.range (pa_cons pe_int pa_nil)) (blkOk_by (own := [("_law_k", 8)]) (N := ["_law_pulls", "_law_boxes", "_law_due", "_law_told_here", "_law_means", "_law_own", "_law_web", "_law_found", "_law_k", "_law_box", "_law_pull_here"]) (sc := defScope st_l_pulls_hold) (by decide +kernel)) (fun _ _ _ _ _ => (pg_name (i := 8) sc_l_pulls_hold.nd rfl (.inl rfl))) (fun _ _ _ _ _ => pts_nil) (fun _ _ _ _ _ => (pe_tup (pa_cons pe_int (pa_cons (pe_op op_add (pv 8) pe_int) (pa_cons (pe_ix (ix_seqQ (K := K) rfl) (pv 0) (pv 8) (fun _ _ => rfl)) pa_nil)))))) pa_nil))))
      (pss_cons (ps_set (i := 7) sc_l_pulls_hold.nd rfl (.inl rfl) (pe_callS h_squares.ok (hr.mono (by decide)) (by rfl) h_squares.gm h_squares.kp h_squares.bd (fun σ => passAt tk σ) (pa_cons (pe_meth (ClX.pe_cmeth (pe_glob (v := .ref (A "Spread")) (by rfl) T.g_Spread rfl) h_Spread_of.cr h_Spread_of.cm h_Spread_of.fn (hr.mono (by decide)) passL (pa_cons (pv 6) pa_nil)) T.c_Spread h_Spread_left_out.me h_Spread_left_out.ok (hr.mono (by decide)) h_Spread_left_out.bd .nil passL (pa_cons (pe_tup (pa_cons pe_int pa_nil)) pa_nil)) pa_nil)))
      (pss_cons (ps_for (passes_of rfl) rfl (pi_range1 (by rfl) T.range (pa_cons pe_int pa_nil)) (pg_name (i := 8) sc_l_pulls_hold.nd rfl (.inl rfl)) (pss_one (ps_if (PW.pt (pw_or (pt_cmpR (op_neDQ (K := K) rfl hr.units) (pe_ix (ix_seqQ (K := K) rfl) (pv 7) (pv 8) (fun _ _ => rfl)) (pe_tup (pa_cons (pe_ix (ix_seqQ (K := K) rfl) (pe_lst (pa_cons (pe_tup (pa_cons pe_int (pa_cons pe_int pa_nil))) (pa_cons (pe_tup (pa_cons pe_int (pa_cons pe_int pa_nil))) (pa_cons (pe_tup (pa_cons pe_int (pa_cons pe_int pa_nil))) pa_nil)))) (pv 8) (fun _ _ => rfl)) (pa_cons (pe_callS h_square_of_double.ok (hr.mono (by decide)) (by rfl) h_square_of_double.gm h_square_of_double.kp h_square_of_double.bd (fun σ => passAt tk σ) (pa_cons (pe_ix (ix_seqQ (K := K) rfl) (pv 3) (pv 8) (fun _ _ => rfl)) pa_nil)) pa_nil))) (nomark _)) (pw_or1 (pt_not (pt_val (pe_callS h_l_is.ok (hr.mono (by decide)) (by rfl) h_l_is.gm h_l_is.kp h_l_is.bd (fun σ => passAt tk σ) (pa_cons (pe_ix (ix_seqQ (K := K) rfl) (pe_ix (ix_seqQ (K := K) rfl) (pv 7) (pv 8) (fun _ _ => rfl)) pe_int (fun _ _ => rfl)) (pa_cons (pe_ix (ix_seqQ (K := K) rfl) (pv 1) (pv 8) (fun _ _ => rfl)) pa_nil)))))))) (pss_one (ps_ret pe_bl)) pss_nil)))
      (pss_one (ps_ret (pe_callB (cr_allQ (K := K) rfl rfl) (by rfl) T.all (by decide +kernel) (pa_cons (pe_lc (own := [("_law_pull_here", 10)]) (g := (gName 10)) (tt := tYes) rfl sc_l_pulls_hold.nd (pi_anyQ (K := K) rfl (pv 0)) (blkOk_by (own := [("_law_pull_here", 10)]) (N := ["_law_pulls", "_law_boxes", "_law_due", "_law_told_here", "_law_means", "_law_own", "_law_web", "_law_found", "_law_k", "_law_box", "_law_pull_here"]) (sc := defScope st_l_pulls_hold) (by decide +kernel)) (fun _ _ _ _ _ => (pg_name (i := 10) sc_l_pulls_hold.nd rfl (.inl rfl))) (fun _ _ _ _ _ => pts_nil) (fun _ _ _ _ _ => (pe_callS h_l_doubled.ok (hr.mono (by decide)) (by rfl) h_l_doubled.gm h_l_doubled.kp h_l_doubled.bd (fun σ => passAt takes0 σ) (pa_cons (pv 10) pa_nil)))) pa_nil)))))))))))))), fun gs M r h => run_done (f := f_l_pulls_hold A) ?_ h⟩
  exact (ss_seq (ss_asg (se_new (sn_call (sa_cons se_var sa_nil))))
  (ss_seq (ss_asg (se_new (sn_lc (si_any se_var) sb_name (by decide) st_yes calm_yes (se_tup (sa_cons (se_op (so_I0 fun _ _ => .int) (se_ix se_var se_int) (se_ix se_var se_int)) (sa_cons (se_op (so_I0 fun _ _ => .int) (se_ix se_var se_int) (se_ix se_var se_int)) sa_nil))))))
  (ss_seq (ss_asg (se_call (fun _ _ _ _ h => h) (sa_cons (se_ix se_var se_int) (sa_cons (se_new (sn_cb sc_list (sa_cons (se_ix se_var se_int) sa_nil))) (sa_cons (se_ix se_var se_int) sa_nil)))))
  (ss_seq (ss_if (st_not (st_B (se_call (fun _ _ _ _ h => h) (sa_cons se_var (sa_cons se_var sa_nil))))) (ss_ret se_bl) ss_next)
  (ss_seq (ss_asg (se_call (fun _ _ _ _ h => h) (sa_cons (se_ix se_var se_int) (sa_cons (se_ix se_var se_int) (sa_cons (se_new (sn_cb sc_list (sa_cons (se_ix se_var se_int) sa_nil))) sa_nil)))))
  (ss_seq (ss_asg (se_new (sn_lst (sa_cons (se_call (fun _ _ _ _ h => h) (sa_cons (se_ix se_var se_int) (sa_cons (se_ix se_var se_int) sa_nil))) (sa_cons (se_call (fun _ _ _ _ h => h) (sa_cons (se_ix se_var se_int) (sa_cons (se_ix se_var se_int) sa_nil))) (sa_cons (se_call (fun _ _ _ _ h => h) (sa_cons (se_ix se_var se_int) (sa_cons (se_ix se_var se_int) sa_nil))) sa_nil))))))
  (ss_seq (ss_if (st_or (st_not (st_B (se_call (fun _ _ _ _ h => h) (sa_cons se_var (sa_cons se_var sa_nil))))) (st_not (st_B (se_call (fun _ _ _ _ h => h) (sa_cons (se_call (fun _ _ _ _ h => h) (sa_cons (se_ix se_var se_int) (sa_cons (se_ix se_var se_int) (sa_cons (se_ix se_var se_int) sa_nil)))) (sa_cons se_var sa_nil)))))) (ss_ret se_bl) ss_next)
  (ss_seq (ss_asg (se_make (fun _ _ _ _ h => h) (sa_cons se_int (sa_cons (se_new (sn_lc (si_rng1 (sa_cons se_int sa_nil)) sb_name (by decide) st_yes calm_yes (se_tup (sa_cons se_int (sa_cons (se_op (so_I0 fun _ _ => .int) se_var se_int) (sa_cons (se_ix se_var se_var) sa_nil)))))) sa_nil))))
  (ss_seq (ss_asg (se_call (fun _ _ _ _ h => h) (sa_cons (se_meth (se_cmeth (sa_cons se_var sa_nil)) (sa_cons (se_tup (sa_cons se_int sa_nil)) sa_nil)) sa_nil)))
  (ss_seq (ss_for (si_rng1 (sa_cons se_int sa_nil)) sb_name (ss_if (st_or (st_test (se_op so_neD (se_ix se_var se_var) (se_tup (sa_cons (se_ix (se_new (sn_lst (sa_cons (se_tup (sa_cons se_int (sa_cons se_int sa_nil))) (sa_cons (se_tup (sa_cons se_int (sa_cons se_int sa_nil))) (sa_cons (se_tup (sa_cons se_int (sa_cons se_int sa_nil))) sa_nil))))) se_var) (sa_cons (se_call (fun _ _ _ _ h => h) (sa_cons (se_ix se_var se_var) sa_nil)) sa_nil))))) (st_not (st_B (se_call (fun _ _ _ _ h => h) (sa_cons (se_ix (se_ix se_var se_var) se_int) (sa_cons (se_ix se_var se_var) sa_nil)))))) (ss_ret se_bl) ss_next))
  (ss_ret (se_cb sc_all (sa_cons (se_new (sn_lc (si_any se_var) sb_name (by decide) st_yes calm_yes (se_call (fun _ _ _ _ h => False.elim h) (sa_cons se_var sa_nil)))) sa_nil)))))))))))))
theorem sc_law : FnScope ["_law_script", "_law_draws_here", "_law_sort", "_law_pulls", "_law_due", "_law_at", "_law_turned", "_law_found", "_law_k", "_law_sign", "_law_fresh"] ["_law_script"] (defScope st_law) := scope_ok rfl rfl rfl (by decide +kernel) rfl (by decide +kernel) (by decide +kernel)
theorem ok_law (F : Fun K "law" "law" st_law f fd) (T : Txt K A mg) {a_l_draws : Addr} {d_l_draws : FuncData} (h_l_draws : DefKS P w K mg base "_law_draws" 1 ["_law_script"] (spN K (m_l_draws A)) a_l_draws d_l_draws) {a_l_take : Addr} {d_l_take : FuncData} (h_l_take : DefKS P w K mg base "_law_take" 1 ["_law_draws_here", "_law_many"] (spOf K (con A (m_l_take A))) a_l_take d_l_take) {a_l_pull : Addr} {d_l_pull : FuncData} (h_l_pull : DefKS P w K mg base "_law_pull" 2 ["_law_draws_here", "_law_sort"] (spOf K (con A (m_l_pull A))) a_l_pull d_l_pull) {a_l_refused : Addr} {d_l_refused : FuncData} (h_l_refused : DefKS P w K mg base "_law_refused" 8 ["_law_row"] (spOf K (con A (m_l_refused A))) a_l_refused d_l_refused) {a_l_pulls_hold : Addr} {d_l_pulls_hold : FuncData} (h_l_pulls_hold : DefKS P w K mg base "_law_pulls_hold" 10 ["_law_pulls"] (spOf K (con A (m_l_pulls_hold A))) a_l_pulls_hold d_l_pulls_hold) {a_triangle_doubles : Addr} {d_triangle_doubles : FuncData} (h_triangle_doubles : DefKS P w K mg base "triangle_doubles" 6 ["t1", "t2", "t3"] (spOf K (con A (m_triangle_doubles A))) a_triangle_doubles d_triangle_doubles) {a_l_three_are : Addr} {d_l_three_are : FuncData} (h_l_three_are : DefKS P w K mg base "_law_three_are" 4 ["_law_found", "_law_due"] (spOf K (con A (m_l_three_are A))) a_l_three_are d_l_three_are) {a_l_is : Addr} {d_l_is : FuncData} (h_l_is : DefKS P w K mg base "_law_is" 3 ["_law_value", "_law_pair"] (spOf K (con A (m_l_is A))) a_l_is d_l_is) : FnOk P w K mg base (L2.CX P w) 11 f fd ["_law_script"] (spOf K (con A (m_law A))) := by
  refine def_okT F sc_law (fun gs M r h => run_con h) (fun cdv A0 outer s H E hr tk => ?_)
  refine ⟨_, (pss_cons (ps_set (i := 1) sc_law.nd rfl (.inr rfl) (pe_callS h_l_draws.ok (hr.mono (by decide)) (by rfl) h_l_draws.gm h_l_draws.kp h_l_draws.bd (fun σ => passAt tk σ) (pa_cons (pv 0) pa_nil)))
      (pss_cons (ps_set (i := 2) sc_law.nd rfl (.inr rfl) (pe_ix (ix_seqQ (K := K) rfl) (pe_lst (pa_cons pe_str (pa_cons pe_str pa_nil))) (pe_callS h_l_take.ok (hr.mono (by decide)) (by rfl) h_l_take.gm h_l_take.kp h_l_take.bd (fun σ => passAt tk σ) (pa_cons (pv 1) (pa_cons pe_int pa_nil))) (fun _ _ => rfl)))
      (pss_cons (ps_setLcX (i := 3) (own := [("_law_k", 8)]) (g := (gName 8)) (tt := tYes) rfl rfl tk rfl sc_law.nd rfl rfl (sw_true rfl rfl rfl (by decide +kernel)) (pi_range1 (by rfl) T.range (pa_cons pe_int pa_nil)) (blkOk_by (own := [("_law_k", 8)]) (N := ["_law_script", "_law_draws_here", "_law_sort", "_law_pulls", "_law_due", "_law_at", "_law_turned", "_law_found", "_law_k", "_law_sign", "_law_fresh"]) (sc := defScope st_law) (by decide +kernel)) (fun _ _ _ _ _ _ => (pg_name (i := 8) sc_law.nd rfl (.inl rfl))) (fun _ _ _ _ _ _ => pts_nil) (fun _ _ _ _ _ _ => (pe_callS h_l_pull.ok (hr.mono (by decide)) (by rfl) h_l_pull.gm h_l_pull.kp h_l_pull.bd (fun _ => fx_pass) (pa_cons (pv 1) (pa_cons (pv 2) pa_nil)))))
      (pss_cons (ps_if (PW.pt (pw_or (pt_not (pt_val (pe_callS h_l_pulls_hold.ok (hr.mono (by decide)) (by rfl) h_l_pulls_hold.gm h_l_pulls_hold.kp h_l_pulls_hold.bd (fun σ => passAt tk σ) (pa_cons (pv 3) pa_nil)))) (pw_or1 (pt_not (pt_val (pe_callS h_l_refused.ok (hr.mono (by decide)) (by rfl) h_l_refused.gm h_l_refused.kp h_l_refused.bd (fun σ => passAt tk σ) (pa_cons (pv 3) pa_nil))))))) (pss_one (ps_ret pe_bl)) pss_nil)
      (pss_cons (ps_set (i := 4) sc_law.nd rfl (.inl rfl) (pe_callS h_triangle_doubles.ok (hr.mono (by decide)) (by rfl) h_triangle_doubles.gm h_triangle_doubles.kp h_triangle_doubles.bd (fun σ => passAt tk σ) (pa_cons (pe_ix (ix_seqQ (K := K) rfl) (pv 3) pe_int (fun _ _ => rfl)) (pa_cons (pe_ix (ix_seqQ (K := K) rfl) (pv 3) pe_int (fun _ _ => rfl)) (pa_cons (pe_ix (ix_seqQ (K := K) rfl) (pv 3) pe_int (fun _ _ => rfl)) pa_nil)))))
      (pss_cons (ps_if (pt_not (pt_val (pe_callS h_l_three_are.ok (hr.mono (by decide)) (by rfl) h_l_three_are.gm h_l_three_are.kp h_l_three_are.bd (fun σ => passAt tk σ) (pa_cons (pe_callS h_triangle_doubles.ok (hr.mono (by decide)) (by rfl) h_triangle_doubles.gm h_triangle_doubles.kp h_triangle_doubles.bd (fun σ => passAt tk σ) (pa_cons (pe_ix (ix_seqQ (K := K) rfl) (pv 3) pe_int (fun _ _ => rfl)) (pa_cons (pe_ix (ix_seqQ (K := K) rfl) (pv 3) pe_int (fun _ _ => rfl)) (pa_cons (pe_ix (ix_seqQ (K := K) rfl) (pv 3) pe_int (fun _ _ => rfl)) pa_nil)))) (pa_cons (pe_lst (pa_cons (pe_ix (ix_seqQ (K := K) rfl) (pv 4) pe_int (fun _ _ => rfl)) (pa_cons (pe_ix (ix_seqQ (K := K) rfl) (pv 4) pe_int (fun _ _ => rfl)) (pa_cons (pe_ix (ix_seqQ (K := K) rfl) (pv 4) pe_int (fun _ _ => rfl)) pa_nil)))) pa_nil))))) (pss_one (ps_ret pe_bl)) pss_nil)
      (pss_cons (ps_set (i := 5) sc_law.nd rfl (.inl rfl) (pe_callS h_l_take.ok (hr.mono (by decide)) (by rfl) h_l_take.gm h_l_take.kp h_l_take.bd (fun σ => passAt tk σ) (pa_cons (pv 1) (pa_cons pe_int pa_nil))))
      (pss_cons (ps_set (i := 6) sc_law.nd rfl (.inl rfl) (pe_callTy (call_list_ofQ (K := K) rfl) (by rfl) T.list (by decide +kernel) (pa_cons (pv 3) pa_nil)))
      (pss_cons (ps_asg (pe_tup (pa_cons (pe_un un_neg (pe_ix (ix_seqQ (K := K) rfl) (pe_ix (ix_seqQ (K := K) rfl) (pv 3) (pv 5) (fun _ _ => rfl)) pe_int (fun _ _ => rfl))) (pa_cons (pe_ix (ix_seqQ (K := K) rfl) (pe_ix (ix_seqQ (K := K) rfl) (pv 3) (pv 5) (fun _ _ => rfl)) pe_int (fun _ _ => rfl)) pa_nil))) (pg_sub (pv 6) (pv 5) set_list))
      (pss_cons (ps_set (i := 7) sc_law.nd rfl (.inl rfl) (pe_callS h_triangle_doubles.ok (hr.mono (by decide)) (by rfl) h_triangle_doubles.gm h_triangle_doubles.kp h_triangle_doubles.bd (fun σ => passAt tk σ) (pa_cons (pe_ix (ix_seqQ (K := K) rfl) (pv 6) pe_int (fun _ _ => rfl)) (pa_cons (pe_ix (ix_seqQ (K := K) rfl) (pv 6) pe_int (fun _ _ => rfl)) (pa_cons (pe_ix (ix_seqQ (K := K) rfl) (pv 6) pe_int (fun _ _ => rfl)) pa_nil)))))
      (pss_cons (ps_for (passes_of rfl) rfl (pi_range1 (by rfl) T.range (pa_cons pe_int pa_nil)) (pg_name (i := 8) sc_law.nd rfl (.inl rfl)) (pss_cons (ps_set (i := 9) sc_law.nd rfl (.inl rfl) pe_int)
      (pss_cons (ps_if (pt_cmpR (op_in_seqQ (K := K) rfl) (pv 5) (pe_ix (ix_seqQ (K := K) rfl) (pe_lst (pa_cons (pe_tup (pa_cons pe_int (pa_cons pe_int pa_nil))) (pa_cons (pe_tup (pa_cons pe_int (pa_cons pe_int pa_nil))) (pa_cons (pe_tup (pa_cons pe_int (pa_cons pe_int pa_nil))) pa_nil)))) (pv 8) (fun _ _ => rfl)) rfl) (pss_one (ps_set (i := 9) sc_law.nd rfl (.inl rfl) (pe_un un_neg pe_int))) pss_nil)
      (pss_one (ps_if (pt_not (pt_val (pe_callS h_l_is.ok (hr.mono (by decide)) (by rfl) h_l_is.gm h_l_is.kp h_l_is.bd (fun σ => passAt tk σ) (pa_cons (pe_ix (ix_seqQ (K := K) rfl) (pv 7) (pv 8) (fun _ _ => rfl)) (pa_cons (pe_tup (pa_cons (pe_op op_mulW (pv 9) (pe_ix (ix_seqQ (K := K) rfl) (pe_ix (ix_seqQ (K := K) rfl) (pv 4) (pv 8) (fun _ _ => rfl)) pe_int (fun _ _ => rfl))) (pa_cons (pe_ix (ix_seqQ (K := K) rfl) (pe_ix (ix_seqQ (K := K) rfl) (pv 4) (pv 8) (fun _ _ => rfl)) pe_int (fun _ _ => rfl)) pa_nil))) pa_nil))))) (pss_one (ps_ret pe_bl)) pss_nil)))))
      (pss_cons (ps_setLcX (i := 10) (own := [("_law_k", 8)]) (g := (gName 8)) (tt := tYes) rfl rfl tk rfl sc_law.nd rfl rfl (sw_true rfl rfl rfl (by decide +kernel)) (pi_range1 (by rfl) T.range (pa_cons pe_int pa_nil)) (blkOk_by (own := [("_law_k", 8)]) (N := ["_law_script", "_law_draws_here", "_law_sort", "_law_pulls", "_law_due", "_law_at", "_law_turned", "_law_found", "_law_k", "_law_sign", "_law_fresh"]) (sc := defScope st_law) (by decide +kernel)) (fun _ _ _ _ _ _ => (pg_name (i := 8) sc_law.nd rfl (.inl rfl))) (fun _ _ _ _ _ _ => pts_nil) (fun _ _ _ _ _ _ => (pe_callS h_l_pull.ok (hr.mono (by decide)) (by rfl) h_l_pull.gm h_l_pull.kp h_l_pull.bd (fun _ => fx_pass) (pa_cons (pv 1) (pa_cons pe_str pa_nil)))))
      (pss_one (ps_ret (pe_and (pe_callS h_l_pulls_hold.ok (hr.mono (by decide)) (by rfl) h_l_pulls_hold.gm h_l_pulls_hold.kp h_l_pulls_hold.bd (fun σ => passAt tk σ) (pa_cons (pv 10) pa_nil)) (pe_one (pe_callS h_l_three_are.ok (hr.mono (by decide)) (by rfl) h_l_three_are.gm h_l_three_are.kp h_l_three_are.bd (fun σ => passAt tk σ) (pa_cons (pe_callS h_triangle_doubles.ok (hr.mono (by decide)) (by rfl) h_triangle_doubles.gm h_triangle_doubles.kp h_triangle_doubles.bd (fun σ => passAt tk σ) (pa_cons (pe_ix (ix_seqQ (K := K) rfl) (pv 3) pe_int (fun _ _ => rfl)) (pa_cons (pe_ix (ix_seqQ (K := K) rfl) (pv 3) pe_int (fun _ _ => rfl)) (pa_cons (pe_ix (ix_seqQ (K := K) rfl) (pv 3) pe_int (fun _ _ => rfl)) pa_nil)))) (pa_cons (pv 4) pa_nil))))))))))))))))))), fun gs M r h => run_done (f := f_law A) ?_ h⟩
  exact (ss_seq (ss_asgN (sn_call (sa_cons se_var sa_nil)))
  (ss_seq (ss_asg (se_ix (se_new (sn_lst (sa_cons se_str (sa_cons se_str sa_nil)))) (se_call (fun _ _ _ _ h => h) (sa_cons se_var (sa_cons se_int sa_nil)))))
  (ss_seq (ss_asg (se_new (sn_lcX (si_rng1 (sa_cons se_int sa_nil)) sb_name (by decide) st_yes calm_yes (fun _ => (se_call (fun _ _ _ _ h => h) (sa_cons se_var (sa_cons se_var sa_nil)))))))
  (ss_seq (ss_if (st_or (st_not (st_B (se_call (fun _ _ _ _ h => h) (sa_cons se_var sa_nil)))) (st_not (st_B (se_call (fun _ _ _ _ h => h) (sa_cons se_var sa_nil))))) (ss_ret se_bl) ss_next)
  (ss_seq (ss_asg (se_call (fun _ _ _ _ h => h) (sa_cons (se_ix se_var se_int) (sa_cons (se_ix se_var se_int) (sa_cons (se_ix se_var se_int) sa_nil)))))
  (ss_seq (ss_if (st_not (st_B (se_call (fun _ _ _ _ h => h) (sa_cons (se_call (fun _ _ _ _ h => h) (sa_cons (se_ix se_var se_int) (sa_cons (se_ix se_var se_int) (sa_cons (se_ix se_var se_int) sa_nil)))) (sa_cons (se_new (sn_lst (sa_cons (se_ix se_var se_int) (sa_cons (se_ix se_var se_int) (sa_cons (se_ix se_var se_int) sa_nil))))) sa_nil))))) (ss_ret se_bl) ss_next)
  (ss_seq (ss_asg (se_call (fun _ _ _ _ h => h) (sa_cons se_var (sa_cons se_int sa_nil))))
  (ss_seq (ss_asgN (sn_cb sc_list (sa_cons se_var sa_nil)))
  (ss_seq (ss_setL se_var (se_tup (sa_cons (se_un (fun _ => .int) (se_ix (se_ix se_var se_var) se_int)) (sa_cons (se_ix (se_ix se_var se_var) se_int) sa_nil))))
  (ss_frz (ss_seq (ss_asg (se_call (fun _ _ _ _ h => h) (sa_cons (se_ix se_var se_int) (sa_cons (se_ix se_var se_int) (sa_cons (se_ix se_var se_int) sa_nil)))))
  (ss_seq (ss_for (si_rng1 (sa_cons se_int sa_nil)) sb_name (ss_seq (ss_asg se_int)
  (ss_seq (ss_if (st_test (se_op so_in se_var (se_ix (se_new (sn_lst (sa_cons (se_tup (sa_cons se_int (sa_cons se_int sa_nil))) (sa_cons (se_tup (sa_cons se_int (sa_cons se_int sa_nil))) (sa_cons (se_tup (sa_cons se_int (sa_cons se_int sa_nil))) sa_nil))))) se_var))) (ss_asg (se_un (fun _ => .int) se_int)) ss_next)
  (ss_if (st_not (st_B (se_call (fun _ _ _ _ h => h) (sa_cons (se_ix se_var se_var) (sa_cons (se_tup (sa_cons (se_op (so_I fun _ _ => .int) se_var (se_ix (se_ix se_var se_var) se_int)) (sa_cons (se_ix (se_ix se_var se_var) se_int) sa_nil))) sa_nil))))) (ss_ret se_bl) ss_next))))
  (ss_seq (ss_asg (se_new (sn_lcX (si_rng1 (sa_cons se_int sa_nil)) sb_name (by decide) st_yes calm_yes (fun _ => (se_call (fun _ _ _ _ h => h) (sa_cons se_var (sa_cons se_str sa_nil)))))))
  (ss_ret (se_and (se_call (fun _ _ _ _ h => h) (sa_cons se_var sa_nil)) (se_call (fun _ _ _ _ h => h) (sa_cons (se_call (fun _ _ _ _ h => h) (sa_cons (se_ix se_var se_int) (sa_cons (se_ix se_var se_int) (sa_cons (se_ix se_var se_int) sa_nil)))) (sa_cons se_var sa_nil))))))))))))))))))
end
end My

section
set_option Elab.async false
set_option linter.all false
set_option maxRecDepth 100000
set_option maxHeartbeats 0
namespace My
open PySem L2 Lw PySem.Spec PyProof.Rows
def adr0 (K : Fg) : Str → Addr := fun x => ga K x
theorem txt {K : Fg} {h : Heap} {mg : Str → Option Value} (X : K.In h) (G : h.Ns mainGlobals mg) (c : SaysX fa fn K) : Txt K (adr0 K) mg :=
  ⟨He.free_ok X G (c.fact 0),
    He.free_ok X G (c.fact 1),
    He.free_ok X G (c.fact 2),
    He.free_ok X G (c.fact 3),
    He.free_ok X G (c.fact 4),
    He.free_ok X G (c.fact 5),
    He.free_ok X G (c.fact 6),
    He.free_ok X G (c.fact 7),
    He.free_ok X G (c.fact 8),
    He.free_ok X G (c.fact 9),
    He.free_ok X G (c.fact 10),
    He.free_ok X G (c.fact 11),
    He.free_ok X G (c.fact 12),
    He.free_ok X G (c.fact 13),
    He.free_ok X G (c.fact 14),
    He.free_ok X G (c.fact 15),
    He.free_ok X G (c.fact 16),
    faB_ok X G (c.fact 17),
    faB_ok X G (c.fact 18),
    He.int_ok X G (c.fact 19),
    He.int_ok X G (c.fact 20),
    faE_ok X G (c.fact 36) (c.fact 23),
    faE_ok X G (c.fact 37) (c.fact 27),
    faE_ok X G (c.fact 38) (c.fact 24),
    faE_ok X G (c.fact 39) (c.fact 22),
    faE_ok X G (c.fact 40) (c.fact 28),
    He.glo_ok X G (c.fact 21),
    He.glo_ok X G (c.fact 22),
    He.glo_ok X G (c.fact 23),
    He.glo_ok X G (c.fact 24),
    He.glo_ok X G (c.fact 25),
    He.glo_ok X G (c.fact 26),
    He.glo_ok X G (c.fact 27),
    He.glo_ok X G (c.fact 28),
    He.glo_ok X G (c.fact 29),
    He.glo_ok X G (c.fact 30),
    He.glo_ok X G (c.fact 31),
    He.glo_ok X G (c.fact 32),
    He.glo_ok X G (c.fact 33),
    He.glo_ok X G (c.fact 34),
    He.cls_ok (c.fact 41),
    He.noat_ok (c.fact 42),
    He.noat_ok (c.fact 43),
    faC_ok (c.fact 44),
    faC_ok (c.fact 45),
    He.glo_ok X G (c.fact 35),
    He.cls_ok (c.fact 46),
    He.noat_ok (c.fact 47),
    He.noat_ok (c.fact 48),
    exm_tab (c.fact 49)⟩
theorem facts {P : Program} {w : World} {K : Fg} {h : Heap} {mg : Str → Option Value} {f : Addr} (X : K.In h) (G : h.Ns mainGlobals mg) (hfa : mg ("law" : Str) = some (.ref f)) (c : SaysX fa fn K) :
    ∃ fd : FuncData, (∀ (s : Shared) (v : Value), BindsTo s fd ⟨[v], []⟩ [("script", v)] ∨ True) ∧ (∀ (s : Shared) (v : Value), BindsTo s fd ⟨[v], []⟩ [("_law_script", v)]) ∧ ∀ base : Heap, FnOk P w K mg base (L2.CX P w) 11 f fd ["_law_script"] (spOf K (con (adr0 K) (m_law (adr0 K)))) := by
  have T := txt X G c
  obtain ⟨d_l_draws, F_l_draws⟩ := c.def_ 0
  obtain ⟨d_l_take, F_l_take⟩ := c.def_ 1
  obtain ⟨d_l_pull, F_l_pull⟩ := c.def_ 2
  obtain ⟨d_is_integer, F_is_integer⟩ := c.def_ 3
  obtain ⟨d_is_row, F_is_row⟩ := c.def_ 4
  obtain ⟨d_is_ratio, F_is_ratio⟩ := c.def_ 5
  obtain ⟨d_lowest, F_lowest⟩ := c.def_ 6
  obtain ⟨d_ratio_of, F_ratio_of⟩ := c.def_ 7
  obtain ⟨d_pull_of, F_pull_of⟩ := c.def_ 8
  obtain ⟨d_times, F_times⟩ := c.def_ 9
  obtain ⟨d_star_means, F_star_means⟩ := c.def_ 10
  obtain ⟨d_minus, F_minus⟩ := c.def_ 11
  obtain ⟨d_over, F_over⟩ := c.def_ 12
  obtain ⟨d_plus, F_plus⟩ := c.def_ 13
  obtain ⟨d_double_at, F_double_at⟩ := c.def_ 14
  obtain ⟨d_triangle_doubles, F_triangle_doubles⟩ := c.def_ 15
  obtain ⟨d_double_pull, F_double_pull⟩ := c.def_ 16
  obtain ⟨d_square_of_double, F_square_of_double⟩ := c.def_ 17
  obtain ⟨d_l_told, F_l_told⟩ := c.def_ 18
  obtain ⟨d_l_refused, F_l_refused⟩ := c.def_ 19
  obtain ⟨d_l_no, F_l_no⟩ := c.def_ 20
  obtain ⟨d_l_weights, F_l_weights⟩ := c.def_ 21
  obtain ⟨d_l_star_boxes, F_l_star_boxes⟩ := c.def_ 22
  obtain ⟨d_l_int, F_l_int⟩ := c.def_ 23
  obtain ⟨d_l_common, F_l_common⟩ := c.def_ 24
  obtain ⟨d_l_ratio, F_l_ratio⟩ := c.def_ 25
  obtain ⟨d_l_is, F_l_is⟩ := c.def_ 26
  obtain ⟨d_l_three_are, F_l_three_are⟩ := c.def_ 27
  obtain ⟨d_l_times, F_l_times⟩ := c.def_ 28
  obtain ⟨d_over_common, F_over_common⟩ := c.def_ 29
  obtain ⟨d_sum_of, F_sum_of⟩ := c.def_ 30
  obtain ⟨d_sums_of_three, F_sums_of_three⟩ := c.def_ 31
  obtain ⟨d_sign_of, F_sign_of⟩ := c.def_ 32
  obtain ⟨d_sums_above, F_sums_above⟩ := c.def_ 33
  obtain ⟨d_triangle_squares, F_triangle_squares⟩ := c.def_ 34
  obtain ⟨d_count_of, F_count_of⟩ := c.def_ 35
  obtain ⟨d_is_place, F_is_place⟩ := c.def_ 36
  obtain ⟨d_tie_of, F_tie_of⟩ := c.def_ 37
  obtain ⟨d_ties_of, F_ties_of⟩ := c.def_ 38
  obtain ⟨d_Web_init, F_Web_init⟩ := c.def_ 39
  obtain ⟨d_pairs_of, F_pairs_of⟩ := c.def_ 40
  obtain ⟨d_is_saying, F_is_saying⟩ := c.def_ 41
  obtain ⟨d_saying_of, F_saying_of⟩ := c.def_ 42
  obtain ⟨d_changed, F_changed⟩ := c.def_ 43
  obtain ⟨d_index_of_no, F_index_of_no⟩ := c.def_ 44
  obtain ⟨d_index_of, F_index_of⟩ := c.def_ 45
  obtain ⟨d_Spread_chance, F_Spread_chance⟩ := c.def_ 46
  obtain ⟨d_Spread_box, F_Spread_box⟩ := c.def_ 47
  obtain ⟨d_sayings, F_sayings⟩ := c.def_ 48
  obtain ⟨d_unlike_saying, F_unlike_saying⟩ := c.def_ 49
  obtain ⟨d_unlike_boxes, F_unlike_boxes⟩ := c.def_ 50
  obtain ⟨d_squares, F_squares⟩ := c.def_ 51
  obtain ⟨d_signs_of, F_signs_of⟩ := c.def_ 52
  obtain ⟨d_distinct_numbers, F_distinct_numbers⟩ := c.def_ 53
  obtain ⟨d_joined, F_joined⟩ := c.def_ 54
  obtain ⟨d_weight_tops, F_weight_tops⟩ := c.def_ 55
  obtain ⟨d_places_told, F_places_told⟩ := c.def_ 56
  obtain ⟨d_chances_of, F_chances_of⟩ := c.def_ 57
  obtain ⟨d_Spread_init, F_Spread_init⟩ := c.def_ 58
  obtain ⟨d_Spread_of, F_Spread_of⟩ := c.def_ 59
  obtain ⟨d_lot_of, F_lot_of⟩ := c.def_ 60
  obtain ⟨d_Spread_left_out, F_Spread_left_out⟩ := c.def_ 61
  obtain ⟨d_merged_pull, F_merged_pull⟩ := c.def_ 62
  obtain ⟨d_Web_merged, F_Web_merged⟩ := c.def_ 63
  obtain ⟨d_mean, F_mean⟩ := c.def_ 64
  obtain ⟨d_l_doubled, F_l_doubled⟩ := c.def_ 65
  obtain ⟨d_l_pulls_hold, F_l_pulls_hold⟩ := c.def_ 66
  obtain ⟨d_law, F_law⟩ := c.def_ 67
  have e := hfa.symm.trans (He.glo_ok X G (c.fact 117))
  cases e
  refine ⟨d_law, fun s v => .inr trivial, fun s v => ?_, fun base => ?_⟩
  · exact FunD.bindsA (ps := ["_law_script"]) F_law (fun _ _ _ _ _ _ us hl => match us, hl with | [_], _ => rfl) s [v] rfl
  · have h_l_draws := DefKS.mk (He.glo_ok X G (c.fact 50)) (ok_l_draws (P := P) (w := w) (base := base) (funOf F_l_draws) T ) F_l_draws.kp (bd_plain F_l_draws fun _ _ _ _ _ _ us hl => match us, hl with | [_], _ => rfl)
    have h_l_take := DefKS.mk (He.glo_ok X G (c.fact 51)) (ok_l_take (P := P) (w := w) (base := base) (funOf F_l_take) T ) F_l_take.kp (bd_plain F_l_take fun _ _ _ _ _ _ us hl => match us, hl with | [_, _], _ => rfl)
    have h_l_pull := DefKS.mk (He.glo_ok X G (c.fact 52)) (ok_l_pull (P := P) (w := w) (base := base) (funOf F_l_pull) T h_l_take) F_l_pull.kp (bd_plain F_l_pull fun _ _ _ _ _ _ us hl => match us, hl with | [_, _], _ => rfl)
    have h_is_integer := DefKS.mk (He.glo_ok X G (c.fact 53)) (ok_is_integer (P := P) (w := w) (base := base) (funOf F_is_integer) T ) F_is_integer.kp (bd_plain F_is_integer fun _ _ _ _ _ _ us hl => match us, hl with | [_], _ => rfl)
    have h_is_row := DefKS.mk (He.glo_ok X G (c.fact 54)) (ok_is_row (P := P) (w := w) (base := base) (funOf F_is_row) T ) F_is_row.kp (bd_plain F_is_row fun _ _ _ _ _ _ us hl => match us, hl with | [_], _ => rfl)
    have h_is_ratio := DefKS.mk (He.glo_ok X G (c.fact 55)) (ok_is_ratio (P := P) (w := w) (base := base) (funOf F_is_ratio) T h_is_integer h_is_row) F_is_ratio.kp (bd_plain F_is_ratio fun _ _ _ _ _ _ us hl => match us, hl with | [_], _ => rfl)
    have h_lowest := DefKS.mk (He.glo_ok X G (c.fact 56)) (ok_lowest (P := P) (w := w) (base := base) (funOf F_lowest) T ) F_lowest.kp (bd_plain F_lowest fun _ _ _ _ _ _ us hl => match us, hl with | [_, _], _ => rfl)
    have h_ratio_of := DefKS.mk (He.glo_ok X G (c.fact 57)) (ok_ratio_of (P := P) (w := w) (base := base) (funOf F_ratio_of) T h_is_ratio h_is_integer h_lowest) F_ratio_of.kp (bd_plain F_ratio_of fun _ _ _ _ _ _ us hl => match us, hl with | [_], _ => rfl)
    have h_pull_of := DefKS.mk (He.glo_ok X G (c.fact 58)) (ok_pull_of (P := P) (w := w) (base := base) (funOf F_pull_of) T h_ratio_of) F_pull_of.kp (bd_plain F_pull_of fun _ _ _ _ _ _ us hl => match us, hl with | [_], _ => rfl)
    have h_times := DefKS.mk (He.glo_ok X G (c.fact 59)) (ok_times (P := P) (w := w) (base := base) (funOf F_times) T h_ratio_of h_lowest) F_times.kp (bd_plain F_times fun _ _ _ _ _ _ us hl => match us, hl with | [_, _], _ => rfl)
    have h_star_means := DefKS.mk (He.glo_ok X G (c.fact 60)) (ok_star_means (P := P) (w := w) (base := base) (funOf F_star_means) T h_pull_of h_times) F_star_means.kp (bd_plain F_star_means fun _ _ _ _ _ _ us hl => match us, hl with | [_, _, _], _ => rfl)
    have h_minus := DefKS.mk (He.glo_ok X G (c.fact 61)) (ok_minus (P := P) (w := w) (base := base) (funOf F_minus) T h_ratio_of h_lowest) F_minus.kp (bd_plain F_minus fun _ _ _ _ _ _ us hl => match us, hl with | [_, _], _ => rfl)
    have h_over := DefKS.mk (He.glo_ok X G (c.fact 62)) (ok_over (P := P) (w := w) (base := base) (funOf F_over) T h_ratio_of h_lowest) F_over.kp (bd_plain F_over fun _ _ _ _ _ _ us hl => match us, hl with | [_, _], _ => rfl)
    have h_plus := DefKS.mk (He.glo_ok X G (c.fact 63)) (ok_plus (P := P) (w := w) (base := base) (funOf F_plus) T h_ratio_of h_lowest) F_plus.kp (bd_plain F_plus fun _ _ _ _ _ _ us hl => match us, hl with | [_, _], _ => rfl)
    have h_double_at := DefKS.mk (He.glo_ok X G (c.fact 64)) (ok_double_at (P := P) (w := w) (base := base) (funOf F_double_at) T h_times h_minus h_over h_plus) F_double_at.kp (bd_plain F_double_at fun _ _ _ _ _ _ us hl => match us, hl with | [_, _, _], _ => rfl)
    have h_triangle_doubles := DefKS.mk (He.glo_ok X G (c.fact 65)) (ok_triangle_doubles (P := P) (w := w) (base := base) (funOf F_triangle_doubles) T h_pull_of h_double_at) F_triangle_doubles.kp (bd_plain F_triangle_doubles fun _ _ _ _ _ _ us hl => match us, hl with | [_, _, _], _ => rfl)
    have h_double_pull := DefKS.mk (He.glo_ok X G (c.fact 66)) (ok_double_pull (P := P) (w := w) (base := base) (funOf F_double_pull) T h_pull_of h_over h_times h_plus) F_double_pull.kp (bd_plain F_double_pull fun _ _ _ _ _ _ us hl => match us, hl with | [_], _ => rfl)
    have h_square_of_double := DefKS.mk (He.glo_ok X G (c.fact 67)) (ok_square_of_double (P := P) (w := w) (base := base) (funOf F_square_of_double) T h_pull_of h_over h_plus h_minus) F_square_of_double.kp (bd_plain F_square_of_double fun _ _ _ _ _ _ us hl => match us, hl with | [_], _ => rfl)
    have h_l_told := DefKS.mk (He.glo_ok X G (c.fact 68)) (ok_l_told (P := P) (w := w) (base := base) (funOf F_l_told) T h_star_means h_triangle_doubles h_double_pull h_square_of_double) F_l_told.kp (bd_plain F_l_told fun _ _ _ _ _ _ us hl => match us, hl with | [_, _], _ => rfl)
    have h_l_refused := DefKS.mk (He.glo_ok X G (c.fact 69)) (ok_l_refused (P := P) (w := w) (base := base) (funOf F_l_refused) T h_l_told) F_l_refused.kp (bd_plain F_l_refused fun _ _ _ _ _ _ us hl => match us, hl with | [_], _ => rfl)
    have h_l_no := DefKS.mk (He.glo_ok X G (c.fact 70)) (ok_l_no (P := P) (w := w) (base := base) (funOf F_l_no) T ) F_l_no.kp (bd_plain F_l_no fun _ _ _ _ _ _ us hl => match us, hl with | [_, _, _], _ => rfl)
    have h_l_weights := DefKS.mk (He.glo_ok X G (c.fact 71)) (ok_l_weights (P := P) (w := w) (base := base) (funOf F_l_weights) T h_l_no) F_l_weights.kp (bd_plain F_l_weights fun _ _ _ _ _ _ us hl => match us, hl with | [_, _], _ => rfl)
    have h_l_star_boxes := DefKS.mk (He.glo_ok X G (c.fact 72)) (ok_l_star_boxes (P := P) (w := w) (base := base) (funOf F_l_star_boxes) T h_l_weights) F_l_star_boxes.kp (bd_plain F_l_star_boxes fun _ _ _ _ _ _ us hl => match us, hl with | [_], _ => rfl)
    have h_l_int := DefKS.mk (He.glo_ok X G (c.fact 73)) (ok_l_int (P := P) (w := w) (base := base) (funOf F_l_int) T ) F_l_int.kp (bd_plain F_l_int fun _ _ _ _ _ _ us hl => match us, hl with | [_], _ => rfl)
    have h_l_common := DefKS.mk (He.glo_ok X G (c.fact 74)) (ok_l_common (P := P) (w := w) (base := base) (funOf F_l_common) T ) F_l_common.kp (bd_plain F_l_common fun _ _ _ _ _ _ us hl => match us, hl with | [_, _], _ => rfl)
    have h_l_ratio := DefKS.mk (He.glo_ok X G (c.fact 75)) (ok_l_ratio (P := P) (w := w) (base := base) (funOf F_l_ratio) T h_l_int h_l_common) F_l_ratio.kp (bd_plain F_l_ratio fun _ _ _ _ _ _ us hl => match us, hl with | [_], _ => rfl)
    have h_l_is := DefKS.mk (He.glo_ok X G (c.fact 76)) (ok_l_is (P := P) (w := w) (base := base) (funOf F_l_is) T h_l_ratio) F_l_is.kp (bd_plain F_l_is fun _ _ _ _ _ _ us hl => match us, hl with | [_, _], _ => rfl)
    have h_l_three_are := DefKS.mk (He.glo_ok X G (c.fact 77)) (ok_l_three_are (P := P) (w := w) (base := base) (funOf F_l_three_are) T h_l_is) F_l_three_are.kp (bd_plain F_l_three_are fun _ _ _ _ _ _ us hl => match us, hl with | [_, _], _ => rfl)
    have h_l_times := DefKS.mk (He.glo_ok X G (c.fact 78)) (ok_l_times (P := P) (w := w) (base := base) (funOf F_l_times) T ) F_l_times.kp (bd_plain F_l_times fun _ _ _ _ _ _ us hl => match us, hl with | [_, _], _ => rfl)
    have h_over_common := DefKS.mk (He.glo_ok X G (c.fact 79)) (ok_over_common (P := P) (w := w) (base := base) (funOf F_over_common) T ) F_over_common.kp (bd_plain F_over_common fun _ _ _ _ _ _ us hl => match us, hl with | [_], _ => rfl)
    have h_sum_of := DefKS.mk (He.glo_ok X G (c.fact 80)) (ok_sum_of (P := P) (w := w) (base := base) (funOf F_sum_of) T h_over_common h_lowest) F_sum_of.kp (bd_plain F_sum_of fun _ _ _ _ _ _ us hl => match us, hl with | [_], _ => rfl)
    have h_sums_of_three := DefKS.mk (He.glo_ok X G (c.fact 81)) (ok_sums_of_three (P := P) (w := w) (base := base) (funOf F_sums_of_three) T h_sum_of h_times) F_sums_of_three.kp (bd_plain F_sums_of_three fun _ _ _ _ _ _ us hl => match us, hl with | [_, _, _], _ => rfl)
    have h_sign_of := DefKS.mk (He.glo_ok X G (c.fact 82)) (ok_sign_of (P := P) (w := w) (base := base) (funOf F_sign_of) T h_ratio_of) F_sign_of.kp (bd_plain F_sign_of fun _ _ _ _ _ _ us hl => match us, hl with | [_], _ => rfl)
    have h_sums_above := DefKS.mk (He.glo_ok X G (c.fact 83)) (ok_sums_above (P := P) (w := w) (base := base) (funOf F_sums_above) T h_sums_of_three h_ratio_of h_sign_of) F_sums_above.kp (bd_plain F_sums_above fun _ _ _ _ _ _ us hl => match us, hl with | [_, _, _], _ => rfl)
    have h_triangle_squares := DefKS.mk (He.glo_ok X G (c.fact 84)) (ok_triangle_squares (P := P) (w := w) (base := base) (funOf F_triangle_squares) T h_sums_above h_over h_times) F_triangle_squares.kp (bd_plain F_triangle_squares fun _ _ _ _ _ _ us hl => match us, hl with | [_, _, _], _ => rfl)
    have h_count_of := DefKS.mk (He.glo_ok X G (c.fact 85)) (ok_count_of (P := P) (w := w) (base := base) (funOf F_count_of) T h_is_integer) F_count_of.kp (bd_plain F_count_of fun _ _ _ _ _ _ us hl => match us, hl with | [_, _], _ => rfl)
    have h_is_place := DefKS.mk (He.glo_ok X G (c.fact 86)) (ok_is_place (P := P) (w := w) (base := base) (funOf F_is_place) T h_is_integer) F_is_place.kp (bd_plain F_is_place fun _ _ _ _ _ _ us hl => match us, hl with | [_, _], _ => rfl)
    have h_tie_of := DefKS.mk (He.glo_ok X G (c.fact 87)) (ok_tie_of (P := P) (w := w) (base := base) (funOf F_tie_of) T h_is_row h_is_ratio h_is_place h_ratio_of) F_tie_of.kp (bd_plain F_tie_of fun _ _ _ _ _ _ us hl => match us, hl with | [_, _, _], _ => rfl)
    have h_ties_of := DefKS.mk (He.glo_ok X G (c.fact 88)) (ok_ties_of (P := P) (w := w) (base := base) (funOf F_ties_of) T h_is_row h_tie_of) F_ties_of.kp (bd_plain F_ties_of fun _ _ _ _ _ _ us hl => match us, hl with | [_, _, _], _ => rfl)
    have h_Web_init := IniKS.mk (ok_Web_init (P := P) (w := w) (base := base) (funOf F_Web_init) T h_count_of h_ties_of) (bd_plain F_Web_init fun _ _ _ _ _ _ us hl => match us, hl with | [_, _, _], _ => rfl) (He.mkr_ok (c.fact 89))
    have h_pairs_of := DefKS.mk (He.glo_ok X G (c.fact 90)) (ok_pairs_of (P := P) (w := w) (base := base) (funOf F_pairs_of) T ) F_pairs_of.kp (bd_plain F_pairs_of fun _ _ _ _ _ _ us hl => match us, hl with | [_], _ => rfl)
    have h_is_saying := DefKS.mk (He.glo_ok X G (c.fact 91)) (ok_is_saying (P := P) (w := w) (base := base) (funOf F_is_saying) T h_is_row h_is_integer) F_is_saying.kp (bd_plain F_is_saying fun _ _ _ _ _ _ us hl => match us, hl with | [_, _, _], _ => rfl)
    have h_saying_of := DefKS.mk (He.glo_ok X G (c.fact 92)) (ok_saying_of (P := P) (w := w) (base := base) (funOf F_saying_of) T h_count_of h_is_saying) F_saying_of.kp (bd_plain F_saying_of fun _ _ _ _ _ _ us hl => match us, hl with | [_, _], _ => rfl)
    have h_changed := DefKS.mk (He.glo_ok X G (c.fact 93)) (ok_changed (P := P) (w := w) (base := base) (funOf F_changed) T ) F_changed.kp (bd_plain F_changed fun _ _ _ _ _ _ us hl => match us, hl with | [_, _], _ => rfl)
    have h_index_of_no := DefKS.mk (He.glo_ok X G (c.fact 94)) (ok_index_of_no (P := P) (w := w) (base := base) (funOf F_index_of_no) T ) F_index_of_no.kp (bd_plain F_index_of_no fun _ _ _ _ _ _ us hl => match us, hl with | [_, _], _ => rfl)
    have h_index_of := DefKS.mk (He.glo_ok X G (c.fact 95)) (ok_index_of (P := P) (w := w) (base := base) (funOf F_index_of) T h_index_of_no) F_index_of.kp (bd_plain F_index_of fun _ _ _ _ _ _ us hl => match us, hl with | [_], _ => rfl)
    have h_Spread_chance := MetKS.mk (ok_Spread_chance (P := P) (w := w) (base := base) (funOf F_Spread_chance) T h_index_of h_saying_of) (bd_plain F_Spread_chance fun _ _ _ _ _ _ us hl => match us, hl with | [_, _], _ => rfl) (He.meth_ok (c.fact 96))
    have h_Spread_box := MetKS.mk (ok_Spread_box (P := P) (w := w) (base := base) (funOf F_Spread_box) T h_is_place h_saying_of h_changed h_times h_Spread_chance h_over) (bd_plain F_Spread_box fun _ _ _ _ _ _ us hl => match us, hl with | [_, _, _, _], _ => rfl) (He.meth_ok (c.fact 97))
    have h_sayings := DefKS.mk (He.glo_ok X G (c.fact 98)) (ok_sayings (P := P) (w := w) (base := base) (funOf F_sayings) T h_count_of) F_sayings.kp (bd_plain F_sayings fun _ _ _ _ _ _ us hl => match us, hl with | [_], _ => rfl)
    have h_unlike_saying := DefKS.mk (He.glo_ok X G (c.fact 99)) (ok_unlike_saying (P := P) (w := w) (base := base) (funOf F_unlike_saying) T h_Spread_box h_sayings) F_unlike_saying.kp (bd_plain F_unlike_saying fun _ _ _ _ _ _ us hl => match us, hl with | [_, _, _], _ => rfl)
    have h_unlike_boxes := DefKS.mk (He.glo_ok X G (c.fact 100)) (ok_unlike_boxes (P := P) (w := w) (base := base) (funOf F_unlike_boxes) T h_pairs_of h_unlike_saying) F_unlike_boxes.kp (bd_plain F_unlike_boxes fun _ _ _ _ _ _ us hl => match us, hl with | [_], _ => rfl)
    have h_squares := DefKS.mk (He.glo_ok X G (c.fact 101)) (ok_squares (P := P) (w := w) (base := base) (funOf F_squares) T h_unlike_boxes h_pairs_of h_Spread_box) F_squares.kp (bd_plain F_squares fun _ _ _ _ _ _ us hl => match us, hl with | [_], _ => rfl)
    have h_signs_of := DefKS.mk (He.glo_ok X G (c.fact 102)) (ok_signs_of (P := P) (w := w) (base := base) (funOf F_signs_of) T ) F_signs_of.kp (bd_plain F_signs_of fun _ _ _ _ _ _ us hl => match us, hl with | [_, _], _ => rfl)
    have h_distinct_numbers := DefKS.mk (He.glo_ok X G (c.fact 103)) (ok_distinct_numbers (P := P) (w := w) (base := base) (funOf F_distinct_numbers) T h_is_row h_is_integer) F_distinct_numbers.kp (bd_plain F_distinct_numbers fun _ _ _ _ _ _ us hl => match us, hl with | [_], _ => rfl)
    have h_joined := DefKS.mk (He.glo_ok X G (c.fact 104)) (ok_joined (P := P) (w := w) (base := base) (funOf F_joined) T h_distinct_numbers) F_joined.kp (bd_plain F_joined fun _ _ _ _ _ _ us hl => match us, hl with | [_, _], _ => rfl)
    have h_weight_tops := DefKS.mk (He.glo_ok X G (c.fact 105)) (ok_weight_tops (P := P) (w := w) (base := base) (funOf F_weight_tops) T h_signs_of h_joined) F_weight_tops.kp (bd_plain F_weight_tops fun _ _ _ _ _ _ us hl => match us, hl with | [_], _ => rfl)
    have h_places_told := DefKS.mk (He.glo_ok X G (c.fact 106)) (ok_places_told (P := P) (w := w) (base := base) (funOf F_places_told) T h_is_row) F_places_told.kp (bd_plain F_places_told fun _ _ _ _ _ _ us hl => match us, hl with | [_], _ => rfl)
    have h_chances_of := DefKS.mk (He.glo_ok X G (c.fact 107)) (ok_chances_of (P := P) (w := w) (base := base) (funOf F_chances_of) T h_sign_of h_is_ratio h_ratio_of h_sum_of) F_chances_of.kp (bd_plain F_chances_of fun _ _ _ _ _ _ us hl => match us, hl with | [_], _ => rfl)
    have h_Spread_init := IniKS.mk (ok_Spread_init (P := P) (w := w) (base := base) (funOf F_Spread_init) T h_places_told h_chances_of) (bd_plain F_Spread_init fun _ _ _ _ _ _ us hl => match us, hl with | [_, _], _ => rfl) (He.mkr_ok (c.fact 108))
    have h_Spread_of := CMetKS.mk (faM_ok (c.fact 109)).1 (faM_ok (c.fact 109)).2 (fnr_of (ok_Spread_of (P := P) (w := w) (base := base) (funOf F_Spread_of) T h_weight_tops h_lowest h_Spread_init) (bd_plain F_Spread_of fun _ _ _ _ _ _ us hl => match us, hl with | [_, _], _ => rfl))
    have h_lot_of := DefKS.mk (He.glo_ok X G (c.fact 110)) (ok_lot_of (P := P) (w := w) (base := base) (funOf F_lot_of) T h_count_of h_distinct_numbers) F_lot_of.kp (bd_plain F_lot_of fun _ _ _ _ _ _ us hl => match us, hl with | [_, _], _ => rfl)
    have h_Spread_left_out := MetKS.mk (ok_Spread_left_out (P := P) (w := w) (base := base) (funOf F_Spread_left_out) T h_lot_of h_over_common h_sayings h_lowest h_Spread_init) (bd_plain F_Spread_left_out fun _ _ _ _ _ _ us hl => match us, hl with | [_, _], _ => rfl) (He.meth_ok (c.fact 111))
    have h_merged_pull := DefKS.mk (He.glo_ok X G (c.fact 112)) (ok_merged_pull (P := P) (w := w) (base := base) (funOf F_merged_pull) T h_lowest) F_merged_pull.kp (bd_plain F_merged_pull fun _ _ _ _ _ _ us hl => match us, hl with | [_, _], _ => rfl)
    have h_Web_merged := MetKS.mk (ok_Web_merged (P := P) (w := w) (base := base) (funOf F_Web_merged) T h_merged_pull h_Web_init) (bd_plain F_Web_merged fun _ _ _ _ _ _ us hl => match us, hl with | [_], _ => rfl) (He.meth_ok (c.fact 113))
    obtain ⟨ds_mean, vs_mean, bd_mean⟩ := FunD.binds0 (ps := ["web", "lot", "floor"]) F_mean 2 (by simp [DefX.kws]) rfl (fun _ _ _ _ _ _ us ks hl hk => match us, hl, ks, hk with | [_, _], _, [_], _ => ⟨_, _, _, _, _, _, rfl, rfl, rfl⟩)
    have h_mean := DefKD.mk (He.glo_ok X G (c.fact 114)) (ok_mean (P := P) (w := w) (base := base) (funOf F_mean) T h_lot_of h_is_place h_joined h_weight_tops h_signs_of h_lowest) F_mean.kp vs_mean bd_mean
    have h_l_doubled := DefKS.mk (He.glo_ok X G (c.fact 115)) (ok_l_doubled (P := P) (w := w) (base := base) (funOf F_l_doubled) T h_double_pull h_Web_init h_Web_merged h_mean h_l_is h_square_of_double) F_l_doubled.kp (bd_plain F_l_doubled fun _ _ _ _ _ _ us hl => match us, hl with | [_], _ => rfl)
    have h_l_pulls_hold := DefKS.mk (He.glo_ok X G (c.fact 116)) (ok_l_pulls_hold (P := P) (w := w) (base := base) (funOf F_l_pulls_hold) T h_l_star_boxes h_triangle_doubles h_l_three_are h_star_means h_l_times h_triangle_squares h_Web_init h_squares h_Spread_of h_Spread_left_out h_l_is h_square_of_double h_l_doubled) F_l_pulls_hold.kp (bd_plain F_l_pulls_hold fun _ _ _ _ _ _ us hl => match us, hl with | [_], _ => rfl)
    exact ok_law (funOf F_law) T h_l_draws h_l_take h_l_pull h_l_refused h_l_pulls_hold h_triangle_doubles h_l_three_are h_l_is
end My
open PySem PySem.W PySem.Calls PyProof.Rows
theorem end_of (hm : ∀ (A : Str → Addr) (ns : List Int), ns.length ≤ 63 → My.m_law A [.dat (.fz (ns.map Lw.D.int))] [] = .ok (.bl true) []) : PySem.Challenge.rw_leanwebs_k21_star_triangle_doubles.Holds := by
  w_on; o_law
  refine HandSHeadRun.head_imp (r := OpenLaw.row PySem.Challenge.rw_leanwebs_k21_star_triangle_doubles) (q := view (OpenLaw.row PySem.Challenge.rw_leanwebs_k21_star_triangle_doubles).prog [89]) (H := My.hk) (ob := My.ob) (M := 40000) (loose := My.loose) (d := HandSHeadRun.topDef (OpenLaw.row PySem.Challenge.rw_leanwebs_k21_star_triangle_doubles).prog 89) (kwd := []) My.ob_eq
    My.run (by kernel_rfl) (by kernel_rfl) (by kernel_rfl) (by rfl) (by first | assumption | decide +kernel) (by decide +kernel) ⟨rfl, rfl, rfl, rfl, rfl, by decide +kernel⟩ ?hw ?hc
  case hw => w_witness2
  case hc =>
    refine My.walk_law (l := PySem.Challenge.rw_leanwebs_k21_star_triangle_doubles) (k := 11) (x := "_law_script") rfl (by kernel_rfl) ⟨rfl, by decide, by decide⟩ ?F
    intro w mg fa h Y G hmg0
    obtain ⟨K, KX, c⟩ := Y
    have hmg : mg ("law" : PySem.Str) = some (.ref fa) := by
      have e : (HandSHeadRun.topDef (OpenLaw.row PySem.Challenge.rw_leanwebs_k21_star_triangle_doubles).prog 89).name = ("law" : PySem.Str) := by kernel_rfl
      rw [← e]; exact hmg0
    obtain ⟨fd, _, hb, hF⟩ := My.facts (P := (PySem.Challenge.rw_leanwebs_k21_star_triangle_doubles).prog) (w := w) KX G hmg c
    exact ⟨K, fd, KX, hb, fun base => (hF base).imp (My.law_sp (hm _))⟩

end

set_option Elab.async false
set_option linter.all false
set_option maxRecDepth 100000
set_option maxHeartbeats 4000000
/-! ratios as the numbers that they are -/
namespace My
open PySem L2 Lw
/-- the pair that the program holds for a rational -/
abbrev rq (x : Rat) : D := .tup [.int x.num, .int x.den]
def sz (n : Nat) (x : Rat) : Prop := sm n x.num ∧ sm n x.den
theorem low_rat {p q : Int} (h : 1 ≤ q) : low p q = (((p : Rat) / (q : Rat)).num, ((((p : Rat) / (q : Rat)).den : Nat) : Int)) := by
  obtain ⟨n, rfl⟩ : ∃ n : Nat, q = n := ⟨q.toNat, by omega⟩
  have hn : n ≠ 0 := by omega
  rw [Rat.intCast_natCast, ← Rat.mkRat_eq_div]
  refine Prod.ext ?_ ?_
  · show p / ((Nat.gcd p.natAbs (n : Int).natAbs : Nat) : Int) = (mkRat p n).num
    rw [Rat.num_mkRat, if_neg hn, Int.natAbs_natCast, Nat.gcd_comm]
  · show (n : Int) / ((Nat.gcd p.natAbs (n : Int).natAbs : Nat) : Int) = (mkRat p n).den
    rw [Rat.den_mkRat, if_neg hn, Int.natAbs_natCast, Nat.gcd_comm]
    rfl
theorem sz_up {a b : Nat} {x : Rat} (h : sz a x) (l : a ≤ b) : sz b x := ⟨sm_up h.1 l, sm_up h.2 l⟩
theorem den_pos' (x : Rat) : (1 : Int) ≤ x.den := by have := x.den_pos; omega
theorem rat_num_den (x : Rat) : (x.num : Rat) / (x.den : Rat) = x := by
  rw [← Rat.mkRat_eq_div]; exact Rat.mkRat_self x
theorem sz_div {n : Nat} {p q : Int} (h : sm n p) (h' : sm n q) (hq : 1 ≤ q) : sz n ((p : Rat) / (q : Rat)) := by
  have e := low_rat (p := p) hq
  have z := sm_low h h'
  rw [e] at z
  exact z
theorem mul_rat (x y : Rat) : ((x.num * y.num : Int) : Rat) / ((x.den * y.den : Int) : Rat) = x * y := by
  have hx := rat_num_den x
  have hy := rat_num_den y
  have dx : (x.den : Rat) ≠ 0 := by have := x.den_nz; intro h; exact this (by exact_mod_cast h)
  have dy : (y.den : Rat) ≠ 0 := by have := y.den_nz; intro h; exact this (by exact_mod_cast h)
  rw [Rat.intCast_mul, Rat.intCast_mul]
  have e1 : ((x.den : Int) : Rat) = (x.den : Rat) := by norm_cast
  have e2 : ((y.den : Int) : Rat) = (y.den : Rat) := by norm_cast
  rw [e1, e2]
  conv => rhs; rw [← hx, ← hy]
  grind

theorem den_ne (x : Rat) : (x.den : Rat) ≠ 0 := by have := x.den_nz; intro h; exact this (by exact_mod_cast h)
theorem int_den (x : Rat) : (((x.den : Nat) : Int) : Rat) = (x.den : Rat) := by norm_cast
theorem add_rat (x y : Rat) : ((x.num * y.den + y.num * x.den : Int) : Rat) / ((x.den * y.den : Int) : Rat) = x + y := by
  have hx := rat_num_den x
  have hy := rat_num_den y
  have dx := den_ne x
  have dy := den_ne y
  rw [Rat.intCast_add, Rat.intCast_mul, Rat.intCast_mul, Rat.intCast_mul, int_den, int_den]
  conv => rhs; rw [← hx, ← hy]
  grind
theorem sub_rat (x y : Rat) : ((x.num * y.den - y.num * x.den : Int) : Rat) / ((x.den * y.den : Int) : Rat) = x - y := by
  have hx := rat_num_den x
  have hy := rat_num_den y
  have dx := den_ne x
  have dy := den_ne y
  rw [Rat.intCast_sub, Rat.intCast_mul, Rat.intCast_mul, Rat.intCast_mul, int_den, int_den]
  conv => rhs; rw [← hx, ← hy]
  grind
theorem num_ne {x : Rat} (h : x ≠ 0) : (x.num : Rat) ≠ 0 := by
  intro e; exact h (by have := rat_num_den x; rw [e] at this; rw [← this]; grind)
theorem div_rat (x y : Rat) (h : y ≠ 0) : ((x.num * y.den : Int) : Rat) / ((x.den * y.num : Int) : Rat) = x / y := by
  have hx := rat_num_den x
  have hy := rat_num_den y
  have dx := den_ne x
  have dy := den_ne y
  have ny := num_ne h
  rw [Rat.intCast_mul, Rat.intCast_mul, int_den, int_den]
  conv => rhs; rw [← hx, ← hy]
  grind
theorem div_rat' (x y : Rat) (h : y ≠ 0) : ((-x.num * y.den : Int) : Rat) / ((-(x.den : Int) * y.num : Int) : Rat) = x / y := by
  rw [← div_rat x y h, Int.neg_mul, Int.neg_mul, Rat.intCast_neg, Rat.intCast_neg]
  have dx := den_ne x
  have ny := num_ne h
  rw [Rat.intCast_mul, Rat.intCast_mul, int_den, int_den]
  grind
theorem num_eq0 {x : Rat} : x.num = 0 ↔ x = 0 := Rat.num_eq_zero
theorem num_pos' {x : Rat} : 0 < x.num ↔ 0 < x := by
  rw [Rat.lt_iff]; simp
theorem num_neg' {x : Rat} : x.num < 0 ↔ x < 0 := by
  rw [Rat.lt_iff]; simp
theorem sz_mul {a b : Nat} {x y : Rat} (h : sz a x) (h' : sz b y) : sz (a + b) (x * y) := by
  rw [← mul_rat]
  exact sz_div (sm_mul h.1 h'.1) (sm_mul h.2 h'.2) (by have := den_pos' x; have := den_pos' y; exact Int.mul_pos (by omega) (by omega))
theorem sm_add' {a b : Nat} {x y : Int} (h : sm a x) (h' : sm b y) : sm (a + b + 1) (x + y) := sm_add (sm_up h (by omega)) (sm_up h' (by omega))
theorem sz_add {a b : Nat} {x y : Rat} (h : sz a x) (h' : sz b y) : sz (a + b + 1) (x + y) := by
  rw [← add_rat]
  exact sz_div (sm_add (sm_mul h.1 h'.2) (sm_up (sm_mul h'.1 h.2) (by omega))) (sm_up (sm_mul h.2 h'.2) (by omega)) (by have := den_pos' x; have := den_pos' y; exact Int.mul_pos (by omega) (by omega))
theorem sz_sub {a b : Nat} {x y : Rat} (h : sz a x) (h' : sz b y) : sz (a + b + 1) (x - y) := by
  rw [← sub_rat]
  exact sz_div (sm_sub (sm_mul h.1 h'.2) (sm_up (sm_mul h'.1 h.2) (by omega))) (sm_up (sm_mul h.2 h'.2) (by omega)) (by have := den_pos' x; have := den_pos' y; exact Int.mul_pos (by omega) (by omega))
theorem over_pos {x y : Rat} (h : 0 < y) : (1 : Int) ≤ x.den * y.num := by
  have := den_pos' x; have := num_pos'.mpr h; exact Int.mul_pos (by omega) (by omega)
theorem over_neg {x y : Rat} (h : y < 0) : (1 : Int) ≤ -(x.den : Int) * y.num := by
  have := den_pos' x
  have h2 : y.num < 0 := num_neg'.mpr h
  have := Int.mul_pos (a := x.den) (b := -y.num) (by omega) (by omega)
  rw [Int.mul_neg] at this
  rw [Int.neg_mul]; omega
theorem sz_over {a b : Nat} {x y : Rat} (h : sz a x) (h' : sz b y) (hy : y ≠ 0) : sz (a + b) (x / y) := by
  rcases (by grind : y < 0 ∨ y = 0 ∨ 0 < y) with h0 | h0 | h0
  · rw [← div_rat' x y hy]
    exact sz_div (sm_mul (sm_neg h.1) h'.2) (sm_mul (sm_neg h.2) h'.1) (over_neg h0)
  · exact absurd h0 hy
  · rw [← div_rat x y hy]
    exact sz_div (sm_mul h.1 h'.2) (sm_mul h.2 h'.1) (over_pos h0)

/-- the least common multiple of the lower parts -/
def lcms (xs : List Rat) (a : Nat) : Nat := xs.foldl (fun a x => Nat.lcm a x.den) a
theorem lcm_pos' {a b : Nat} (h : 0 < a) (h' : 0 < b) : 0 < Nat.lcm a b := Nat.lcm_pos h h'
theorem lcm_sm {a b n m : Nat} (h : a < 2 ^ n) (h' : b < 2 ^ m) (ha : 0 < a) (hb : 0 < b) : Nat.lcm a b < 2 ^ (n + m) := by
  have : Nat.lcm a b ∣ a * b := Nat.lcm_dvd (Nat.dvd_mul_right _ _) (Nat.dvd_mul_left _ _)
  have l := Nat.le_of_dvd (Nat.mul_pos ha hb) this
  rw [Nat.pow_add]
  exact Nat.lt_of_le_of_lt l (Nat.mul_lt_mul_of_lt_of_le h (Nat.le_of_lt h') (Nat.pow_pos (by decide)))
theorem lcms_dvd {xs : List Rat} : ∀ {a : Nat}, a ∣ lcms xs a ∧ ∀ x ∈ xs, x.den ∣ lcms xs a := by
  induction xs with
  | nil => intro a; exact ⟨Nat.dvd_refl _, fun x h => absurd h (by simp)⟩
  | cons y ys ih =>
    intro a
    obtain ⟨h1, h2⟩ := ih (a := Nat.lcm a y.den)
    refine ⟨Nat.dvd_trans (Nat.dvd_lcm_left _ _) h1, fun x hx => ?_⟩
    rcases List.mem_cons.mp hx with rfl | hx
    · exact Nat.dvd_trans (Nat.dvd_lcm_right _ _) h1
    · exact h2 x hx
theorem lcms_pos {xs : List Rat} : ∀ {a : Nat}, 0 < a → 0 < lcms xs a := by
  induction xs with
  | nil => intro a h; exact h
  | cons y ys ih => intro a h; exact ih (Nat.lcm_pos h y.den_pos)
theorem top_over {x : Rat} {L : Nat} (h : x.den ∣ L) (hL : 0 < L) : ((x.num * ((L : Int) / (x.den : Int)) : Int) : Rat) = x * (L : Rat) := by
  obtain ⟨k, rfl⟩ := h
  have e : (((x.den * k : Nat) : Int) / (x.den : Int)) = (k : Int) := by
    rw [Int.natCast_mul]; exact Int.mul_ediv_cancel_left _ (by have := x.den_nz; omega)
  rw [e, Rat.intCast_mul]
  have hx := rat_num_den x
  have dx := den_ne x
  have e2 : ((x.den * k : Nat) : Rat) = (x.den : Rat) * (k : Rat) := by norm_cast
  have e3 : ((k : Int) : Rat) = (k : Rat) := by norm_cast
  rw [e2, e3]
  conv => rhs; rw [← hx]
  grind
theorem tops_sum {L : Nat} (hL : 0 < L) : ∀ {xs : List Rat}, (∀ x ∈ xs, x.den ∣ L) → (((xs.map fun x => x.num * ((L : Int) / (x.den : Int))).sum : Int) : Rat) / ((L : Int) : Rat) = xs.sum
  | [], _ => by simp [Rat.div_def]
  | x :: xs, h => by
    have ih := tops_sum hL (xs := xs) fun y hy => h y (List.mem_cons_of_mem _ hy)
    have t := top_over (h x List.mem_cons_self) hL
    rw [List.map_cons, List.sum_cons, List.sum_cons, Rat.intCast_add, t, ← ih]
    have e3 : ((L : Int) : Rat) = (L : Rat) := by norm_cast
    have n0 : (L : Rat) ≠ 0 := by intro h; have : L = 0 := by exact_mod_cast h
                                  omega
    rw [e3]
    grind
end My

set_option Elab.async false
set_option linter.all false
set_option maxRecDepth 100000
set_option maxHeartbeats 4000000
/-! running a meaning by rewriting -/
namespace My
open PySem L2 Lw
section
variable {α β : Type} {Γ : List G} {M : List MO} {a : α} {r : Rz α} {k : α → List MO → Rz Fl} {x : Str} {fs : Flds} {c : Prop} [Decidable c] {d : D} {g : G} {h : SF}
theorem exB_okk : exB Γ (.ok a M) k = k a M := rfl
theorem exB_er : exB Γ (.er x fs M) k = .ok (.ex x fs Γ) M := rfl
theorem exB_no : exB Γ (.no : Rz α) k = .no := rfl
theorem exB_chk : exB Γ (chk c r) k = chk c (exB Γ r k) := by unfold chk; split <;> rfl
theorem noEr_okk : noEr (.ok a M) = .ok a M := rfl
theorem noEr_no : noEr (.no : Rz α) = .no := rfl
theorem noEr_chk : noEr (chk c r) = chk c (noEr r) := by unfold chk; split <;> rfl
theorem chk_true {i : Decidable True} : @chk α True i r = r := if_pos trivial
theorem chk_f {i : Decidable False} : @chk α False i r = .no := if_neg id
theorem seqK_nx : seqK h (.nx Γ) M = h Γ M := rfl
theorem seqK_rt : seqK h (.rt g) M = .ok (.rt g) M := rfl
theorem seqK_ex : seqK h (.ex x fs Γ) M = .ok (.ex x fs Γ) M := rfl
def callR (M : List MO) : Rz D → Rz G
  | .ok d [] => .ok (.dat d) M
  | .er x fs [] => .er x fs M
  | _ => .no
theorem callM_c {m : Mn} {gs : List G} : callM m (.dat d :: gs) M = match datsOf (.dat d :: gs) with
    | some _ => callR M (m (.dat d :: gs) [])
    | none => .no := by
  show (match datsOf (.dat d :: gs) with
    | some _ => (match m (.dat d :: gs) [] with
      | .ok d [] => Rz.ok (G.dat d) M
      | .er x fs [] => .er x fs M
      | _ => .no)
    | none => .no) = _
  cases datsOf (.dat d :: gs) with
  | none => rfl
  | some ds => cases m (.dat d :: gs) [] with
    | ok d M1 => cases M1 <;> rfl
    | er x fs M1 => cases M1 <;> rfl
    | no => rfl
theorem callR_ok : callR M (.ok d []) = .ok (.dat d) M := rfl
theorem callR_er : callR M (.er x fs []) = .er x fs M := rfl
theorem callR_chk {r : Rz D} : callR M (chk c r) = chk c (callR M r) := by unfold chk; split <;> rfl
theorem endK_rt : endK M (.rt (.dat d)) [] = chk (M.length ≤ 0) (.ok d []) := by unfold endK; simp
theorem runF_eq {np n : Nat} {f : SF} {gs : List G} : runF np n f gs [] = chk (gs.length = np) ((noEr (f (gs ++ List.replicate (n - gs.length) .no) [])).bind (endK [])) := rfl
theorem endK_nil (fl : Fl) (M2 : List MO) : endK [] fl M2 = match fl with
  | .rt (.dat d) => .ok d []
  | .nx _ => .ok .non []
  | .ex x fs _ => .er x fs []
  | _ => .no := by
  have h : ([] : List MO).length ≤ M2.length := Nat.zero_le _
  cases fl with
  | rt g => cases g <;> first | rfl | exact chk_t h
  | nx _ => exact chk_t h
  | ex _ _ _ => exact chk_t h
  | _ => rfl
theorem okA_some : okA M (some a) = .ok a M := rfl
theorem okA_none : okA M (none : Option α) = .no := rfl
theorem sL : sizeLine = 16777216 := rfl
theorem eVar_eq {i : Nat} : eVar i Γ M = match Γ[i]? with
  | some (.dat d) => .ok (.dat d) M
  | some (.mr j) => .ok (.mr j) M
  | _ => .no := rfl
end
theorem atI_n {α : Type} {xs : List α} {n : Nat} : atI xs (n : Int) = xs[n]? := by
  cases h : xs[n]? with
  | some x => exact Lw.atI_nat h
  | none =>
    have l := List.getElem?_eq_none_iff.mp h
    unfold atI ixN
    rw [if_pos (by omega), if_neg (by omega)]
    rfl
theorem atI_0 {α : Type} {xs : List α} : atI xs 0 = xs[0]? := atI_n (n := 0)
theorem atI_1 {α : Type} {xs : List α} : atI xs 1 = xs[1]? := atI_n (n := 1)
theorem atI_2 {α : Type} {xs : List α} : atI xs 2 = xs[2]? := atI_n (n := 2)
theorem atI_3 {α : Type} {xs : List α} : atI xs 3 = xs[3]? := atI_n (n := 3)
theorem atI_4 {α : Type} {xs : List α} : atI xs 4 = xs[4]? := atI_n (n := 4)
theorem atI_5 {α : Type} {xs : List α} : atI xs 5 = xs[5]? := atI_n (n := 5)
theorem atI_6 {α : Type} {xs : List α} : atI xs 6 = xs[6]? := atI_n (n := 6)
theorem atI_7 {α : Type} {xs : List α} : atI xs 7 = xs[7]? := atI_n (n := 7)
theorem atI_8 {α : Type} {xs : List α} : atI xs 8 = xs[8]? := atI_n (n := 8)
theorem atI_9 {α : Type} {xs : List α} : atI xs 9 = xs[9]? := atI_n (n := 9)
theorem atI_10 {α : Type} {xs : List α} : atI xs 10 = xs[10]? := atI_n (n := 10)
theorem atI_11 {α : Type} {xs : List α} : atI xs 11 = xs[11]? := atI_n (n := 11)
theorem atI_12 {α : Type} {xs : List α} : atI xs 12 = xs[12]? := atI_n (n := 12)
theorem atI_13 {α : Type} {xs : List α} : atI xs 13 = xs[13]? := atI_n (n := 13)
theorem atI_14 {α : Type} {xs : List α} : atI xs 14 = xs[14]? := atI_n (n := 14)
theorem atI_15 {α : Type} {xs : List α} : atI xs 15 = xs[15]? := atI_n (n := 15)
theorem lcGo_mapA {α : Type} {b : BF} {e : EF} {Γ : List G} {M : List MO} {u v : α → D} : ∀ {xs : List α}, (∀ x ∈ xs, ∃ Γ1, b (u x) Γ = some Γ1 ∧ e Γ1 M = .ok (.dat (v x)) M) → lcGo b tTrue e Γ (xs.map u) M = .ok (xs.map v) M
  | [], _ => rfl
  | x :: xs, h => by
    obtain ⟨Γ1, e1, e2⟩ := h x List.mem_cons_self
    have ih := lcGo_mapA (b := b) (e := e) (Γ := Γ) (M := M) (u := u) (v := v) (xs := xs) fun y hy => h y (List.mem_cons_of_mem _ hy)
    simp only [List.map_cons, lcGo, e1, tTrue, ok_bind, e2, ih, if_true]
def enR : Nat → List D → List D
  | _, [] => []
  | n, d :: ds => .tup [.int n, d] :: enR (n + 1) ds
theorem enR_eq : ∀ (ds : List D) (n : Nat), enR n ds = (List.range ds.length).map fun i => .tup [.int ((n + i : Nat) : Int), (ds[i]?).getD .non]
  | [], n => rfl
  | d :: ds, n => by
    rw [enR, enR_eq ds (n + 1), List.length_cons, List.range_succ_eq_map, List.map_cons, List.map_map]
    refine congr (congrArg _ (by simp)) (List.map_congr_left fun i _ => ?_)
    simp [Nat.add_assoc, Nat.add_comm 1 i]
theorem enumD_R {ds : List D} : enumD ds = enR 0 ds := by
  rw [enR_eq]; simp [enumD]
/-- a loop whose body goes on, an invariant over the rest -/
theorem forL_inv {α σ : Type} {b : BF} {f : SF} {u : α → D} {enc : σ → List G} {Ms : σ → List MO} {step : σ → α → σ} {P : σ → List α → Prop}
    (h : ∀ s x xs, P s (x :: xs) → P (step s x) xs ∧ ∃ Γ1, b (u x) (enc s) = some Γ1 ∧ f Γ1 (Ms s) = .ok (.nx (enc (step s x))) (Ms (step s x))) :
    ∀ {xs : List α} {s : σ}, P s xs → forL b f (xs.map u) (enc s) (Ms s) = .ok (.nx (enc (xs.foldl step s))) (Ms (xs.foldl step s)) ∧ P (xs.foldl step s) []
  | [], s, hp => ⟨rfl, hp⟩
  | x :: xs, s, hp => by
    obtain ⟨hp', Γ1, e1, e2⟩ := h s x xs hp
    obtain ⟨ih, hq⟩ := forL_inv h (xs := xs) hp'
    refine ⟨?_, hq⟩
    simp only [List.map_cons, forL, e1, e2, ok_bind, List.foldl_cons]
    exact ih
theorem rng1_n {n : Nat} {i : Int} {M : List MO} (h : i = (n : Int)) (hn : n < 2 ^ 40) : rng1G [.dat (.int i)] M = .ok ((List.range n).map fun i => .int (i : Nat)) M := by
  subst h
  have e : rngD 0 ((n : Int).toNat) = (List.range n).map fun i => .int (i : Nat) := by simp [rngD]
  rw [← e]
  exact chk_t ⟨by omega, by omega⟩
theorem rng1_1 {M : List MO} : rng1G [.dat (.int 1)] M = .ok [.int 0] M := rfl
theorem rng1_2 {M : List MO} : rng1G [.dat (.int 2)] M = .ok [.int 0, .int 1] M := rfl
theorem rng1_3 {M : List MO} : rng1G [.dat (.int 3)] M = .ok [.int 0, .int 1, .int 2] M := rfl
theorem rng1_4 {M : List MO} : rng1G [.dat (.int 4)] M = .ok [.int 0, .int 1, .int 2, .int 3] M := rfl
theorem rng1_5 {M : List MO} : rng1G [.dat (.int 5)] M = .ok [.int 0, .int 1, .int 2, .int 3, .int 4] M := rfl
theorem rng1_6 {M : List MO} : rng1G [.dat (.int 6)] M = .ok [.int 0, .int 1, .int 2, .int 3, .int 4, .int 5] M := rfl
theorem rng1_7 {M : List MO} : rng1G [.dat (.int 7)] M = .ok [.int 0, .int 1, .int 2, .int 3, .int 4, .int 5, .int 6] M := rfl
theorem rng1_8 {M : List MO} : rng1G [.dat (.int 8)] M = .ok [.int 0, .int 1, .int 2, .int 3, .int 4, .int 5, .int 6, .int 7] M := rfl
theorem rng1_9 {M : List MO} : rng1G [.dat (.int 9)] M = .ok [.int 0, .int 1, .int 2, .int 3, .int 4, .int 5, .int 6, .int 7, .int 8] M := rfl
theorem rng1_10 {M : List MO} : rng1G [.dat (.int 10)] M = .ok [.int 0, .int 1, .int 2, .int 3, .int 4, .int 5, .int 6, .int 7, .int 8, .int 9] M := rfl
theorem rng1_11 {M : List MO} : rng1G [.dat (.int 11)] M = .ok [.int 0, .int 1, .int 2, .int 3, .int 4, .int 5, .int 6, .int 7, .int 8, .int 9, .int 10] M := rfl
theorem rng1_12 {M : List MO} : rng1G [.dat (.int 12)] M = .ok [.int 0, .int 1, .int 2, .int 3, .int 4, .int 5, .int 6, .int 7, .int 8, .int 9, .int 10, .int 11] M := rfl
theorem rng1_13 {M : List MO} : rng1G [.dat (.int 13)] M = .ok [.int 0, .int 1, .int 2, .int 3, .int 4, .int 5, .int 6, .int 7, .int 8, .int 9, .int 10, .int 11, .int 12] M := rfl
theorem rng1_14 {M : List MO} : rng1G [.dat (.int 14)] M = .ok [.int 0, .int 1, .int 2, .int 3, .int 4, .int 5, .int 6, .int 7, .int 8, .int 9, .int 10, .int 11, .int 12, .int 13] M := rfl
theorem rng1_15 {M : List MO} : rng1G [.dat (.int 15)] M = .ok [.int 0, .int 1, .int 2, .int 3, .int 4, .int 5, .int 6, .int 7, .int 8, .int 9, .int 10, .int 11, .int 12, .int 13, .int 14] M := rfl
theorem rng1_16 {M : List MO} : rng1G [.dat (.int 16)] M = .ok [.int 0, .int 1, .int 2, .int 3, .int 4, .int 5, .int 6, .int 7, .int 8, .int 9, .int 10, .int 11, .int 12, .int 13, .int 14, .int 15] M := rfl
local macro_rules
  | `(tactic| simp_arith [$ls,*]) => `(tactic| simp [-ne_eq, ok_bind, er_bind, no_bind, chk_bind, exB_okk, exB_er, exB_no, exB_chk, noEr_okk, noEr_no, noEr_chk, chk_true, chk_f, seqK_nx, seqK_rt, seqK_ex, callM_c, callR_ok, callR_er, callR_chk, runF_eq, endK_nil, okA_some, okA_none, sL, eVar_eq,
      eCon, opG, eOp, ixG, eIx, unG, eUn, aNil, aCons, datsOf, onDats, eTup, nLst, eNew, eCB, nCB, eCall, blG, tOf, fNot, fAnd, fOr, eB, eAnd, eOr, eNot, eIf, chG, eChain,
      rowG, iRow, rng2G, enumG, rng1_1, rng1_2, rng1_3, rng1_4, rng1_5, rng1_6, rng1_7, rng1_8, rng1_9, rng1_10, rng1_11, rng1_12, rng1_13, rng1_14, rng1_15, rng1_16, bName, bGo, bTup, sNext, sSeq, sAsg, asgT, sAsgT, sRet, sRetN, sDrop, sIf, sRaise, sNo, oI, oC, oEq, oNe, cLen, cI1, cI2, cInt, cTup, cIs, isK, plainD, kindD, isIB, isBl, isTup, isLst, isStr, isRow, rowB, eIsRow, eqS, scalD, bRow, rowD, atI_0, atI_1, atI_2, atI_3, atI_4, atI_5, atI_6, atI_7, atI_8, atI_9, atI_10, atI_11, atI_12, atI_13, atI_14, atI_15, $ls,*])

section
set_option Elab.async false
set_option linter.all false
set_option maxRecDepth 100000
set_option maxHeartbeats 4000000

open PySem L2 Lw
variable {A : Str → Addr}
theorem is_integer_eq {d : D} (h : plainD d = true) : m_is_integer A [.dat d] [] = .ok (.bl (isI d)) [] := by
  unfold m_is_integer f_is_integer
  cases d <;> first | (cases h; done) | simp_arith [isI]
theorem isi_int {i : Int} : m_is_integer A [.dat (.int i)] [] = .ok (.bl true) [] := is_integer_eq rfl
theorem isi_tup {ds : List D} : m_is_integer A [.dat (.tup ds)] [] = .ok (.bl false) [] := is_integer_eq rfl
theorem isi_lst {ds : List D} : m_is_integer A [.dat (.lst ds)] [] = .ok (.bl false) [] := is_integer_eq rfl
theorem lowest_eq {p q : Int} (h : 1 ≤ q) (hs : sm 9000 q) : m_lowest A [.dat (.int p), .dat (.int q)] [] = .ok (rq ((p : Rat) / (q : Rat))) [] := by
  unfold m_lowest f_lowest
  have w := divW (a := p) h hs
  have e := low_rat (p := p) h
  have e1 := congrArg Prod.fst e
  have e2 := congrArg Prod.snd e
  simp_arith [w.1, w.2]
  simp only [low] at e1 e2
  rw [e1, e2]
  exact ⟨rfl, rfl⟩
theorem isrow_tup {ds : List D} : m_is_row A [.dat (.tup ds)] [] = .ok (.bl true) [] := by
  unfold m_is_row f_is_row
  simp_arith []
theorem isrow_lst {ds : List D} : m_is_row A [.dat (.lst ds)] [] = .ok (.bl true) [] := by
  unfold m_is_row f_is_row
  simp_arith []
theorem is_ratio_rq {x : Rat} : m_is_ratio A [.dat (rq x)] [] = .ok (.bl true) [] := by
  unfold m_is_ratio f_is_ratio
  have := den_pos' x
  simp_arith [isi_int, isi_tup, isrow_tup, this]
theorem rq_id {x : Rat} : (((x.num : Int) : Rat) / ((x.den : Int) : Rat)) = x := by rw [int_den]; exact rat_num_den x
theorem ratio_of_rq {x : Rat} (h : sz 9000 x) : m_ratio_of A [.dat (rq x)] [] = .ok (rq x) [] := by
  unfold m_ratio_of f_ratio_of
  have := den_pos' x
  have l := lowest_eq (A := A) (p := x.num) this h.2
  rw [rq_id] at l
  simp_arith [is_ratio_rq, isi_tup, l]
theorem times_of {d e : D} {x y : Rat} (e1 : m_ratio_of A [.dat d] [] = .ok (rq x) []) (e2 : m_ratio_of A [.dat e] [] = .ok (rq y) []) (hx : sz 4000 x) (hy : sz 4000 y) : m_times A [.dat d, .dat e] [] = .ok (rq (x * y)) [] := by
  unfold m_times f_times
  have w1 := mulW4 hx.1 hy.1
  have w2 := mulW4 hx.2 hy.2
  have hp : (1 : Int) ≤ x.den * y.den := by have := den_pos' x; have := den_pos' y; exact Int.mul_pos (by omega) (by omega)
  have l := lowest_eq (A := A) (p := x.num * y.num) hp (sm_up (sm_mul hx.2 hy.2) (by decide))
  rw [mul_rat] at l
  simp_arith [e1, e2, w1, w2, rowD, l]
theorem times_eq {x y : Rat} (hx : sz 4000 x) (hy : sz 4000 y) : m_times A [.dat (rq x), .dat (rq y)] [] = .ok (rq (x * y)) [] :=
  times_of (ratio_of_rq (sz_up hx (by decide))) (ratio_of_rq (sz_up hy (by decide))) hx hy
theorem mpos (x y : Rat) : (1 : Int) ≤ x.den * y.den := by have := den_pos' x; have := den_pos' y; exact Int.mul_pos (by omega) (by omega)
theorem plus_of {d e : D} {x y : Rat} (e1 : m_ratio_of A [.dat d] [] = .ok (rq x) []) (e2 : m_ratio_of A [.dat e] [] = .ok (rq y) []) (hx : sz 2000 x) (hy : sz 2000 y) : m_plus A [.dat d, .dat e] [] = .ok (rq (x + y)) [] := by
  unfold m_plus f_plus
  have w1 := mulW hx.1 hy.2 (by decide) (by decide) (by decide)
  have w2 := mulW hy.1 hx.2 (by decide) (by decide) (by decide)
  have w3 := mulW hx.2 hy.2 (by decide) (by decide) (by decide)
  have l := lowest_eq (A := A) (p := x.num * y.den + y.num * x.den) (mpos x y) (sm_up (sm_mul hx.2 hy.2) (by decide))
  rw [add_rat] at l
  simp_arith [e1, e2, w1, w2, w3, l]
theorem plus_eq {x y : Rat} (hx : sz 2000 x) (hy : sz 2000 y) : m_plus A [.dat (rq x), .dat (rq y)] [] = .ok (rq (x + y)) [] :=
  plus_of (ratio_of_rq (sz_up hx (by decide))) (ratio_of_rq (sz_up hy (by decide))) hx hy
theorem minus_of {d e : D} {x y : Rat} (e1 : m_ratio_of A [.dat d] [] = .ok (rq x) []) (e2 : m_ratio_of A [.dat e] [] = .ok (rq y) []) (hx : sz 2000 x) (hy : sz 2000 y) : m_minus A [.dat d, .dat e] [] = .ok (rq (x - y)) [] := by
  unfold m_minus f_minus
  have w1 := mulW hx.1 hy.2 (by decide) (by decide) (by decide)
  have w2 := mulW hy.1 hx.2 (by decide) (by decide) (by decide)
  have w3 := mulW hx.2 hy.2 (by decide) (by decide) (by decide)
  have l := lowest_eq (A := A) (p := x.num * y.den - y.num * x.den) (mpos x y) (sm_up (sm_mul hx.2 hy.2) (by decide))
  rw [sub_rat] at l
  simp_arith [e1, e2, w1, w2, w3, l]
theorem minus_eq {x y : Rat} (hx : sz 2000 x) (hy : sz 2000 y) : m_minus A [.dat (rq x), .dat (rq y)] [] = .ok (rq (x - y)) [] :=
  minus_of (ratio_of_rq (sz_up hx (by decide))) (ratio_of_rq (sz_up hy (by decide))) hx hy
theorem over_eq {x y : Rat} (hx : sz 4000 x) (hy : sz 4000 y) (h0 : y ≠ 0) : m_over A [.dat (rq x), .dat (rq y)] [] = .ok (rq (x / y)) [] := by
  unfold m_over f_over
  have e1 := ratio_of_rq (A := A) (sz_up hx (show 4000 ≤ 9000 by decide))
  have e2 := ratio_of_rq (A := A) (sz_up hy (show 4000 ≤ 9000 by decide))
  have w1 := mulW hx.1 hy.2 (by decide) (by decide) (by decide)
  have w2 := mulW hx.2 hy.1 (by decide) (by decide) (by decide)
  have w3 := mulW (sm_neg hx.1) hy.2 (by decide) (by decide) (by decide)
  have w4 := mulW (sm_neg hx.2) hy.1 (by decide) (by decide) (by decide)
  have n0 : ¬ y.num = 0 := fun e => h0 (num_eq0.mp e)
  by_cases hn : y.num < 0
  · have l := lowest_eq (A := A) (p := -x.num * y.den) (over_neg (x := x) (num_neg'.mp hn)) (sm_up (sm_mul (sm_neg hx.2) hy.1) (by decide))
    rw [div_rat' _ _ h0] at l
    simp_arith [e1, e2, w3, w4, n0, hn, l]
  · have hp : 0 < y.num := by omega
    have l := lowest_eq (A := A) (p := x.num * y.den) (over_pos (x := x) (num_pos'.mp hp)) (sm_up (sm_mul hx.2 hy.1) (by decide))
    rw [div_rat _ _ h0] at l
    simp_arith [e1, e2, w1, w2, n0, hn, l]
def inU (x : Rat) : Prop := -1 < x ∧ x < 1
theorem inU_abs {x : Rat} (h : inU x) : ¬ ((x.den : Int) ≤ if x.num < 0 then -x.num else x.num) := by
  have h1 := (Rat.lt_iff _ _).mp h.1
  have h2 := (Rat.lt_iff _ _).mp h.2
  simp at h1 h2
  split <;> omega
theorem pull_of_rq {x : Rat} (h : sz 9000 x) (hu : inU x) : m_pull_of A [.dat (rq x)] [] = .ok (rq x) [] := by
  unfold m_pull_of f_pull_of
  have z := inU_abs hu
  simp_arith [ratio_of_rq h, z]
theorem star_means_eq {x y z : Rat} (hx : sz 4000 x) (hy : sz 4000 y) (hz : sz 4000 z) (ux : inU x) (uy : inU y) (uz : inU z) :
    m_star_means A [.dat (rq x), .dat (rq y), .dat (rq z)] [] = .ok (.tup [rq (x * y), rq (x * z), rq (y * z)]) [] := by
  unfold m_star_means f_star_means
  have up := fun {x : Rat} (h : sz 4000 x) => sz_up h (show 4000 ≤ 9000 by decide)
  simp_arith [sPar, pull_of_rq (A := A) (up hx) ux, pull_of_rq (A := A) (up hy) uy, pull_of_rq (A := A) (up hz) uz, times_eq (A := A) hx hy, times_eq (A := A) hx hz, times_eq (A := A) hy hz]

theorem ratio_of_int {i : Int} : m_ratio_of A [.dat (.int i)] [] = .ok (rq (i : Rat)) [] := by
  unfold m_ratio_of f_ratio_of
  have e : m_is_ratio A [.dat (.int i)] [] = .ok (.bl true) [] := by
    unfold m_is_ratio f_is_ratio
    simp_arith [isi_int]
  simp_arith [e, isi_int]
theorem ratio_of_lst {x : Rat} (h : sz 9000 x) : m_ratio_of A [.dat (.lst [.int x.num, .int x.den])] [] = .ok (rq x) [] := by
  unfold m_ratio_of f_ratio_of
  have := den_pos' x
  have l := lowest_eq (A := A) (p := x.num) this h.2
  rw [rq_id] at l
  have e : m_is_ratio A [.dat (.lst [.int x.num, .int x.den])] [] = .ok (.bl true) [] := by
    unfold m_is_ratio f_is_ratio
    simp_arith [isi_int, isi_lst, isrow_lst, this]
  simp_arith [e, isi_lst, l]
theorem rq_int {i : Int} : rq (i : Rat) = .tup [.int i, .int 1] := by simp [rq]

def dbl (x y z : Rat) : Rat := 2 * (x * y * (1 - z * z)) / (1 + x * x * (y * y) - z * z * (x * x + y * y))
theorem sz_int {n : Nat} {i : Int} (h : sm n i) (h1 : 1 ≤ n) : sz n (i : Rat) := by
  refine ⟨?_, ?_⟩
  · simpa using h
  · have : (2 : Nat) ^ 1 ≤ 2 ^ n := Nat.pow_le_pow_right (by decide) h1
    simp [sm]; omega
theorem sq_lt {x : Rat} (h : inU x) : x * x < 1 := by
  have := Rat.mul_pos (a := 1 - x) (b := 1 + x) (by have := h.2; grind) (by have := h.1; grind)
  grind
theorem sq_nn (x : Rat) : 0 ≤ x * x := by
  rcases (by grind : 0 ≤ x ∨ 0 ≤ -x) with h | h
  · exact Rat.mul_nonneg h h
  · have := Rat.mul_nonneg h h; grind
theorem dbl_den {x y z : Rat} (hx : inU x) (hy : inU y) (hz : inU z) : 0 < 1 + x * x * (y * y) - z * z * (x * x + y * y) := by
  have a := sq_lt hx
  have b := sq_lt hy
  have c := sq_lt hz
  have h1 := Rat.mul_pos (a := 1 - x * x) (b := 1 - y * y) (by grind) (by grind)
  have h2 := Rat.mul_nonneg (a := 1 - z * z) (b := x * x + y * y) (by grind) (by have := sq_nn x; have := sq_nn y; grind)
  grind
theorem double_at_eq {x y z : Rat} (hx : sz 20 x) (hy : sz 20 y) (hz : sz 20 z) (ux : inU x) (uy : inU y) (uz : inU z) :
    m_double_at A [.dat (rq x), .dat (rq y), .dat (rq z)] [] = .ok (rq (dbl x y z)) [] := by
  unfold m_double_at f_double_at
  have s1 : sz 20 (1 : Rat) := sz_int (i := 1) (by decide) (by decide)
  have s2 : sz 20 (2 : Rat) := sz_int (i := 2) (by decide) (by decide)
  have xx := sz_mul hx hx
  have yy := sz_mul hy hy
  have zz := sz_mul hz hz
  have xy := sz_mul hx hy
  have o1 := sz_sub s1 zz
  have o2 := sz_mul xy o1
  have o3 := sz_mul s2 o2
  have o4 := sz_mul xx yy
  have o5 := sz_add s1 o4
  have o6 := sz_add xx yy
  have o7 := sz_mul zz o6
  have o8 := sz_sub o5 o7
  have n0 := dbl_den ux uy uz
  have i1 : m_ratio_of A [.dat (.int 1)] [] = .ok (rq (1 : Rat)) [] := ratio_of_int (i := 1)
  have i2 : m_ratio_of A [.dat (.int 2)] [] = .ok (rq (2 : Rat)) [] := ratio_of_int (i := 2)
  have r := fun {x : Rat} {n : Nat} (h : sz n x) (l : n ≤ 9000) => ratio_of_rq (A := A) (sz_up h l)
  have e1 := times_eq (A := A) (sz_up hx (by decide)) (sz_up hx (by decide))
  have e2 := times_eq (A := A) (sz_up hy (by decide)) (sz_up hy (by decide))
  have e3 := times_eq (A := A) (sz_up hz (by decide)) (sz_up hz (by decide))
  have e4 := times_eq (A := A) (sz_up hx (by decide)) (sz_up hy (by decide))
  have e5 := minus_of i1 (r zz (by decide)) (sz_up s1 (by decide)) (sz_up zz (by decide))
  have e6 := times_eq (A := A) (sz_up xy (by decide)) (sz_up o1 (by decide))
  have e7 := times_of i2 (r o2 (by decide)) (sz_up s2 (by decide)) (sz_up o2 (by decide))
  have e8 := times_eq (A := A) (sz_up xx (by decide)) (sz_up yy (by decide))
  have e9 := plus_of i1 (r o4 (by decide)) (sz_up s1 (by decide)) (sz_up o4 (by decide))
  have ea := plus_eq (A := A) (sz_up xx (by decide)) (sz_up yy (by decide))
  have eb := times_eq (A := A) (sz_up zz (by decide)) (sz_up o6 (by decide))
  have ec := minus_eq (A := A) (sz_up o5 (by decide)) (sz_up o7 (by decide))
  have nn : 1 + x * x * (y * y) - z * z * (x * x + y * y) ≠ 0 := by grind
  have ed := over_eq (A := A) (sz_up o3 (by decide)) (sz_up o8 (by decide)) nn
  simp only [rq] at *
  simp_arith [sPar, e1, e2, e3, e4, e5, e6, e7, e8, e9, ea, eb, ec, ed, dbl]


end

section
set_option Elab.async false
set_option linter.all false
set_option maxRecDepth 100000
set_option maxHeartbeats 4000000

open PySem L2 Lw
variable {A : Str → Addr}
theorem fold_fst : ∀ {xs : List Rat} {a : Nat} {g : G}, (xs.foldl (fun (s : Nat × G) x => (Nat.lcm s.1 x.den, G.dat (rq x))) (a, g)).1 = lcms xs a
  | [], _, _ => rfl
  | x :: xs, a, g => fold_fst (xs := xs)
theorem over_common_eq {d : D} {xs : List Rat} {n : Nat} (hd : d = .lst (xs.map rq) ∨ d = .tup (xs.map rq)) (hx : ∀ x ∈ xs, sz n x) (hl : n * xs.length + 2 ≤ 8000) (hl2 : xs.length < 16777216) (hn : 1 ≤ n) :
    m_over_common A [.dat d] [] = .ok (.tup [.lst (xs.map fun x => .int (x.num * ((lcms xs 1 : Nat) / (x.den : Int)))), .int (lcms xs 1 : Nat)]) [] ∧ lcms xs 1 < 2 ^ (1 + n * xs.length) := by
  have key := forL_inv (α := Rat) (σ := Nat × G) (u := fun x => rq x) (b := bName 2) (f := sAsg 1 (eCB cLcm (aCons (eVar 1) (aCons (eIx (eVar 2) (eCon (.int 1))) aNil))))
    (enc := fun s => [.dat d, .dat (.int (s.1 : Nat)), s.2, .no, .no]) (Ms := fun _ => []) (step := fun s x => (Nat.lcm s.1 x.den, .dat (rq x)))
    (P := fun s ys => 0 < s.1 ∧ s.1 < 2 ^ (1 + n * (xs.length - ys.length)) ∧ (∀ y ∈ ys, sz n y) ∧ ys.length ≤ xs.length)
    (fun s x ys hp => by
      obtain ⟨h0, h1, h2, h3⟩ := hp
      have hs := h2 x List.mem_cons_self
      have dp := x.den_pos
      have hb : x.den < 2 ^ n := by have := hs.2; simpa [sm] using this
      have e : 1 + n * (xs.length - (x :: ys).length) + n = 1 + n * (xs.length - ys.length) := by
        simp only [List.length_cons] at h3 ⊢
        have : xs.length - ys.length = xs.length - (ys.length + 1) + 1 := by omega
        rw [this, Nat.mul_add]; omega
      have hm : 1 + n * (xs.length - (x :: ys).length) ≤ 13000 := by
        have : n * (xs.length - (x :: ys).length) ≤ n * xs.length := Nat.mul_le_mul_left _ (by omega)
        omega
      refine ⟨⟨Nat.lcm_pos h0 dp, ?_, fun y hy => h2 y (List.mem_cons_of_mem _ hy), by simp at h3; omega⟩, ?_⟩
      · have := lcm_sm h1 hb h0 dp
        rwa [e] at this
      · have g1 : sm 13000 ((s.1 : Nat) : Int) := sm_up (a := 1 + n * (xs.length - (x :: ys).length)) (by simpa [sm] using h1) hm
        have g2 : sm 13000 ((x.den : Nat) : Int) := sm_up hs.2 (by
          have : n * 1 ≤ n * xs.length := Nat.mul_le_mul_left _ (by simp at h3; omega)
          omega)
        refine ⟨_, rfl, ?_⟩
        simp_arith [cLcm, g1, g2])
    (xs := xs) (s := (1, .no)) ⟨by decide, by simp, hx, Nat.le_refl _⟩
  obtain ⟨k1, k0, k2, _, _⟩ := key
  have ef := fold_fst (xs := xs) (a := 1) (g := .no)
  rw [ef] at k0 k2
  simp only [List.length_nil, Nat.sub_zero] at k2
  refine ⟨?_, k2⟩
  generalize hs : xs.foldl (fun (s : Nat × G) x => (Nat.lcm s.1 x.den, G.dat (rq x))) (1, .no) = s at ef k1
  have g0 : (if (xs.length : Nat) < 16777216 then True else False) := by simp [hl2]
  have lc := lcGo_mapA (α := Rat) (b := bRow [bName 3, bName 4]) (e := eOp (oC CMulW fun i j => .int (i * j)) (eVar 3) (eOp (oC CDivW fun i j => .int (i / j)) (eVar 1) (eVar 4)))
    (Γ := wipeG [.dat d, .dat (.int (s.1 : Nat)), s.2, .no, .no] [3, 4]) (M := []) (u := fun x => rq x) (v := fun x => .int (x.num * ((s.1 : Nat) / (x.den : Int)))) (xs := xs) (fun x hxm => by
      have hz := hx x hxm
      have hlen : 1 ≤ xs.length := by cases xs with | nil => cases hxm | cons _ _ => simp
      have hn2 : n ≤ n * xs.length := Nat.le_mul_of_pos_right _ hlen
      have hL : sm (1 + n * xs.length) ((s.1 : Nat) : Int) := by rw [ef]; simpa [sm] using k2
      have hdv : CDivW ((s.1 : Nat) : Int) (x.den : Int) := wide_div (by have := x.den_pos; omega) (b := 8000) (by
        have := sm_up hz.2 (show n ≤ 8000 by omega); unfold sm at this; omega) (by decide) (by decide)
      have hq : sm (1 + n * xs.length) (((s.1 : Nat) : Int) / (x.den : Int)) := sm_div hL (by omega)
      have hm : CMulW x.num (((s.1 : Nat) : Int) / (x.den : Int)) := mulW hz.1 hq hn (by omega) (by omega)
      refine ⟨_, rfl, ?_⟩
      simp_arith [wipeG, hdv, hm])
  unfold m_over_common f_over_common
  have e1 : s.1 = lcms xs 1 := ef
  rw [e1] at k1 lc
  replace k1 : forL _ _ (xs.map rq) [_, .dat (.int 1), .no, .no, .no] [] = _ := k1
  replace lc : lcGo _ _ _ _ (xs.map rq) _ = _ := lc
  rcases hd with rfl | rfl
  · simp_arith [sFor, k1, nLc, lc, hl2]
  · simp_arith [sFor, k1, nLc, lc, hl2]
theorem sum_of_eq {d : D} {xs : List Rat} {n : Nat} (hd : d = .lst (xs.map rq) ∨ d = .tup (xs.map rq)) (hx : ∀ x ∈ xs, sz n x) (hl : n * xs.length + 2 ≤ 8000) (hl2 : xs.length < 16777216) (hn : 1 ≤ n) :
    m_sum_of A [.dat d] [] = .ok (rq xs.sum) [] := by
  obtain ⟨e1, e2⟩ := over_common_eq (A := A) hd hx hl hl2 hn
  have hp : 0 < lcms xs 1 := lcms_pos (by decide)
  have t := tops_sum hp (xs := xs) fun x hx => (lcms_dvd (xs := xs) (a := 1)).2 x hx
  have l := lowest_eq (A := A) (p := (xs.map fun x => x.num * ((lcms xs 1 : Nat) / (x.den : Int))).sum) (q := (lcms xs 1 : Nat)) (by omega) (sm_up (a := 1 + n * xs.length) (by simpa [sm] using e2) (by omega))
  rw [t] at l
  have hi : intsOf (xs.map fun x => D.int (x.num * ((lcms xs 1 : Nat) / (x.den : Int)))) = some (xs.map fun x => x.num * ((lcms xs 1 : Nat) / (x.den : Int))) := by
    generalize (lcms xs 1 : Nat) = L
    clear hd hx hl hl2 e1 e2 hp t l
    induction xs with
    | nil => rfl
    | cons x xs ih => simp only [List.map_cons, intsOf, ih, Option.map_some]
  unfold m_sum_of f_sum_of
  simp_arith [e1, cSum, hi, l]


end

section
set_option Elab.async false
set_option linter.all false
set_option maxRecDepth 100000
set_option maxHeartbeats 4000000

open PySem L2 Lw
variable {A : Str → Addr}
def sgn (x : Rat) : Int := if x = 0 then 0 else if 0 < x then 1 else -1
theorem sign_of_of {d : D} {x : Rat} (e : m_ratio_of A [.dat d] [] = .ok (rq x) []) : m_sign_of A [.dat d] [] = .ok (.int (sgn x)) [] := by
  unfold m_sign_of f_sign_of sgn
  by_cases h0 : x = 0
  · subst h0
    simp_arith [e]
  · have n0 : ¬ x.num = 0 := fun q => h0 (num_eq0.mp q)
    by_cases hp : 0 < x
    · have np := num_pos'.mpr hp
      simp_arith [e, n0, h0, hp, np]
    · have np : ¬ 0 < x.num := fun q => hp (num_pos'.mp q)
      simp_arith [e, n0, h0, hp, np]
theorem sz_1 {n : Nat} (h : 1 ≤ n) : sz n (1 : Rat) := sz_int (i := 1) (by unfold sm; exact Nat.lt_of_lt_of_le (by decide) (Nat.pow_le_pow_right (by decide) h)) h
theorem sz_m1 {n : Nat} (h : 1 ≤ n) : sz n (-1 : Rat) := sz_int (i := -1) (by unfold sm; exact Nat.lt_of_lt_of_le (by decide) (Nat.pow_le_pow_right (by decide) h)) h
theorem ro_1 : m_ratio_of A [.dat (.int 1)] [] = .ok (rq (1 : Rat)) [] := ratio_of_int (i := 1)
theorem ro_2 : m_ratio_of A [.dat (.int 2)] [] = .ok (rq (2 : Rat)) [] := ratio_of_int (i := 2)
theorem ro_m1 : m_ratio_of A [.dat (.int (-1))] [] = .ok (rq (-1 : Rat)) [] := ratio_of_int (i := -1)
theorem sums_of_three_eq {x y z : Rat} (hx : sz 200 x) (hy : sz 200 y) (hz : sz 200 z) :
    m_sums_of_three A [.dat (rq x), .dat (rq y), .dat (rq z)] [] = .ok (.lst [rq (1 + x + y + z), rq (1 + x - y - z), rq (1 - x + y - z), rq (1 - x - y + z)]) [] := by
  unfold m_sums_of_three f_sums_of_three
  have up := fun {x : Rat} (h : sz 200 x) => sz_up h (show 200 ≤ 4000 by decide)
  have r := fun {x : Rat} (h : sz 200 x) => ratio_of_rq (A := A) (sz_up h (show 200 ≤ 9000 by decide))
  have p := fun {x : Rat} (h : sz 200 x) => times_of (A := A) ro_1 (r h) (sz_1 (by decide)) (up h)
  have m := fun {x : Rat} (h : sz 200 x) => times_of (A := A) ro_m1 (r h) (sz_m1 (by decide)) (up h)
  have S := fun {x y z : Rat} (hx : sz 201 x) (hy : sz 201 y) (hz : sz 201 z) => sum_of_eq (A := A) (d := .lst [rq 1, rq x, rq y, rq z]) (xs := [1, x, y, z]) (n := 201) (.inl rfl)
    (by intro w hw; simp at hw; rcases hw with rfl | rfl | rfl | rfl <;> first | exact sz_1 (by decide) | assumption) (by simp) (by simp) (by decide)
  have s1 := fun {x : Rat} (h : sz 200 x) => sz_mul (sz_1 (n := 1) (by decide)) h
  have s2 := fun {x : Rat} (h : sz 200 x) => sz_mul (sz_m1 (n := 1) (by decide)) h
  have a1 := S (s1 hx) (s1 hy) (s1 hz)
  have a2 := S (s1 hx) (s2 hy) (s2 hz)
  have a3 := S (s2 hx) (s1 hy) (s2 hz)
  have a4 := S (s2 hx) (s2 hy) (s1 hz)
  simp only [rq, List.sum_cons, List.sum_nil, Rat.add_zero] at *
  rw [show (1 : Rat) + (1 * x + (1 * y + 1 * z)) = 1 + x + y + z by grind] at a1
  rw [show (1 : Rat) + (1 * x + (-1 * y + -1 * z)) = 1 + x - y - z by grind] at a2
  rw [show (1 : Rat) + (-1 * x + (1 * y + -1 * z)) = 1 - x + y - z by grind] at a3
  rw [show (1 : Rat) + (-1 * x + (-1 * y + 1 * z)) = 1 - x - y + z by grind] at a4
  have px := p hx
  have py := p hy
  have pz := p hz
  have mx := m hx
  have my := m hy
  have mz := m hz
  simp [Rat.one_mul, Rat.neg_mul] at a1 a2 a3 a4 px py pz mx my mz
  simp_arith [nLc, lcGo, tTrue, wipeG, px, py, pz, mx, my, mz, a1, a2, a3, a4]
theorem sums_above_eq {x y z : Rat} (hx : sz 200 x) (hy : sz 200 y) (hz : sz 200 z) (h0 : 0 < 1 + x + y + z) (h1 : 0 < 1 + x - y - z) (h2 : 0 < 1 - x + y - z) (h3 : 0 < 1 - x - y + z) :
    m_sums_above A [.dat (rq x), .dat (rq y), .dat (rq z)] [] = .ok (.lst [rq (1 + x + y + z), rq (1 + x - y - z), rq (1 - x + y - z), rq (1 - x - y + z)]) [] := by
  unfold m_sums_above f_sums_above
  have r := fun {x : Rat} (h : sz 200 x) => ratio_of_rq (A := A) (sz_up h (show 200 ≤ 9000 by decide))
  have e := sums_of_three_eq (A := A) hx hy hz
  have g1 := sz_1 (n := 1) (by decide)
  have S := fun {w : Rat} {n : Nat} (h : sz n w) (l : n ≤ 9000) (hp : 0 < w) => show m_sign_of A [.dat (rq w)] [] = .ok (.int 1) [] by
    rw [sign_of_of (ratio_of_rq (sz_up h l))]; unfold sgn; rw [if_neg (by grind), if_pos hp]
  have t0 := S (sz_add (sz_add (sz_add g1 hx) hy) hz) (by decide) h0
  have t1 := S (sz_sub (sz_sub (sz_add g1 hx) hy) hz) (by decide) h1
  have t2 := S (sz_sub (sz_add (sz_sub g1 hx) hy) hz) (by decide) h2
  have t3 := S (sz_add (sz_sub (sz_sub g1 hx) hy) hz) (by decide) h3
  simp_arith [r hx, r hy, r hz, e, sFor, iArgs, enumD_R, enR, forL, t0, t1, t2, t3]
theorem triangle_squares_eq {x y z : Rat} (hx : sz 200 x) (hy : sz 200 y) (hz : sz 200 z) (h0 : 0 < 1 + x + y + z) (h1 : 0 < 1 + x - y - z) (h2 : 0 < 1 - x + y - z) (h3 : 0 < 1 - x - y + z) :
    m_triangle_squares A [.dat (rq x), .dat (rq y), .dat (rq z)] [] = .ok (.tup [rq ((1 + x + y + z) * (1 + x - y - z) / ((1 - x + y - z) * (1 - x - y + z))),
      rq ((1 + x + y + z) * (1 - x + y - z) / ((1 + x - y - z) * (1 - x - y + z))), rq ((1 + x + y + z) * (1 - x - y + z) / ((1 + x - y - z) * (1 - x + y - z)))]) [] := by
  unfold m_triangle_squares f_triangle_squares
  have e := sums_above_eq (A := A) hx hy hz h0 h1 h2 h3
  have g1 := sz_1 (n := 1) (by decide)
  have u0 := sz_add (sz_add (sz_add g1 hx) hy) hz
  have u1 := sz_sub (sz_sub (sz_add g1 hx) hy) hz
  have u2 := sz_sub (sz_add (sz_sub g1 hx) hy) hz
  have u3 := sz_add (sz_sub (sz_sub g1 hx) hy) hz
  generalize 1 + x + y + z = a at *
  generalize 1 + x - y - z = b at *
  generalize 1 - x + y - z = c at *
  generalize 1 - x - y + z = d at *
  have T := fun {x y : Rat} {n m : Nat} (h : sz n x) (h' : sz m y) (l : n ≤ 4000) (l' : m ≤ 4000) => times_eq (A := A) (sz_up h l) (sz_up h' l')
  have O := fun {x y : Rat} {n m : Nat} (h : sz n x) (h' : sz m y) (l : n ≤ 4000) (l' : m ≤ 4000) (h0 : 0 < y) => over_eq (A := A) (sz_up h l) (sz_up h' l') (by grind)
  have T01 := T u0 u1 (by decide) (by decide)
  have T02 := T u0 u2 (by decide) (by decide)
  have T03 := T u0 u3 (by decide) (by decide)
  have T12 := T u1 u2 (by decide) (by decide)
  have T13 := T u1 u3 (by decide) (by decide)
  have T23 := T u2 u3 (by decide) (by decide)
  have O1 := O (sz_mul u0 u1) (sz_mul u2 u3) (by decide) (by decide) (Rat.mul_pos h2 h3)
  have O2 := O (sz_mul u0 u2) (sz_mul u1 u3) (by decide) (by decide) (Rat.mul_pos h1 h3)
  have O3 := O (sz_mul u0 u3) (sz_mul u1 u2) (by decide) (by decide) (Rat.mul_pos h1 h2)
  simp_arith [e, T01, T02, T03, T12, T13, T23, O1, O2, O3]


end

section
set_option Elab.async false
set_option linter.all false
set_option maxRecDepth 100000
set_option maxHeartbeats 4000000
set_option exponentiation.threshold 100000

open PySem L2 Lw
variable {A : Str → Addr}
theorem isl_eq {d : D} (h : plainD d = true) : m_l_int A [.dat d] [] = .ok (.bl (isI d)) [] := by
  unfold m_l_int f_l_int
  cases d <;> first | (cases h; done) | simp_arith [isI]
theorem isl_int {i : Int} : m_l_int A [.dat (.int i)] [] = .ok (.bl true) [] := isl_eq rfl
abbrev ES := (Nat × Nat) × G × G
def estep (s : ES) (i : Nat) : ES := if 0 < s.1.2 then ((s.1.2, s.1.1 % s.1.2), .dat (.int (i : Nat)), .dat (.int ((s.1.1 % s.1.2 : Nat) : Int))) else (s.1, .dat (.int (i : Nat)), s.2.2)
theorem estep_fold : ∀ (l : List Nat) (s : ES), (l.foldl estep s).1 = euc l.length s.1
  | [], s => rfl
  | i :: l, s => by
    rw [List.foldl_cons, estep_fold l, List.length_cons]
    show euc l.length (estep s i).1 = euc l.length (if 0 < s.1.2 then (s.1.2, s.1.1 % s.1.2) else s.1)
    unfold estep
    by_cases h : 0 < s.1.2
    · rw [if_pos h, if_pos h]
    · rw [if_neg h, if_neg h]
theorem sSeq_nx {f h : SF} {Γ Γ1 : List G} {M M1 : List MO} (e : f Γ M = .ok (.nx Γ1) M1) : sSeq f h Γ M = h Γ1 M1 := by unfold sSeq; rw [e]; rfl
theorem sFor_ok {fi : NF} {b : BF} {f : SF} {Γ : List G} {M M1 : List MO} {ds : List D} (e : fi Γ M = .ok ds M1) : sFor fi b f Γ M = forL b f ds Γ M1 := by unfold sFor; rw [e]; rfl
theorem absE (a : Int) : (if a < 0 then -a else a) = (a.natAbs : Int) := by split <;> omega
theorem fmod_nat (a b : Nat) : Int.fmod (a : Int) (b : Int) = ((a % b : Nat) : Int) := by
  rw [Int.fmod_eq_emod_of_nonneg _ (by omega), Int.natCast_emod]
theorem l_common_eq {a b : Int} (pb : sm 1900 b) : m_l_common A [.dat (.int a), .dat (.int b)] [] = .ok (.int ((Nat.gcd a.natAbs b.natAbs : Nat) : Int)) [] := by
  have hb1 : b.natAbs < 10 ^ 700 := Nat.lt_trans pb (by decide)
  have hl := strI_le hb1
  have hg := strI_len (n := b.natAbs)
  have hlog : b.natAbs.log2 < 1920 := by
    exact Nat.lt_of_lt_of_le (PySem.Flt.log2_lt_of (by decide) pb) (by decide)
  clear hb1 pb
  generalize hk : (strI ((b.natAbs : Nat) : Int)).length = k at hl hg
  have hmul : CMulW 5 (k : Int) := mulW (a := 10) (b := 10) (by unfold sm; decide) (by unfold sm; omega) (by decide) (by decide) (by decide)
  have hsm : smInt (5 * (k : Int) + 6) := by unfold smInt; omega
  have hn : (5 * (k : Int) + 6).toNat = 5 * k + 6 := by omega
  have hz : k ≤ 16777216 := by omega
  have e0 : ∀ M, cStr [.dat (.int ((b.natAbs : Nat) : Int))] M = .ok (.dat (.str (strI ((b.natAbs : Nat) : Int)))) M := fun M => chk_t (by rw [Int.natAbs_natCast]; exact hlog)
  have e1 : ∀ M, cLenStr [.dat (.str (strI ((b.natAbs : Nat) : Int)))] M = .ok (.dat (.int (k : Int))) M := fun M => by
    rw [← hk]
    exact chk_t (by rw [hk]; exact hz)
  have er : ∀ M, rng1G [.dat (.int (5 * (k : Int) + 6))] M = .ok ((List.range (5 * k + 6)).map fun i => .int (i : Nat)) M := fun M => rng1_n (by omega) (by omega)
  have sr : List.map (fun i => D.int (0 + (i : Nat))) (List.range (5 * k + 6)) = List.map (fun i => D.int (i : Nat)) (List.range (5 * k + 6)) := by simp
  have key := forL_inv (α := Nat) (σ := ES) (u := fun i => D.int (i : Nat)) (b := bName 4) (f := sIf (tOf (eOp (oI fun i j => .bl (decide (j < i))) (eVar 3) (eCon (.int 0)))) (sSeq (sAsg 5 (eOp (oC (fun _ j => j ≠ 0) fun i j => .int (i.fmod j)) (eCB cInt (aCons (eVar 2) aNil)) (eVar 3)))
      (sSeq (sAsg 2 (eVar 3)) (sAsg 3 (eVar 5)))) sNext)
    (enc := fun s => [.dat (.int a), .dat (.int b), .dat (.int (s.1.1 : Nat)), .dat (.int (s.1.2 : Nat)), s.2.1, s.2.2]) (Ms := fun _ => []) (step := estep) (P := fun _ _ => True)
    (fun s i xs _ => by
      refine ⟨trivial, _, rfl, ?_⟩
      obtain ⟨⟨x, y⟩, g, g'⟩ := s
      unfold estep
      by_cases h : 0 < y
      · have h' : (0 : Int) < (y : Int) := by omega
        have h2 : (y : Int) ≠ 0 := by omega
        simp_arith [h, h', h2, fmod_nat]
        exact chk_t h2
      · have h' : ¬ (0 : Int) < (y : Int) := by omega
        simp_arith [h, h'])
    (xs := List.range (5 * k + 6)) (s := ((a.natAbs, b.natAbs), .no, .no)) trivial
  have k1 := key.1
  have ef := estep_fold (List.range (5 * k + 6)) ((a.natAbs, b.natAbs), .no, .no)
  rw [List.length_range] at ef
  have eg := euc_eq (x := a.natAbs) hg (show 5 * k + 3 ≤ 5 * k + 6 by omega)
  generalize (List.range (5 * k + 6)).foldl estep ((a.natAbs, b.natAbs), .no, .no) = s at k1 ef
  dsimp only at k1 ef
  rw [ef, eg] at k1
  unfold m_l_common f_l_common
  have q : (eCB cLenStr (aCons (eCB cStr (aCons (eVar 3) aNil)) aNil)) [.dat (.int a), .dat (.int b), .dat (.int a.natAbs), .dat (.int b.natAbs), .no, .no] [] = .ok (.dat (.int k)) [] := by
    have q0 : (eCB cStr (aCons (eVar 3) aNil)) [.dat (.int a), .dat (.int b), .dat (.int a.natAbs), .dat (.int b.natAbs), .no, .no] [] = .ok (.dat (.str (strI ((b.natAbs : Nat) : Int)))) [] := e0 []
    show (((eCB cStr (aCons (eVar 3) aNil)) _ []).bind fun g M1 => (aNil _ M1).bind fun gs M2 => .ok (g :: gs) M2).bind cLenStr = _
    rw [q0]
    exact e1 []
  have q2 : (eOp (oI fun i j => .int (i + j)) (eOp (oC CMulW fun i j => .int (i * j)) (eCon (.int 5)) (eCB cLenStr (aCons (eCB cStr (aCons (eVar 3) aNil)) aNil))) (eCon (.int 6))) [.dat (.int a), .dat (.int b), .dat (.int a.natAbs), .dat (.int b.natAbs), .no, .no] [] = .ok (.dat (.int (5 * (k : Int) + 6))) [] := by
    show (((Rz.ok (G.dat (.int 5)) ([] : List MO)).bind fun g1 M1 => ((eCB cLenStr (aCons (eCB cStr (aCons (eVar 3) aNil)) aNil)) _ M1).bind fun g2 M2 => opG _ g1 g2 M2).bind fun g1 M1 => (eCon (.int 6) _ M1).bind fun g2 M2 => opG _ g1 g2 M2) = _
    rw [ok_bind, q, ok_bind]
    show (chk (CMulW 5 (k : Int)) (Rz.ok (G.dat (.int (5 * (k : Int)))) ([] : List MO))).bind _ = _
    rw [chk_t hmul]
    rfl
  have q3 : iArgs rng1G (aCons (eOp (oI fun i j => .int (i + j)) (eOp (oC CMulW fun i j => .int (i * j)) (eCon (.int 5)) (eCB cLenStr (aCons (eCB cStr (aCons (eVar 3) aNil)) aNil))) (eCon (.int 6))) aNil) [.dat (.int a), .dat (.int b), .dat (.int a.natAbs), .dat (.int b.natAbs), .no, .no] [] = .ok ((List.range (5 * k + 6)).map fun i => D.int (i : Nat)) [] := by
    show (((eOp _ _ _) _ []).bind fun g M1 => (aNil _ M1).bind fun gs M2 => .ok (g :: gs) M2).bind rng1G = _
    rw [q2]
    simp only [ok_bind, aNil]
    rw [er]
  have s1 : sAsg 2 (eCB (cI1 fun i => if i < 0 then -i else i) (aCons (eVar 0) aNil)) [.dat (.int a), .dat (.int b), .no, .no, .no, .no] [] = .ok (.nx [.dat (.int a), .dat (.int b), .dat (.int a.natAbs), .no, .no, .no]) [] := by
    rw [← absE]; rfl
  have s2 : sAsg 3 (eCB (cI1 fun i => if i < 0 then -i else i) (aCons (eVar 1) aNil)) [.dat (.int a), .dat (.int b), .dat (.int a.natAbs), .no, .no, .no] [] = .ok (.nx [.dat (.int a), .dat (.int b), .dat (.int a.natAbs), .dat (.int b.natAbs), .no, .no]) [] := by
    rw [← absE b]; rfl
  have body : f_l_common A [.dat (.int a), .dat (.int b), .no, .no, .no, .no] [] = .ok (.rt (.dat (.int ((Nat.gcd a.natAbs b.natAbs : Nat) : Int)))) [] := by
    unfold f_l_common
    rw [sSeq_nx s1, sSeq_nx s2, sSeq_nx ((sFor_ok q3).trans k1)]
    rfl
  show chk _ ((noEr (f_l_common A [.dat (.int a), .dat (.int b), .no, .no, .no, .no] [])).bind (endK [])) = _
  rw [body]
  rfl


end

section
set_option Elab.async false
set_option linter.all false
set_option maxRecDepth 100000
set_option maxHeartbeats 4000000

open PySem L2 Lw
variable {A : Str → Addr}
theorem rat_cop (x : Rat) : Nat.gcd x.num.natAbs x.den = 1 := x.reduced
theorem l_ratio_rq {x : Rat} (h : sz 1900 x) : m_l_ratio A [.dat (rq x)] [] = .ok (.bl true) [] := by
  unfold m_l_ratio f_l_ratio
  have := den_pos' x
  have n1 : ¬ ((x.den : Int) < 1) := by omega
  have c := l_common_eq (A := A) (a := x.num) h.2
  rw [Int.natAbs_natCast, rat_cop x] at c
  simp_arith [isl_int, n1, c]
theorem l_is_rq {x : Rat} {p q : Int} (h : sz 1900 x) (hp : sm 1900 p) (hq : sm 1900 q) (hq0 : q ≠ 0) : m_l_is A [.dat (rq x), .dat (.tup [.int p, .int q])] [] = .ok (.bl (decide (x = (p : Rat) / (q : Rat)))) [] := by
  unfold m_l_is f_l_is
  have w1 := mulW h.1 hq (by decide) (by decide) (by decide)
  have w2 := mulW hp h.2 (by decide) (by decide) (by decide)
  have e : decide (x.num * q = p * (x.den : Int)) = decide (x = (p : Rat) / (q : Rat)) := by
    have dx := den_ne x
    have hx := rat_num_den x
    have q0 : (q : Rat) ≠ 0 := by intro z; exact hq0 (by exact_mod_cast z)
    refine decide_eq_decide.mpr ⟨fun z => ?_, fun z => ?_⟩
    · have z2 : ((x.num * q : Int) : Rat) = ((p * (x.den : Int) : Int) : Rat) := by rw [z]
      rw [Rat.intCast_mul, Rat.intCast_mul, int_den] at z2
      rw [← hx]
      grind
    · have z2 : ((x.num * q : Int) : Rat) = ((p * (x.den : Int) : Int) : Rat) := by
        rw [Rat.intCast_mul, Rat.intCast_mul, int_den]
        have : (x.num : Rat) = x * (x.den : Rat) := by rw [← hx]; grind
        rw [this, z]; grind
      exact_mod_cast z2
  simp_arith [l_ratio_rq h, w1, w2, ← e]


end

section
set_option Elab.async false
set_option linter.all false
set_option maxRecDepth 100000
set_option maxHeartbeats 4000000

open PySem L2 Lw
variable {A : Str → Addr}
/-- d tells the pull x -/
def PullD (A : Str → Addr) (d : D) (x : Rat) : Prop := m_pull_of A [.dat d] [] = .ok (rq x) []
theorem pd_tup {x : Rat} (h : sz 20 x) (hu : inU x) : PullD A (rq x) x := pull_of_rq (sz_up h (by decide)) hu
theorem pd_lst {x : Rat} (h : sz 20 x) (hu : inU x) : PullD A (.lst [.int x.num, .int x.den]) x := by
  unfold PullD m_pull_of f_pull_of
  have z := inU_abs hu
  simp_arith [ratio_of_lst (A := A) (sz_up h (show 20 ≤ 9000 by decide)), z]
theorem triangle_doubles_eq {d e f : D} {x y z : Rat} (px : PullD A d x) (py : PullD A e y) (pz : PullD A f z) (hx : sz 20 x) (hy : sz 20 y) (hz : sz 20 z) (ux : inU x) (uy : inU y) (uz : inU z) :
    m_triangle_doubles A [.dat d, .dat e, .dat f] [] = .ok (.tup [rq (dbl x y z), rq (dbl x z y), rq (dbl y z x)]) [] := by
  unfold m_triangle_doubles f_triangle_doubles
  unfold PullD at px py pz
  simp_arith [sPar, px, py, pz, double_at_eq (A := A) hx hy hz ux uy uz, double_at_eq (A := A) hx hz hy ux uz uy, double_at_eq (A := A) hy hz hx uy uz ux]
theorem star_means_of {d e f : D} {x y z : Rat} (px : PullD A d x) (py : PullD A e y) (pz : PullD A f z) (hx : sz 20 x) (hy : sz 20 y) (hz : sz 20 z) :
    m_star_means A [.dat d, .dat e, .dat f] [] = .ok (.tup [rq (x * y), rq (x * z), rq (y * z)]) [] := by
  unfold m_star_means f_star_means
  unfold PullD at px py pz
  have u := fun {x : Rat} (h : sz 20 x) => sz_up h (show 20 ≤ 4000 by decide)
  simp_arith [sPar, px, py, pz, times_eq (A := A) (u hx) (u hy), times_eq (A := A) (u hx) (u hz), times_eq (A := A) (u hy) (u hz)]
theorem double_pull_eq {d : D} {x : Rat} (px : PullD A d x) (hx : sz 20 x) : m_double_pull A [.dat d] [] = .ok (rq (2 * x / (1 + x * x))) [] := by
  unfold m_double_pull f_double_pull
  unfold PullD at px
  have xx := sz_mul hx hx
  have r := fun {x : Rat} {n : Nat} (h : sz n x) (l : n ≤ 9000) => ratio_of_rq (A := A) (sz_up h l)
  have s2 : sz 20 (2 : Rat) := sz_int (i := 2) (by decide) (by decide)
  have s1 : sz 20 (1 : Rat) := sz_int (i := 1) (by decide) (by decide)
  have e1 := times_of ro_2 (r hx (by decide)) (sz_up s2 (by decide)) (sz_up hx (by decide))
  have e2 := times_eq (A := A) (sz_up hx (by decide)) (sz_up hx (by decide))
  have e3 := plus_of ro_1 (r xx (by decide)) (sz_up s1 (by decide)) (sz_up xx (by decide))
  have nn : 1 + x * x ≠ 0 := by have := sq_nn x; grind
  have e4 := over_eq (A := A) (sz_up (sz_mul s2 hx) (by decide)) (sz_up (sz_add s1 xx) (by decide)) nn
  simp_arith [px, e1, e2, e3, e4]
theorem square_of_double_eq {d : D} {x : Rat} (px : PullD A d x) (hx : sz 600 x) (ux : inU x) : m_square_of_double A [.dat d] [] = .ok (rq ((1 + x) / (1 - x))) [] := by
  unfold m_square_of_double f_square_of_double
  unfold PullD at px
  have r := fun {x : Rat} {n : Nat} (h : sz n x) (l : n ≤ 9000) => ratio_of_rq (A := A) (sz_up h l)
  have s1 : sz 20 (1 : Rat) := sz_int (i := 1) (by decide) (by decide)
  have e3 := plus_of ro_1 (r hx (by decide)) (sz_up s1 (by decide)) (sz_up hx (by decide))
  have e4 := minus_of ro_1 (r hx (by decide)) (sz_up s1 (by decide)) (sz_up hx (by decide))
  have nn : 1 - x ≠ 0 := by have := ux.2; grind
  have e5 := over_eq (A := A) (sz_up (sz_add s1 hx) (by decide)) (sz_up (sz_sub s1 hx) (by decide)) nn
  simp_arith [px, e3, e4, e5]


end

section
set_option Elab.async false
set_option linter.all false
set_option maxRecDepth 100000
set_option maxHeartbeats 4000000

open PySem L2 Lw
variable {A : Str → Addr}
theorem l_no_eq {n i j : Nat} (h : j < n) : m_l_no A [.dat (.int n), .dat (.int i), .dat (.int j)] [] = .ok (.int ((i / 2 ^ (n - 1 - j) % 2 : Nat) : Int)) [] := by
  unfold m_l_no f_l_no
  have h1 : (0 : Int) ≤ (n : Int) - 1 - (j : Int) := by omega
  have h2 : ((n : Int) - 1 - (j : Int)).toNat = n - 1 - j := by omega
  have h3 : Int.fmod ((i : Int) / 2 ^ (n - 1 - j)) 2 = ((i / 2 ^ (n - 1 - j) % 2 : Nat) : Int) := by
    have e : (i : Int) / 2 ^ (n - 1 - j) = ((i / 2 ^ (n - 1 - j) : Nat) : Int) := by
      rw [Int.natCast_ediv, Int.natCast_pow]; rfl
    rw [e]; exact fmod_nat _ 2
  simp_arith [h1, h2, h3]
  exact chk_t (by omega)
abbrev WS := (Nat → Int) × G
def wstep (w : Nat → Int) (s : WS) (i : Nat) : WS := (fun j => if j = i then s.1 j * w i else s.1 j, .dat (.int (i : Nat)))
theorem wfold (w : Nat → Int) : ∀ (l : List Nat) (s : WS), l.Nodup → ∀ j, (l.foldl (wstep w) s).1 j = if j ∈ l then s.1 j * w j else s.1 j
  | [], s, _, j => by simp
  | i :: l, s, h, j => by
    obtain ⟨h1, h2⟩ := List.nodup_cons.mp h
    rw [List.foldl_cons, wfold w l _ h2 j]
    by_cases e : j = i
    · subst e; simp [h1, wstep]
    · simp [e, wstep]
/-- the bit of a place of four -/
def bit4 (i u : Nat) : Nat := i / 2 ^ (3 - u) % 2
def wq (u v : Nat) (p q : Int) (i : Nat) : Int := if bit4 i u = bit4 i v then q + p else q - p
def rowsD (r : Nat → Int) : List D := (List.range 16).map fun j => D.int (r j)
theorem no4 {i u : Nat} (hu : u < 4) : m_l_no A [.dat (.int 4), .dat (.int (i : Nat)), .dat (.int (u : Nat))] [] = .ok (.int ((bit4 i u : Nat) : Int)) [] := by
  have := l_no_eq (A := A) (n := 4) (i := i) (j := u) hu
  have e : 4 - 1 - u = 3 - u := by omega
  rw [e] at this
  exact this
theorem inner_eq {T t bel : D} {g : G} {u v : Nat} {p q : Int} {r : Nat → Int} {B : Nat} (hu : u < 4) (hv : v < 4) (ht : t = .tup [.int (u : Nat), .int (v : Nat), .tup [.int p, .int q]]) (hp : sm 5 p) (hq : sm 5 q) (hr : ∀ j, sm B (r j)) (hB : B ≤ 1000) (hB0 : 0 < B) :
    ∃ g', forL (bName 7) (sIf (tOf (eOp (oEqD false) (eCall (m_l_no A) (aCons (eVar 0) (aCons (eVar 7) (aCons (eIx (eVar 4) (eCon (.int 0))) aNil)))) (eCall (m_l_no A) (aCons (eVar 0) (aCons (eVar 7) (aCons (eIx (eVar 4) (eCon (.int 1))) aNil)))))) (sSetL 2 (eVar 7) (eOp (oC CMulW fun i j => .int (i * j)) (eIx (eVar 2) (eVar 7)) (eOp (oI fun i j => .int (i + j)) (eVar 6) (eVar 5)))) (sSetL 2 (eVar 7) (eOp (oC CMulW fun i j => .int (i * j)) (eIx (eVar 2) (eVar 7)) (eOp (oI fun i j => .int (i - j)) (eVar 6) (eVar 5)))))
      ((List.range 16).map fun i => D.int (i : Nat)) [.dat (.int 4), .dat T, .mr 0, .dat bel, .dat t, .dat (.int p), .dat (.int q), g] [.lst (rowsD r)]
      = .ok (.nx [.dat (.int 4), .dat T, .mr 0, .dat bel, .dat t, .dat (.int p), .dat (.int q), g']) [.lst (rowsD fun j => r j * wq u v p q j)] ∧ ∀ j, sm (B + 96) (r j * wq u v p q j) := by
  have hw : ∀ i, sm 6 (wq u v p q i) := fun i => by
    unfold wq; split
    · exact sm_add hq hp
    · exact sm_sub hq hp
  have key := forL_inv (α := Nat) (σ := WS) (u := fun i => D.int (i : Nat)) (b := bName 7) (f := sIf (tOf (eOp (oEqD false) (eCall (m_l_no A) (aCons (eVar 0) (aCons (eVar 7) (aCons (eIx (eVar 4) (eCon (.int 0))) aNil)))) (eCall (m_l_no A) (aCons (eVar 0) (aCons (eVar 7) (aCons (eIx (eVar 4) (eCon (.int 1))) aNil)))))) (sSetL 2 (eVar 7) (eOp (oC CMulW fun i j => .int (i * j)) (eIx (eVar 2) (eVar 7)) (eOp (oI fun i j => .int (i + j)) (eVar 6) (eVar 5)))) (sSetL 2 (eVar 7) (eOp (oC CMulW fun i j => .int (i * j)) (eIx (eVar 2) (eVar 7)) (eOp (oI fun i j => .int (i - j)) (eVar 6) (eVar 5)))))
    (enc := fun s => [.dat (.int 4), .dat T, .mr 0, .dat bel, .dat t, .dat (.int p), .dat (.int q), s.2]) (Ms := fun s => [.lst (rowsD s.1)]) (step := wstep (wq u v p q))
    (P := fun s ys => (∀ y ∈ ys, y < 16) ∧ ys.length ≤ 16 ∧ ∀ j, sm (B + 6 * (16 - ys.length)) (s.1 j))
    (fun s i ys hP => by
      obtain ⟨h1, h2, h3⟩ := hP
      have hi := h1 i List.mem_cons_self
      simp only [List.length_cons] at h2 h3
      refine ⟨⟨fun y hy => h1 y (List.mem_cons_of_mem _ hy), by omega, fun j => ?_⟩, _, rfl, ?_⟩
      · unfold wstep
        dsimp only
        split
        · exact sm_up (sm_mul (h3 j) (hw i)) (by omega)
        · exact sm_up (h3 j) (by omega)
      · have n1 := no4 (A := A) (i := i) hu
        have n2 := no4 (A := A) (i := i) hv
        have hm : CMulW (s.1 i) (wq u v p q i) := mulW (h3 i) (hw i) (by omega) (by decide) (by omega)
        have hat : atI (rowsD s.1) (i : Int) = some (.int (s.1 i)) := by
          rw [atI_n]; simp [rowsD, hi]
        have hix : ixN (rowsD s.1).length (i : Int) = some i := by
          unfold ixN; simp [rowsD]; omega
        have hset : (rowsD s.1).set i (.int (s.1 i * wq u v p q i)) = rowsD (wstep (wq u v p q) s i).1 := by
          unfold rowsD wstep
          apply List.ext_getElem?
          intro k
          by_cases hk : k < 16
          · by_cases e : k = i
            · subst e; simp [hk]
            · simp [hk, e, Ne.symm e]
          · simp [hk]
        subst ht
        have oe : ∀ (x y : Nat) M, oEqD false (.int (x : Int)) (.int (y : Int)) M = .ok (.dat (.bl (decide (x = y)))) M := fun x y M => by
          unfold oEqD
          simp [toPy, PyData.eqv]
          rw [chk_t ⟨rfl, rfl⟩]
          by_cases h : x = y
          · subst h; simp
          · have : ¬ ((x : Int) = (y : Int)) := by omega
            simp [h, this]
        by_cases c : bit4 i u = bit4 i v
        · have e : wq u v p q i = q + p := if_pos c
          rw [e] at hm hset
          simp_arith [n1, n2, oe, c, sSetL, onMr, hat, hix, hm, hset]
          rfl
        · have e : wq u v p q i = q - p := if_neg c
          rw [e] at hm hset
          simp_arith [n1, n2, oe, c, sSetL, onMr, hat, hix, hm, hset]
          rfl)
    (xs := List.range 16) (s := (r, g)) ⟨fun y hy => List.mem_range.mp hy, by simp, fun j => by simpa using hr j⟩
  obtain ⟨k1, _⟩ := key
  have hf := wfold (wq u v p q) (List.range 16) (r, g) List.nodup_range
  have hrow : rowsD ((List.range 16).foldl (wstep (wq u v p q)) (r, g)).1 = rowsD fun j => r j * wq u v p q j := by
    unfold rowsD
    apply List.map_congr_left
    intro j hj
    rw [hf j, if_pos hj]
  refine ⟨((List.range 16).foldl (wstep (wq u v p q)) (r, g)).2, ?_, fun j => sm_up (sm_mul (hr j) (hw j)) (by omega)⟩
  rw [hrow] at k1
  exact k1

theorem body_eq {T t : D} {u v : Nat} {p q bel : Int} {r : Nat → Int} {B : Nat} {g5 g6 g7 : G} (hu : u < 4) (hv : v < 4) (ht : t = .tup [.int (u : Nat), .int (v : Nat), .tup [.int p, .int q]]) (hp : sm 5 p) (hq : sm 5 q) (hr : ∀ j, sm B (r j)) (hB : B ≤ 1000) (hB0 : 0 < B) (hb : sm 100 bel) :
    ∃ g', (sSeq (sAsg 5 (eIx (eIx (eVar 4) (eCon (.int 2))) (eCon (.int 0))))
  (sSeq (sAsg 6 (eIx (eIx (eVar 4) (eCon (.int 2))) (eCon (.int 1))))
  (sSeq (sAsg 3 (eOp (oC CMulW fun i j => .int (i * j)) (eVar 3) (eVar 6)))
  (sFor (iArgs rng1G (aCons (eOp (oC CPow fun i j => .int (i * 2 ^ j.toNat)) (eCon (.int 1)) (eVar 0)) aNil)) (bName 7) (sIf (tOf (eOp (oEqD false) (eCall (m_l_no A) (aCons (eVar 0) (aCons (eVar 7) (aCons (eIx (eVar 4) (eCon (.int 0))) aNil)))) (eCall (m_l_no A) (aCons (eVar 0) (aCons (eVar 7) (aCons (eIx (eVar 4) (eCon (.int 1))) aNil)))))) (sSetL 2 (eVar 7) (eOp (oC CMulW fun i j => .int (i * j)) (eIx (eVar 2) (eVar 7)) (eOp (oI fun i j => .int (i + j)) (eVar 6) (eVar 5)))) (sSetL 2 (eVar 7) (eOp (oC CMulW fun i j => .int (i * j)) (eIx (eVar 2) (eVar 7)) (eOp (oI fun i j => .int (i - j)) (eVar 6) (eVar 5))))))))) [.dat (.int 4), .dat T, .mr 0, .dat (.int bel), .dat t, g5, g6, g7] [.lst (rowsD r)]
      = .ok (.nx [.dat (.int 4), .dat T, .mr 0, .dat (.int (bel * q)), .dat t, .dat (.int p), .dat (.int q), g']) [.lst (rowsD fun j => r j * wq u v p q j)] ∧ ∀ j, sm (B + 96) (r j * wq u v p q j) := by
  have hm : CMulW bel q := mulW hb hq (by decide) (by decide) (by decide)
  have hpow : CPow 1 4 := by decide
  have r16 : ∀ M, rng1G [.dat (.int 16)] M = .ok ((List.range 16).map fun i => D.int (i : Nat)) M := fun M => rng1_n (n := 16) rfl (by decide)
  obtain ⟨g', k1, k2⟩ := inner_eq (A := A) (T := T) (t := t) (bel := .int (bel * q)) (g := g7) hu hv ht hp hq hr hB hB0
  refine ⟨g', ?_, k2⟩
  subst ht
  have s1 : sAsg 5 (eIx (eIx (eVar 4) (eCon (.int 2))) (eCon (.int 0))) [.dat (.int 4), .dat T, .mr 0, .dat (.int bel), .dat (.tup [.int (u : Nat), .int (v : Nat), .tup [.int p, .int q]]), g5, g6, g7] [.lst (rowsD r)] = .ok (.nx [.dat (.int 4), .dat T, .mr 0, .dat (.int bel), .dat (.tup [.int (u : Nat), .int (v : Nat), .tup [.int p, .int q]]), .dat (.int p), g6, g7]) [.lst (rowsD r)] := by simp_arith []
  have s2 : sAsg 6 (eIx (eIx (eVar 4) (eCon (.int 2))) (eCon (.int 1))) [.dat (.int 4), .dat T, .mr 0, .dat (.int bel), .dat (.tup [.int (u : Nat), .int (v : Nat), .tup [.int p, .int q]]), .dat (.int p), g6, g7] [.lst (rowsD r)] = .ok (.nx [.dat (.int 4), .dat T, .mr 0, .dat (.int bel), .dat (.tup [.int (u : Nat), .int (v : Nat), .tup [.int p, .int q]]), .dat (.int p), .dat (.int q), g7]) [.lst (rowsD r)] := by simp_arith []
  have s3 : sAsg 3 (eOp (oC CMulW fun i j => .int (i * j)) (eVar 3) (eVar 6)) [.dat (.int 4), .dat T, .mr 0, .dat (.int bel), .dat (.tup [.int (u : Nat), .int (v : Nat), .tup [.int p, .int q]]), .dat (.int p), .dat (.int q), g7] [.lst (rowsD r)] = .ok (.nx [.dat (.int 4), .dat T, .mr 0, .dat (.int (bel * q)), .dat (.tup [.int (u : Nat), .int (v : Nat), .tup [.int p, .int q]]), .dat (.int p), .dat (.int q), g7]) [.lst (rowsD r)] := by simp_arith [hm]
  rw [sSeq_nx s1, sSeq_nx s2, sSeq_nx s3, sFor_ok (ds := (List.range 16).map fun i => D.int (i : Nat)) (M1 := [.lst (rowsD r)]) (by simp_arith [iArgs, hpow, r16])]
  exact k1
/-- three arms of a star, as the law writes them -/
theorem weights_eq {x y z : Rat} (hx : sz 5 x) (hy : sz 5 y) (hz : sz 5 z) :
    m_l_weights A [.dat (.int 4), .dat (.lst [.tup [.int 0, .int 1, rq x], .tup [.int 0, .int 2, rq y], .tup [.int 0, .int 3, rq z]])] [] =
      .ok (.lst [.lst (rowsD fun j => 1 * wq 0 1 x.num x.den j * wq 0 2 y.num y.den j * wq 0 3 z.num z.den j), .int (1 * x.den * y.den * z.den)]) [] := by
  unfold m_l_weights f_l_weights
  have g0 : ∀ j : Nat, sm 1 ((fun _ => 1 : Nat → Int) j) := fun _ => (by unfold sm; decide : sm 1 (1 : Int))
  have w1 : CMulW 1 (x.den : Int) := mulW (a := 1) (b := 5) (by unfold sm; decide) hx.2 (by decide) (by decide) (by decide)
  have w2 : CMulW (x.den : Int) (y.den : Int) := mulW hx.2 hy.2 (by decide) (by decide) (by decide)
  have w3 : CMulW ((x.den : Int) * (y.den : Int)) (z.den : Int) := mulW (sm_mul hx.2 hy.2) hz.2 (by decide) (by decide) (by decide)
  have hpow : CPow 1 4 := by decide
  have r16 : ∀ M, rng1G [.dat (.int 16)] M = .ok ((List.range 16).map fun i => D.int (i : Nat)) M := fun M => rng1_n (n := 16) rfl (by decide)
  have l0 : ∀ (Γ : List G) (M : List MO), lcGo (bName 7) tTrue (eCon (.int 1)) Γ ((List.range 16).map fun i => D.int (i : Nat)) M = .ok (rowsD fun _ => 1) M := fun Γ M =>
    lcGo_mapA (v := fun _ => .int 1) (fun i _ => ⟨_, rfl, rfl⟩)
  obtain ⟨ga, a1, a2⟩ := body_eq (A := A) (T := .lst [.tup [.int 0, .int 1, rq x], .tup [.int 0, .int 2, rq y], .tup [.int 0, .int 3, rq z]]) (t := .tup [.int 0, .int 1, rq x]) (u := 0) (v := 1) (bel := 1) (r := fun _ => 1) (B := 1) (g5 := .no) (g6 := .no) (g7 := .no) (by decide) (by decide) rfl hx.1 hx.2 g0 (by decide) (by decide) (by unfold sm; decide)
  obtain ⟨gb, b1, b2⟩ := body_eq (A := A) (T := .lst [.tup [.int 0, .int 1, rq x], .tup [.int 0, .int 2, rq y], .tup [.int 0, .int 3, rq z]]) (t := .tup [.int 0, .int 2, rq y]) (u := 0) (v := 2) (bel := 1 * x.den) (g5 := .dat (.int x.num)) (g6 := .dat (.int x.den)) (g7 := ga) (by decide) (by decide) rfl hy.1 hy.2 a2 (by decide) (by decide) (by rw [Int.one_mul]; exact sm_up hx.2 (by decide))
  obtain ⟨gc, c1, c2⟩ := body_eq (A := A) (T := .lst [.tup [.int 0, .int 1, rq x], .tup [.int 0, .int 2, rq y], .tup [.int 0, .int 3, rq z]]) (t := .tup [.int 0, .int 3, rq z]) (u := 0) (v := 3) (bel := 1 * x.den * y.den) (g5 := .dat (.int y.num)) (g6 := .dat (.int y.den)) (g7 := gb) (by decide) (by decide) rfl hz.1 hz.2 b2 (by decide) (by decide) (by rw [Int.one_mul]; exact sm_up (sm_mul hx.2 hy.2) (by decide))
  simp_arith [iArgs, nLc, sAsgN, hpow, r16, l0]
  rw [sFor_ok (ds := [.tup [.int 0, .int 1, rq x], .tup [.int 0, .int 2, rq y], .tup [.int 0, .int 3, rq z]]) (M1 := [.lst (rowsD fun _ => 1)]) (by simp_arith [])]
  simp only [forL, bName, List.set_cons_succ, List.set_cons_zero]
  rw [a1]
  simp only [ok_bind, List.set_cons_succ, List.set_cons_zero]
  rw [b1]
  simp only [ok_bind, List.set_cons_succ, List.set_cons_zero]
  rw [c1]
  simp only [ok_bind, List.set_cons_succ, List.set_cons_zero]
  simp_arith [sFrz, onMr, Lw.frG]


end

section
set_option Elab.async false
set_option linter.all false
set_option maxRecDepth 100000
set_option maxHeartbeats 4000000

open PySem L2 Lw
variable {A : Str → Addr}
def star3 (x y z : Rat) (j : Nat) : Int := 1 * wq 0 1 x.num x.den j * wq 0 2 y.num y.den j * wq 0 3 z.num z.den j
def rest3 (x y z : Rat) (j : Nat) : Int := star3 x y z j + star3 x y z (j + 8)
theorem rowsD_16 (r : Nat → Int) : rowsD r = [.int (r 0), .int (r 1), .int (r 2), .int (r 3), .int (r 4), .int (r 5), .int (r 6), .int (r 7), .int (r 8), .int (r 9), .int (r 10), .int (r 11), .int (r 12), .int (r 13), .int (r 14), .int (r 15)] := rfl
theorem sm_star3 {x y z : Rat} (hx : sz 5 x) (hy : sz 5 y) (hz : sz 5 z) (j : Nat) : sm 20 (star3 x y z j) := by
  have hw : ∀ {u v : Nat} {x : Rat}, sz 5 x → sm 6 (wq u v x.num x.den j) := fun h => by
    unfold wq; split
    · exact sm_add h.2 h.1
    · exact sm_sub h.2 h.1
  have := sm_mul (sm_mul (sm_mul (show sm 1 (1 : Int) by unfold sm; decide) (hw (u := 0) (v := 1) hx)) (hw (u := 0) (v := 2) hy)) (hw (u := 0) (v := 3) hz)
  exact sm_up this (by decide)
theorem star_boxes_eq {x y z : Rat} (hx : sz 5 x) (hy : sz 5 y) (hz : sz 5 z) :
    m_l_star_boxes A [.lst [rq x, rq y, rq z]] = .ok [.tup [.int (rest3 x y z 0 * rest3 x y z 6), .int (rest3 x y z 4 * rest3 x y z 2)], .tup [.int (rest3 x y z 0 * rest3 x y z 5), .int (rest3 x y z 4 * rest3 x y z 1)],
      .tup [.int (rest3 x y z 0 * rest3 x y z 3), .int (rest3 x y z 2 * rest3 x y z 1)]] [] := by
  unfold m_l_star_boxes f_l_star_boxes Lw.runN
  have w := weights_eq (A := A) hx hy hz
  rw [show (fun j => 1 * wq 0 1 x.num x.den j * wq 0 2 y.num y.den j * wq 0 3 z.num z.den j) = star3 x y z from rfl, rowsD_16] at w
  have sr : ∀ j, sm 21 (rest3 x y z j) := fun j => sm_add (sm_star3 hx hy hz j) (sm_star3 hx hy hz (j + 8))
  have M := fun i j => mulW (sr i) (sr j) (by decide) (by decide) (by decide)
  have r0 : star3 x y z 0 + star3 x y z 8 = rest3 x y z 0 := rfl
  have r1 : star3 x y z 1 + star3 x y z 9 = rest3 x y z 1 := rfl
  have r2 : star3 x y z 2 + star3 x y z 10 = rest3 x y z 2 := rfl
  have r3 : star3 x y z 3 + star3 x y z 11 = rest3 x y z 3 := rfl
  have r4 : star3 x y z 4 + star3 x y z 12 = rest3 x y z 4 := rfl
  have r5 : star3 x y z 5 + star3 x y z 13 = rest3 x y z 5 := rfl
  have r6 : star3 x y z 6 + star3 x y z 14 = rest3 x y z 6 := rfl
  have r7 : star3 x y z 7 + star3 x y z 15 = rest3 x y z 7 := rfl
  simp_arith [iArgs, nLc, lcGo, tTrue, wipeG, w, r0, r1, r2, r3, r4, r5, r6, r7, sAsgN, sFor, forL, sApp, onMr, M 0 6, M 4 2, M 0 5, M 4 1, M 0 3, M 2 1, Lw.endN]


end

section
set_option Elab.async false
set_option linter.all false
set_option maxRecDepth 100000
set_option maxHeartbeats 4000000

open PySem L2 Lw
variable {A : Str → Addr}
theorem three_are_eq {x y z : Rat} {p1 q1 p2 q2 p3 q3 : Int} {d : D} (hx : sz 1900 x) (hy : sz 1900 y) (hz : sz 1900 z) (hp1 : sm 1900 p1) (hq1 : sm 1900 q1) (hp2 : sm 1900 p2) (hq2 : sm 1900 q2) (hp3 : sm 1900 p3) (hq3 : sm 1900 q3)
    (h1 : q1 ≠ 0) (h2 : q2 ≠ 0) (h3 : q3 ≠ 0) (e1 : x = (p1 : Rat) / (q1 : Rat)) (e2 : y = (p2 : Rat) / (q2 : Rat)) (e3 : z = (p3 : Rat) / (q3 : Rat))
    (hd : d = .lst [.tup [.int p1, .int q1], .tup [.int p2, .int q2], .tup [.int p3, .int q3]] ∨ d = .fz [.tup [.int p1, .int q1], .tup [.int p2, .int q2], .tup [.int p3, .int q3]]) :
    m_l_three_are A [.dat (.tup [rq x, rq y, rq z]), .dat d] [] = .ok (.bl true) [] := by
  unfold m_l_three_are f_l_three_are
  have a := l_is_rq (A := A) hx hp1 hq1 h1
  have b := l_is_rq (A := A) hy hp2 hq2 h2
  have c := l_is_rq (A := A) hz hp3 hq3 h3
  rw [decide_eq_true e1] at a
  rw [decide_eq_true e2] at b
  rw [decide_eq_true e3] at c
  rcases hd with rfl | rfl
  · simp_arith [iArgs, nLc, lcGo, tTrue, wipeG, a, b, c, cAll, blsOf]
  · simp_arith [iArgs, nLc, lcGo, tTrue, wipeG, a, b, c, cAll, blsOf]
theorem num_eq (x : Rat) : (x.num : Rat) = x * (x.den : Rat) := by
  have hx := rat_num_den x
  have dx := den_ne x
  have : (x.num : Rat) = (x.num : Rat) / (x.den : Rat) * (x.den : Rat) := by grind
  rw [this, hx]
def den3 (x y z : Rat) : Rat := (x.den : Rat) * (y.den : Rat) * (z.den : Rat)
theorem den3_ne (x y z : Rat) : den3 x y z ≠ 0 := by
  unfold den3
  have := den_ne x
  have := den_ne y
  have := den_ne z
  grind
theorem re0 (x y z : Rat) : ((rest3 x y z 0 : Int) : Rat) = ((1 + x) * (1 + y) * (1 + z) + (1 - x) * (1 - y) * (1 - z)) * den3 x y z := by
  have q : rest3 x y z 0 = 1 * (x.den + x.num) * (y.den + y.num) * (z.den + z.num) + 1 * (x.den - x.num) * (y.den - y.num) * (z.den - z.num) := rfl
  rw [q]
  simp only [Rat.intCast_add, Rat.intCast_sub, Rat.intCast_mul, int_den, num_eq, den3]
  grind
theorem re1 (x y z : Rat) : ((rest3 x y z 1 : Int) : Rat) = ((1 + x) * (1 + y) * (1 - z) + (1 - x) * (1 - y) * (1 + z)) * den3 x y z := by
  have q : rest3 x y z 1 = 1 * (x.den + x.num) * (y.den + y.num) * (z.den - z.num) + 1 * (x.den - x.num) * (y.den - y.num) * (z.den + z.num) := rfl
  rw [q]
  simp only [Rat.intCast_add, Rat.intCast_sub, Rat.intCast_mul, int_den, num_eq, den3]
  grind
theorem re2 (x y z : Rat) : ((rest3 x y z 2 : Int) : Rat) = ((1 + x) * (1 - y) * (1 + z) + (1 - x) * (1 + y) * (1 - z)) * den3 x y z := by
  have q : rest3 x y z 2 = 1 * (x.den + x.num) * (y.den - y.num) * (z.den + z.num) + 1 * (x.den - x.num) * (y.den + y.num) * (z.den - z.num) := rfl
  rw [q]
  simp only [Rat.intCast_add, Rat.intCast_sub, Rat.intCast_mul, int_den, num_eq, den3]
  grind
theorem re3 (x y z : Rat) : ((rest3 x y z 3 : Int) : Rat) = ((1 + x) * (1 - y) * (1 - z) + (1 - x) * (1 + y) * (1 + z)) * den3 x y z := by
  have q : rest3 x y z 3 = 1 * (x.den + x.num) * (y.den - y.num) * (z.den - z.num) + 1 * (x.den - x.num) * (y.den + y.num) * (z.den + z.num) := rfl
  rw [q]
  simp only [Rat.intCast_add, Rat.intCast_sub, Rat.intCast_mul, int_den, num_eq, den3]
  grind
theorem re4 (x y z : Rat) : rest3 x y z 4 = rest3 x y z 3 := by
  have q : rest3 x y z 4 = 1 * (x.den - x.num) * (y.den + y.num) * (z.den + z.num) + 1 * (x.den + x.num) * (y.den - y.num) * (z.den - z.num) := rfl
  have q' : rest3 x y z 3 = 1 * (x.den + x.num) * (y.den - y.num) * (z.den - z.num) + 1 * (x.den - x.num) * (y.den + y.num) * (z.den + z.num) := rfl
  rw [q, q']; grind
theorem re5 (x y z : Rat) : rest3 x y z 5 = rest3 x y z 2 := by
  have q : rest3 x y z 5 = 1 * (x.den - x.num) * (y.den + y.num) * (z.den - z.num) + 1 * (x.den + x.num) * (y.den - y.num) * (z.den + z.num) := rfl
  have q' : rest3 x y z 2 = 1 * (x.den + x.num) * (y.den - y.num) * (z.den + z.num) + 1 * (x.den - x.num) * (y.den + y.num) * (z.den - z.num) := rfl
  rw [q, q']; grind
theorem re6 (x y z : Rat) : rest3 x y z 6 = rest3 x y z 1 := by
  have q : rest3 x y z 6 = 1 * (x.den - x.num) * (y.den - y.num) * (z.den + z.num) + 1 * (x.den + x.num) * (y.den + y.num) * (z.den - z.num) := rfl
  have q' : rest3 x y z 1 = 1 * (x.den + x.num) * (y.den + y.num) * (z.den - z.num) + 1 * (x.den - x.num) * (y.den - y.num) * (z.den + z.num) := rfl
  rw [q, q']; grind
/-- what the doubles of a triangle are, by the boxes of the star -/
theorem box_dbl {x y z : Rat} (ux : inU x) (uy : inU y) (uz : inU z) :
    dbl x y z = ((rest3 x y z 0 * rest3 x y z 6 - rest3 x y z 4 * rest3 x y z 2 : Int) : Rat) / ((rest3 x y z 0 * rest3 x y z 6 + rest3 x y z 4 * rest3 x y z 2 : Int) : Rat) := by
  have n0 := dbl_den ux uy uz
  have d0 := den3_ne x y z
  rw [re4, re6]
  simp only [Rat.intCast_add, Rat.intCast_sub, Rat.intCast_mul, re0, re1, re2, re3]
  unfold dbl
  generalize den3 x y z = d at *
  have n1 : 1 + x * x * (y * y) - z * z * (x * x + y * y) ≠ 0 := by grind
  have e1 : ((1 + x) * (1 + y) * (1 + z) + (1 - x) * (1 - y) * (1 - z)) * d * (((1 + x) * (1 + y) * (1 - z) + (1 - x) * (1 - y) * (1 + z)) * d) + ((1 + x) * (1 - y) * (1 - z) + (1 - x) * (1 + y) * (1 + z)) * d * (((1 + x) * (1 - y) * (1 + z) + (1 - x) * (1 + y) * (1 - z)) * d) = 8 * (1 + x * x * (y * y) - z * z * (x * x + y * y)) * (d * d) := by grind
  have e2 : ((1 + x) * (1 + y) * (1 + z) + (1 - x) * (1 - y) * (1 - z)) * d * (((1 + x) * (1 + y) * (1 - z) + (1 - x) * (1 - y) * (1 + z)) * d) - ((1 + x) * (1 - y) * (1 - z) + (1 - x) * (1 + y) * (1 + z)) * d * (((1 + x) * (1 - y) * (1 + z) + (1 - x) * (1 + y) * (1 - z)) * d) = 16 * (x * y * (1 - z * z)) * (d * d) := by grind
  rw [e1, e2]
  generalize 1 + x * x * (y * y) - z * z * (x * x + y * y) = b at *
  generalize x * y * (1 - z * z) = a at *
  grind


end

section
set_option Elab.async false
set_option linter.all false
set_option maxRecDepth 100000
set_option maxHeartbeats 4000000

open PySem L2 Lw
variable {A : Str → Addr}
theorem box_dbl2 {x y z : Rat} (ux : inU x) (uy : inU y) (uz : inU z) :
    dbl x z y = ((rest3 x y z 0 * rest3 x y z 5 - rest3 x y z 4 * rest3 x y z 1 : Int) : Rat) / ((rest3 x y z 0 * rest3 x y z 5 + rest3 x y z 4 * rest3 x y z 1 : Int) : Rat) := by
  have n0 := dbl_den ux uz uy
  have d0 := den3_ne x y z
  rw [re4, re5]
  simp only [Rat.intCast_add, Rat.intCast_sub, Rat.intCast_mul, re0, re1, re2, re3]
  unfold dbl
  generalize den3 x y z = d at *
  have e1 : ((1 + x) * (1 + y) * (1 + z) + (1 - x) * (1 - y) * (1 - z)) * d * (((1 + x) * (1 - y) * (1 + z) + (1 - x) * (1 + y) * (1 - z)) * d) + ((1 + x) * (1 - y) * (1 - z) + (1 - x) * (1 + y) * (1 + z)) * d * (((1 + x) * (1 + y) * (1 - z) + (1 - x) * (1 - y) * (1 + z)) * d) = 8 * (1 + x * x * (z * z) - y * y * (x * x + z * z)) * (d * d) := by grind
  have e2 : ((1 + x) * (1 + y) * (1 + z) + (1 - x) * (1 - y) * (1 - z)) * d * (((1 + x) * (1 - y) * (1 + z) + (1 - x) * (1 + y) * (1 - z)) * d) - ((1 + x) * (1 - y) * (1 - z) + (1 - x) * (1 + y) * (1 + z)) * d * (((1 + x) * (1 + y) * (1 - z) + (1 - x) * (1 - y) * (1 + z)) * d) = 16 * (x * z * (1 - y * y)) * (d * d) := by grind
  rw [e1, e2]
  generalize 1 + x * x * (z * z) - y * y * (x * x + z * z) = b at *
  generalize x * z * (1 - y * y) = a at *
  grind
theorem box_dbl3 {x y z : Rat} (ux : inU x) (uy : inU y) (uz : inU z) :
    dbl y z x = ((rest3 x y z 0 * rest3 x y z 3 - rest3 x y z 2 * rest3 x y z 1 : Int) : Rat) / ((rest3 x y z 0 * rest3 x y z 3 + rest3 x y z 2 * rest3 x y z 1 : Int) : Rat) := by
  have n0 := dbl_den uy uz ux
  have d0 := den3_ne x y z
  simp only [Rat.intCast_add, Rat.intCast_sub, Rat.intCast_mul, re0, re1, re2, re3]
  unfold dbl
  generalize den3 x y z = d at *
  have e1 : ((1 + x) * (1 + y) * (1 + z) + (1 - x) * (1 - y) * (1 - z)) * d * (((1 + x) * (1 - y) * (1 - z) + (1 - x) * (1 + y) * (1 + z)) * d) + ((1 + x) * (1 - y) * (1 + z) + (1 - x) * (1 + y) * (1 - z)) * d * (((1 + x) * (1 + y) * (1 - z) + (1 - x) * (1 - y) * (1 + z)) * d) = 8 * (1 + y * y * (z * z) - x * x * (y * y + z * z)) * (d * d) := by grind
  have e2 : ((1 + x) * (1 + y) * (1 + z) + (1 - x) * (1 - y) * (1 - z)) * d * (((1 + x) * (1 - y) * (1 - z) + (1 - x) * (1 + y) * (1 + z)) * d) - ((1 + x) * (1 - y) * (1 + z) + (1 - x) * (1 + y) * (1 - z)) * d * (((1 + x) * (1 + y) * (1 - z) + (1 - x) * (1 - y) * (1 + z)) * d) = 16 * (y * z * (1 - x * x)) * (d * d) := by grind
  rw [e1, e2]
  generalize 1 + y * y * (z * z) - x * x * (y * y + z * z) = b at *
  generalize y * z * (1 - x * x) = a at *
  grind
/-- the sums of three means of a star, by its rest -/
theorem re0' (x y z : Rat) : ((rest3 x y z 0 : Int) : Rat) = 2 * (1 + x * y + x * z + y * z) * den3 x y z := by rw [re0]; grind
theorem re1' (x y z : Rat) : ((rest3 x y z 1 : Int) : Rat) = 2 * (1 + x * y - x * z - y * z) * den3 x y z := by rw [re1]; grind
theorem re2' (x y z : Rat) : ((rest3 x y z 2 : Int) : Rat) = 2 * (1 - x * y + x * z - y * z) * den3 x y z := by rw [re2]; grind
theorem re3' (x y z : Rat) : ((rest3 x y z 3 : Int) : Rat) = 2 * (1 - x * y - x * z + y * z) * den3 x y z := by rw [re3]; grind
theorem box_tri1 {x y z : Rat} (h2 : 0 < 1 - x * y + x * z - y * z) (h3 : 0 < 1 - x * y - x * z + y * z) :
    (1 + x * y + x * z + y * z) * (1 + x * y - x * z - y * z) / ((1 - x * y + x * z - y * z) * (1 - x * y - x * z + y * z)) = ((rest3 x y z 0 * rest3 x y z 6 : Int) : Rat) / ((rest3 x y z 4 * rest3 x y z 2 : Int) : Rat) := by
  have d0 := den3_ne x y z
  rw [re4, re6]
  simp only [Rat.intCast_mul, re0', re1', re2', re3']
  generalize den3 x y z = d at *
  generalize 1 - x * y + x * z - y * z = b at *
  generalize 1 - x * y - x * z + y * z = c at *
  generalize 1 + x * y + x * z + y * z = a at *
  generalize 1 + x * y - x * z - y * z = e at *
  have : b ≠ 0 := by grind
  have : c ≠ 0 := by grind
  grind
theorem box_tri2 {x y z : Rat} (h1 : 0 < 1 + x * y - x * z - y * z) (h3 : 0 < 1 - x * y - x * z + y * z) :
    (1 + x * y + x * z + y * z) * (1 - x * y + x * z - y * z) / ((1 + x * y - x * z - y * z) * (1 - x * y - x * z + y * z)) = ((rest3 x y z 0 * rest3 x y z 5 : Int) : Rat) / ((rest3 x y z 4 * rest3 x y z 1 : Int) : Rat) := by
  have d0 := den3_ne x y z
  rw [re4, re5]
  simp only [Rat.intCast_mul, re0', re1', re2', re3']
  generalize den3 x y z = d at *
  generalize 1 - x * y + x * z - y * z = b at *
  generalize 1 - x * y - x * z + y * z = c at *
  generalize 1 + x * y + x * z + y * z = a at *
  generalize 1 + x * y - x * z - y * z = e at *
  have : e ≠ 0 := by grind
  have : c ≠ 0 := by grind
  grind
theorem box_tri3 {x y z : Rat} (h1 : 0 < 1 + x * y - x * z - y * z) (h2 : 0 < 1 - x * y + x * z - y * z) :
    (1 + x * y + x * z + y * z) * (1 - x * y - x * z + y * z) / ((1 + x * y - x * z - y * z) * (1 - x * y + x * z - y * z)) = ((rest3 x y z 0 * rest3 x y z 3 : Int) : Rat) / ((rest3 x y z 2 * rest3 x y z 1 : Int) : Rat) := by
  have d0 := den3_ne x y z
  simp only [Rat.intCast_mul, re0', re1', re2', re3']
  generalize den3 x y z = d at *
  generalize 1 - x * y + x * z - y * z = b at *
  generalize 1 - x * y - x * z + y * z = c at *
  generalize 1 + x * y + x * z + y * z = a at *
  generalize 1 + x * y - x * z - y * z = e at *
  have : e ≠ 0 := by grind
  have : b ≠ 0 := by grind
  grind
theorem star_sums {x y z : Rat} (ux : inU x) (uy : inU y) (uz : inU z) : 0 < 1 + x * y + x * z + y * z ∧ 0 < 1 + x * y - x * z - y * z ∧ 0 < 1 - x * y + x * z - y * z ∧ 0 < 1 - x * y - x * z + y * z := by
  have px : 0 < 1 + x := by have := ux.1; grind
  have mx : 0 < 1 - x := by have := ux.2; grind
  have py : 0 < 1 + y := by have := uy.1; grind
  have my : 0 < 1 - y := by have := uy.2; grind
  have pz : 0 < 1 + z := by have := uz.1; grind
  have mz : 0 < 1 - z := by have := uz.2; grind
  have a := Rat.mul_pos (Rat.mul_pos px py) pz
  have b := Rat.mul_pos (Rat.mul_pos mx my) mz
  have c := Rat.mul_pos (Rat.mul_pos px py) mz
  have d := Rat.mul_pos (Rat.mul_pos mx my) pz
  have e := Rat.mul_pos (Rat.mul_pos px my) pz
  have f := Rat.mul_pos (Rat.mul_pos mx py) mz
  have g := Rat.mul_pos (Rat.mul_pos px my) mz
  have h := Rat.mul_pos (Rat.mul_pos mx py) pz
  refine ⟨?_, ?_, ?_, ?_⟩ <;> grind


end

section
set_option Elab.async false
set_option linter.all false
set_option maxRecDepth 100000
set_option maxHeartbeats 4000000

open PySem L2 Lw
variable {A : Str → Addr}
def BadP (A : Str → Addr) (d : D) : Prop := m_pull_of A [.dat d] [] = .er "BadRatio" none []
def bads : List D := [.int 1, .int (-1), .tup [.int 4, .int 3], .tup [.int 2, .int 2], .tup [.int (-7), .int 6], .tup [.int 1, .int 0], .tup [.int 1, .int (-2)], .tup [.bl true, .int 2], .bl false, .str "0", .non, .tup [.int 1, .int 2, .int 3]]
theorem bads_bad : ∀ d ∈ bads, BadP A d := by
  intro d hd
  simp only [bads, List.mem_cons, List.not_mem_nil, or_false] at hd
  unfold BadP
  rcases hd with rfl | rfl | rfl | rfl | rfl | rfl | rfl | rfl | rfl | rfl | rfl | rfl <;> kernel_rfl
theorem w1 : ¬ (Str.ofString "double" = Str.ofString "means") := by decide +kernel
theorem w2 : ¬ (Str.ofString "double" = Str.ofString "doubles") := by decide +kernel
theorem w3 : ¬ (Str.ofString "square" = Str.ofString "means") := by decide +kernel
theorem w4 : ¬ (Str.ofString "square" = Str.ofString "doubles") := by decide +kernel
theorem w5 : ¬ (Str.ofString "square" = Str.ofString "double") := by decide +kernel
theorem w6 : ¬ (Str.ofString "doubles" = Str.ofString "means") := by decide +kernel
abbrev sayR : D := .lst [.str "ratio", .int 0]
theorem told_double {d : D} (h : BadP A d) : m_l_told A [.dat (.str "double"), .dat (.lst [d])] [] = .ok sayR [] := by
  unfold m_l_told f_l_told
  have e : m_double_pull A [.dat d] [] = .er "BadRatio" none [] := by
    unfold m_double_pull f_double_pull
    unfold BadP at h
    simp_arith [h]
  have t : exmT "BadRatio" "BadRatio" = some true := rfl
  simp_arith [sTry, tryK, handK, e, t, w1, w2, w3, w4, w5, w6]
theorem told_square {d : D} (h : BadP A d) : m_l_told A [.dat (.str "square"), .dat (.lst [d])] [] = .ok sayR [] := by
  unfold m_l_told f_l_told
  have e : m_square_of_double A [.dat d] [] = .er "BadRatio" none [] := by
    unfold m_square_of_double f_square_of_double
    unfold BadP at h
    simp_arith [h]
  have t : exmT "BadRatio" "BadRatio" = some true := rfl
  simp_arith [sTry, tryK, handK, e, t, w1, w2, w3, w4, w5, w6]
/-- three entries of which one is bad, those ahead of it good -/
def Bad3 (A : Str → Addr) (a b c : D) : Prop := BadP A a ∨ (∃ x, PullD A a x) ∧ (BadP A b ∨ (∃ y, PullD A b y) ∧ BadP A c)
theorem told_means {a b c : D} (h : Bad3 A a b c) : m_l_told A [.dat (.str "means"), .dat (.lst [a, b, c])] [] = .ok sayR [] := by
  unfold m_l_told f_l_told
  have e : m_star_means A [.dat a, .dat b, .dat c] [] = .er "BadRatio" none [] := by
    unfold m_star_means f_star_means
    unfold Bad3 BadP PullD at h
    rcases h with h | ⟨⟨x, hx⟩, h | ⟨⟨y, hy⟩, h⟩⟩
    · simp_arith [sPar, h]
    · simp_arith [sPar, hx, h]
    · simp_arith [sPar, hx, hy, h]
  have t : exmT "BadRatio" "BadRatio" = some true := rfl
  simp_arith [sTry, tryK, handK, e, t, w1, w2, w3, w4, w5, w6]
theorem told_doubles {a b c : D} (h : Bad3 A a b c) : m_l_told A [.dat (.str "doubles"), .dat (.lst [a, b, c])] [] = .ok sayR [] := by
  unfold m_l_told f_l_told
  have e : m_triangle_doubles A [.dat a, .dat b, .dat c] [] = .er "BadRatio" none [] := by
    unfold m_triangle_doubles f_triangle_doubles
    unfold Bad3 BadP PullD at h
    rcases h with h | ⟨⟨x, hx⟩, h | ⟨⟨y, hy⟩, h⟩⟩
    · simp_arith [sPar, h]
    · simp_arith [sPar, hx, h]
    · simp_arith [sPar, hx, hy, h]
  have t : exmT "BadRatio" "BadRatio" = some true := rfl
  simp_arith [sTry, tryK, handK, e, t, w1, w2, w3, w4, w5, w6]

theorem same_sayR : ∀ M, oEqD true sayR sayR M = .ok (.dat (.bl false)) M := fun M => by kernel_rfl
theorem refused_eq {x y z : Rat} (hx : PullD A (rq x) x) (hy : PullD A (rq y) y) (hz : PullD A (rq z) z) : m_l_refused A [.dat (.lst [rq x, rq y, rq z])] [] = .ok (.bl true) [] := by
  unfold m_l_refused f_l_refused
  have key := forL_inv (α := D) (σ := G × G × G) (u := fun d => d) (b := bName 1) (f := (sSeq (sIf (fOr (tOf (eOp (oEqD true) (eCall (m_l_told A) (aCons (eCon (.str "double")) (aCons (eNew (nLst (aCons (eVar 1) aNil))) aNil))) (eNew (nLst (aCons (eCon (.str "ratio")) (aCons (eCon (.int 0)) aNil)))))) (tOf (eOp (oEqD true) (eCall (m_l_told A) (aCons (eCon (.str "square")) (aCons (eNew (nLst (aCons (eVar 1) aNil))) aNil))) (eNew (nLst (aCons (eCon (.str "ratio")) (aCons (eCon (.int 0)) aNil))))))) (sRet (eCon (.bl false))) sNext)
  (sFor (iRow (eNew (nLst (aCons (eCon (.str "means")) (aCons (eCon (.str "doubles")) aNil))))) (bName 2) (sFor (iArgs rng1G (aCons (eCon (.int 3)) aNil)) (bName 3) (sIf (tOf (eOp (oEqD true) (eCall (m_l_told A) (aCons (eVar 2) (aCons (eNew (nCat (eNew (nCat (eNew (nSl (eVar 0) pNone (pSome (eVar 3)))) (eNew (nLst (aCons (eVar 1) aNil))))) (eNew (nSl (eVar 0) (pSome (eOp (oI fun i j => .int (i + j)) (eVar 3) (eCon (.int 1)))) pNone)))) aNil))) (eNew (nLst (aCons (eCon (.str "ratio")) (aCons (eCon (.int 0)) aNil)))))) (sRet (eCon (.bl false))) sNext)))))
    (enc := fun s => [.dat (.lst [rq x, rq y, rq z]), s.1, s.2.1, s.2.2]) (Ms := fun _ => []) (step := fun s d => (.dat d, .dat (.str "doubles"), .dat (.int 2))) (P := fun _ ys => ∀ d ∈ ys, BadP A d)
    (fun s d ys hP => by
      have hd := hP d List.mem_cons_self
      refine ⟨fun e he => hP e (List.mem_cons_of_mem _ he), _, rfl, ?_⟩
      have a1 := told_double hd
      have a2 := told_square hd
      have m1 := told_means (A := A) (a := d) (b := rq y) (c := rq z) (.inl hd)
      have m2 := told_means (A := A) (a := rq x) (b := d) (c := rq z) (.inr ⟨⟨_, hx⟩, .inl hd⟩)
      have m3 := told_means (A := A) (a := rq x) (b := rq y) (c := d) (.inr ⟨⟨_, hx⟩, .inr ⟨⟨_, hy⟩, hd⟩⟩)
      have d1 := told_doubles (A := A) (a := d) (b := rq y) (c := rq z) (.inl hd)
      have d2 := told_doubles (A := A) (a := rq x) (b := d) (c := rq z) (.inr ⟨⟨_, hx⟩, .inl hd⟩)
      have d3 := told_doubles (A := A) (a := rq x) (b := rq y) (c := d) (.inr ⟨⟨_, hx⟩, .inr ⟨⟨_, hy⟩, hd⟩⟩)
      have b0 : ∀ (a b c : D), cutD [a, b, c] none (some 0) = [] := fun _ _ _ => rfl
      have b1 : ∀ (a b c : D), cutD [a, b, c] none (some 1) = [a] := fun _ _ _ => rfl
      have b2 : ∀ (a b c : D), cutD [a, b, c] none (some 2) = [a, b] := fun _ _ _ => rfl
      have c1 : ∀ (a b c : D), cutD [a, b, c] (some 1) none = [b, c] := fun _ _ _ => rfl
      have c2 : ∀ (a b c : D), cutD [a, b, c] (some 2) none = [c] := fun _ _ _ => rfl
      have c3 : ∀ (a b c : D), cutD [a, b, c] (some 3) none = [] := fun _ _ _ => rfl
      simp_arith [a1, a2, same_sayR, sFor, forL, iArgs, nCat, nSl, slG, pNone, pSome, catG, b0, b1, b2, c1, c2, c3, m1, m2, m3, d1, d2, d3])
    (xs := bads) (s := (.no, .no, .no)) bads_bad
  obtain ⟨k1, _⟩ := key
  simp only [List.map_id'] at k1
  rw [show bads = [.int 1, .int (-1), .tup [.int 4, .int 3], .tup [.int 2, .int 2], .tup [.int (-7), .int 6], .tup [.int 1, .int 0], .tup [.int 1, .int (-2)], .tup [.bl true, .int 2], .bl false, .str "0", .non, .tup [.int 1, .int 2, .int 3]] from rfl] at k1
  simp_arith [sFor, k1]


end

section
set_option Elab.async false
set_option linter.all false
set_option maxRecDepth 100000
set_option maxHeartbeats 4000000

open PySem L2 Lw
variable {A : Str → Addr}
theorem endK_1 {m a : MO} {d : D} : endK [m] (.rt (.dat d)) [a] = .ok d [a] := chk_t (Nat.le_refl _)
theorem runF_eq' {np n : Nat} {f : SF} {gs : List G} {M : List MO} : runF np n f gs M = chk (gs.length = np) ((noEr (f (gs ++ List.replicate (n - gs.length) .no) M)).bind (endK M)) := rfl
theorem take_eq {ns : List Int} {n : Int} (hn : 0 < n) : ∃ (k : Int) (ms : List Int), 0 ≤ k ∧ k < n ∧ m_l_take A [.mr 0, .dat (.int n)] [.lst (ns.map D.int)] = .ok (.int k) [.lst (ms.map D.int)] := by
  unfold m_l_take f_l_take
  cases hl : ns.getLast? with
  | none =>
    have e : ns = [] := List.getLast?_eq_none_iff.mp hl
    subst e
    refine ⟨0, [], Int.le_refl _, hn, ?_⟩
    simp_arith [runF_eq', endK_1]
  | some k =>
    obtain ⟨ms, rfl⟩ := List.getLast?_eq_some_iff.mp hl
    refine ⟨k.fmod n, ms, Int.fmod_nonneg_of_pos k hn, Int.fmod_lt_of_pos k hn, ?_⟩
    have h0 : ¬ ((ms.length : Int) + 1 = 0) := by omega
    have h1 : n ≠ 0 := by omega
    simp_arith [runF_eq', endK_1, ePop, h0, h1]
    exact chk_t h1
def Menu (x : Rat) : Prop := sz 5 x ∧ inU x
theorem menu_of {p : Int} {q : Nat} (hq0 : q ≠ 0) (c : p.natAbs.Coprime q) (hp : p.natAbs < q) (hq : q < 32) : ∃ x : Rat, Menu x ∧ D.tup [.int p, .int (q : Nat)] = rq x := by
  refine ⟨⟨p, q, hq0, c⟩, ⟨⟨?_, ?_⟩, ?_, ?_⟩, rfl⟩
  · show p.natAbs < 2 ^ 5
    omega
  · show (q : Int).natAbs < 2 ^ 5
    omega
  · rw [Rat.lt_iff]
    show (-1 : Int) * (q : Int) < p * 1
    omega
  · rw [Rat.lt_iff]
    show p * 1 < 1 * (q : Int)
    omega
theorem menu_neg {p : Int} {q : Nat} (hq0 : q ≠ 0) (c : p.natAbs.Coprime q) (hp : p.natAbs < q) (hq : q < 32) : ∃ x : Rat, Menu x ∧ D.tup [.int (-p), .int (q : Nat)] = rq x :=
  menu_of hq0 (by rw [Int.natAbs_neg]; exact c) (by rw [Int.natAbs_neg]; exact hp) hq
def menu : List (Int × Nat) := [(1, 2), (1, 3), (2, 3), (1, 4), (3, 5), (1, 10), (9, 10), (2, 7), (3, 4), (1, 5)]
theorem menu_good : ∀ e ∈ menu, e.2 ≠ 0 ∧ e.1.natAbs.Coprime e.2 ∧ e.1.natAbs < e.2 ∧ e.2 < 32 := by decide
theorem wa : ¬ (Str.ofString "any" = Str.ofString "positive") := by decide +kernel
theorem wb : ¬ (Str.ofString "positive" = Str.ofString "any") := by decide +kernel
theorem pull_eq {ns : List Int} {s : Str} (hs : s = Str.ofString "any" ∨ s = Str.ofString "positive") :
    ∃ (x : Rat) (ms : List Int), Menu x ∧ m_l_pull A [.mr 0, .dat (.str s)] [.lst (ns.map D.int)] = .ok (rq x) [.lst (ms.map D.int)] := by
  obtain ⟨k, ms, h0, h1, e⟩ := take_eq (A := A) (ns := ns) (n := 10) (by decide)
  obtain ⟨j, ls, g0, g1, e2⟩ := take_eq (A := A) (ns := ms) (n := 6) (by decide)
  obtain ⟨i, rfl⟩ : ∃ i : Nat, k = i := ⟨k.toNat, by omega⟩
  have hi : i < 10 := by omega
  obtain ⟨en, he, hg⟩ : ∃ en : Int × Nat, menu[i]? = some en ∧ en ∈ menu := by
    have hl : i < menu.length := hi
    exact ⟨menu[i], List.getElem?_eq_getElem hl, List.getElem_mem hl⟩
  obtain ⟨q0, cp, lt, l32⟩ := menu_good en hg
  have hat : atI [D.tup [.int 1, .int 2], .tup [.int 1, .int 3], .tup [.int 2, .int 3], .tup [.int 1, .int 4], .tup [.int 3, .int 5], .tup [.int 1, .int 10], .tup [.int 9, .int 10], .tup [.int 2, .int 7], .tup [.int 3, .int 4], .tup [.int 1, .int 5]] (i : Int) = some (.tup [.int en.1, .int (en.2 : Nat)]) := by
    rw [atI_n]
    have : [D.tup [.int 1, .int 2], .tup [.int 1, .int 3], .tup [.int 2, .int 3], .tup [.int 1, .int 4], .tup [.int 3, .int 5], .tup [.int 1, .int 10], .tup [.int 9, .int 10], .tup [.int 2, .int 7], .tup [.int 3, .int 4], .tup [.int 1, .int 5]] = menu.map fun e => D.tup [.int e.1, .int (e.2 : Nat)] := rfl
    rw [this, List.getElem?_map, he]; rfl
  unfold m_l_pull f_l_pull
  rcases hs with rfl | rfl
  · by_cases c5 : j = 5
    · subst c5
      obtain ⟨x, hx, ex⟩ := menu_of (p := 0) (q := 1) (by decide) (by decide) (by decide) (by decide)
      refine ⟨x, ls, hx, ?_⟩
      rw [← ex]
      simp_arith [runF_eq', endK_1, callM, e, e2, hat, wa, wb]
    · by_cases c3 : 3 ≤ j
      · obtain ⟨x, hx, ex⟩ := menu_neg q0 cp lt l32
        refine ⟨x, ls, hx, ?_⟩
        rw [← ex]
        simp_arith [runF_eq', endK_1, callM, e, e2, hat, wa, wb, c5, c3]
      · obtain ⟨x, hx, ex⟩ := menu_of q0 cp lt l32
        refine ⟨x, ls, hx, ?_⟩
        rw [← ex]
        simp_arith [runF_eq', endK_1, callM, e, e2, hat, wa, wb, c5, c3]
  · obtain ⟨x, hx, ex⟩ := menu_of q0 cp lt l32
    refine ⟨x, ms, hx, ?_⟩
    rw [← ex]
    simp_arith [runF_eq', endK_1, callM, e, hat, wa, wb]


end

section
set_option Elab.async false
set_option linter.all false
set_option maxRecDepth 100000
set_option maxHeartbeats 4000000

open PySem L2 Lw
variable {A : Str → Addr}
/-- a loop whose body goes on, told by what it keeps -/
theorem forL_ex {α : Type} {b : BF} {f : SF} {u : α → D} {P : List G → List MO → List α → Prop}
    (h : ∀ Γ M x xs, P Γ M (x :: xs) → ∃ Γ1 Γ2 M2, b (u x) Γ = some Γ1 ∧ f Γ1 M = .ok (.nx Γ2) M2 ∧ P Γ2 M2 xs) :
    ∀ {xs : List α} {Γ M}, P Γ M xs → ∃ Γ' M', forL b f (xs.map u) Γ M = .ok (.nx Γ') M' ∧ P Γ' M' []
  | [], Γ, M, hp => ⟨Γ, M, rfl, hp⟩
  | x :: xs, Γ, M, hp => by
    obtain ⟨Γ1, Γ2, M2, e1, e2, hp'⟩ := h Γ M x xs hp
    obtain ⟨Γ', M', e3, hq⟩ := forL_ex h (xs := xs) hp'
    refine ⟨Γ', M', ?_, hq⟩
    simp only [List.map_cons, forL, e1, e2, ok_bind]
    exact e3
theorem draws_in1 {s a g4 g5 : G} {c : Int} {ms : List Int} (hl : ms.length ≤ 10000) : ∃ (c' : Int) (g' g'' : G) (ms' : List Int), ms'.length ≤ ms.length + 48 ∧ forL (bName 4) (sIf (tOf (eOp (oI fun i j => .bl (decide (j < i))) (eVar 3) (eCon (.int 0)))) (sSeq (sApp 1 (eOp (oC (fun _ j => j ≠ 0) fun i j => .int (i.fmod j)) (eCB cInt (aCons (eVar 3) aNil)) (eCon (.int 30))))
  (sAsg 3 (eOp (oC CDivW fun i j => .int (i / j)) (eVar 3) (eCon (.int 30))))) sNext) ((List.range 48).map fun i => D.int (i : Nat)) [s, .mr 0, a, .dat (.int c), g4, g5] [.lst (ms.map D.int)] = .ok (.nx [s, .mr 0, a, .dat (.int c'), g', g'']) [.lst (ms'.map D.int)] := by
  have key := forL_ex (α := Nat) (u := fun i => D.int (i : Nat)) (b := bName 4) (f := sIf (tOf (eOp (oI fun i j => .bl (decide (j < i))) (eVar 3) (eCon (.int 0)))) (sSeq (sApp 1 (eOp (oC (fun _ j => j ≠ 0) fun i j => .int (i.fmod j)) (eCB cInt (aCons (eVar 3) aNil)) (eCon (.int 30))))
    (sAsg 3 (eOp (oC CDivW fun i j => .int (i / j)) (eVar 3) (eCon (.int 30))))) sNext)
    (P := fun Γ M xs => ∃ (c' : Int) (g' g'' : G) (ms' : List Int), Γ = [s, .mr 0, a, .dat (.int c'), g', g''] ∧ M = [.lst (ms'.map D.int)] ∧ ms'.length + xs.length ≤ ms.length + 48)
    (fun Γ M x xs hP => by
      obtain ⟨c', g', g'', ms', rfl, rfl, hm⟩ := hP
      simp only [List.length_cons] at hm
      by_cases hc : 0 < c'
      · have hd : CDivW c' 30 := wide_div (by decide) (b := 10) (by decide) (by decide) (by decide)
        have hz : ms'.length < 16777216 := by omega
        refine ⟨_, [s, .mr 0, a, .dat (.int (c' / 30)), .dat (.int (x : Nat)), g''], [.lst ((ms' ++ [c'.fmod 30]).map D.int)], rfl, ?_, _, _, _, _, rfl, rfl, by simp; omega⟩
        simp_arith [hc, hd, hz, sApp, onMr]
      · refine ⟨_, [s, .mr 0, a, .dat (.int c'), .dat (.int (x : Nat)), g''], [.lst (ms'.map D.int)], rfl, ?_, _, _, _, _, rfl, rfl, by omega⟩
        simp_arith [hc])
    (xs := List.range 48) (Γ := [s, .mr 0, a, .dat (.int c), g4, g5]) (M := [.lst (ms.map D.int)]) ⟨_, _, _, _, rfl, rfl, by simp⟩
  obtain ⟨Γ', M', e, c', g', g'', ms', rfl, rfl, hm⟩ := key
  exact ⟨c', g', g'', ms', by simpa using hm, e⟩
theorem draws_in2 {s c g4 : G} {m : Int} {at_ : Nat} {ms : List Int} (hl : ms.length ≤ 10000) (ha : at_ < 63) (h0 : 0 ≤ m) (h1 : m < 998244353) : ∃ (m' : Int) (g' : G) (ms' : List Int), ms'.length ≤ ms.length + 6 ∧ forL (bName 4) (sSeq (sAsg 5 (eOp (oC (fun _ j => j ≠ 0) fun i j => .int (i.fmod j)) (eCB cInt (aCons (eOp (oI fun i j => .int (i + j)) (eOp (oI fun i j => .int (i + j)) (eOp (oI fun i j => .int (i + j)) (eOp (oI fun i j => .int (i + j)) (eOp (oC CMulW fun i j => .int (i * j)) (eVar 5) (eVar 5)) (eOp (oC CMulW fun i j => .int (i * j)) (eVar 5) (eCon (.int 3)))) (eOp (oC CMulW fun i j => .int (i * j)) (eVar 4) (eCon (.int 7919)))) (eOp (oC CMulW fun i j => .int (i * j)) (eVar 2) (eCon (.int 101)))) (eCon (.int 11))) aNil)) (eCon (.int 998244353))))
  (sApp 1 (eVar 5))) ((List.range 6).map fun i => D.int (i : Nat)) [s, .mr 0, .dat (.int (at_ : Nat)), c, g4, .dat (.int m)] [.lst (ms.map D.int)] = .ok (.nx [s, .mr 0, .dat (.int (at_ : Nat)), c, g', .dat (.int m')]) [.lst (ms'.map D.int)] := by
  have key := forL_ex (α := Nat) (u := fun i => D.int (i : Nat)) (b := bName 4) (f := (sSeq (sAsg 5 (eOp (oC (fun _ j => j ≠ 0) fun i j => .int (i.fmod j)) (eCB cInt (aCons (eOp (oI fun i j => .int (i + j)) (eOp (oI fun i j => .int (i + j)) (eOp (oI fun i j => .int (i + j)) (eOp (oI fun i j => .int (i + j)) (eOp (oC CMulW fun i j => .int (i * j)) (eVar 5) (eVar 5)) (eOp (oC CMulW fun i j => .int (i * j)) (eVar 5) (eCon (.int 3)))) (eOp (oC CMulW fun i j => .int (i * j)) (eVar 4) (eCon (.int 7919)))) (eOp (oC CMulW fun i j => .int (i * j)) (eVar 2) (eCon (.int 101)))) (eCon (.int 11))) aNil)) (eCon (.int 998244353))))
  (sApp 1 (eVar 5))))
    (P := fun Γ M xs => ∃ (m' : Int) (g' : G) (ms' : List Int), Γ = [s, .mr 0, .dat (.int (at_ : Nat)), c, g', .dat (.int m')] ∧ M = [.lst (ms'.map D.int)] ∧ ms'.length + xs.length ≤ ms.length + 6 ∧ 0 ≤ m' ∧ m' < 998244353 ∧ ∀ x ∈ xs, x < 6)
    (fun Γ M x xs hP => by
      obtain ⟨m', g', ms', rfl, rfl, hm, p0, p1, hx⟩ := hP
      simp only [List.length_cons] at hm
      have hx6 := hx x List.mem_cons_self
      have sm1 : sm 30 m' := by unfold sm; omega
      have w1 : CMulW m' m' := mulW sm1 sm1 (by decide) (by decide) (by decide)
      have w2 : CMulW m' 3 := mulW sm1 (b := 2) (by unfold sm; decide) (by decide) (by decide) (by decide)
      have w3 : CMulW (x : Int) 7919 := mulW (a := 3) (b := 13) (by unfold sm; omega) (by unfold sm; decide) (by decide) (by decide) (by decide)
      have w4 : CMulW (at_ : Int) 101 := mulW (a := 6) (b := 7) (by unfold sm; omega) (by unfold sm; decide) (by decide) (by decide) (by decide)
      have hz : ms'.length < 16777216 := by omega
      refine ⟨_, [s, .mr 0, .dat (.int (at_ : Nat)), c, .dat (.int (x : Nat)), .dat (.int ((m' * m' + m' * 3 + (x : Int) * 7919 + (at_ : Int) * 101 + 11).fmod 998244353))], [.lst ((ms' ++ [(m' * m' + m' * 3 + (x : Int) * 7919 + (at_ : Int) * 101 + 11).fmod 998244353]).map D.int)], rfl, ?_, _, _, _, rfl, rfl, by simp; omega, Int.fmod_nonneg_of_pos _ (by decide), Int.fmod_lt_of_pos _ (by decide), fun y hy => hx y (List.mem_cons_of_mem _ hy)⟩
      simp_arith [w1, w2, w3, w4, hz, sApp, onMr])
    (xs := List.range 6) (Γ := [s, .mr 0, .dat (.int (at_ : Nat)), c, g4, .dat (.int m)]) (M := [.lst (ms.map D.int)]) ⟨_, _, _, rfl, rfl, by simp, h0, h1, fun x hx => List.mem_range.mp hx⟩
  obtain ⟨Γ', M', e, m', g', ms', rfl, rfl, hm, _⟩ := key
  exact ⟨m', g', ms', by simpa using hm, e⟩


end

section
set_option Elab.async false
set_option linter.all false
set_option maxRecDepth 100000
set_option maxHeartbeats 4000000

open PySem L2 Lw
variable {A : Str → Addr}
theorem draws_eq {ns : List Int} (hn : ns.length ≤ 63) : ∃ ms : List Int, m_l_draws A [.fz (ns.map D.int)] = .ok (ms.map D.int) [] := by
  have er48 : ∀ M, rng1G [.dat (.int 48)] M = .ok ((List.range 48).map fun i => D.int (i : Nat)) M := fun M => rng1_n (n := 48) rfl (by decide)
  have er6 : ∀ M, rng1G [.dat (.int 6)] M = .ok ((List.range 6).map fun i => D.int (i : Nat)) M := fun M => rng1_n (n := 6) rfl (by decide)
  have hpow : CPow 10 18 := by decide
  have key := forL_ex (α := Nat) (u := fun i => D.int (i : Nat)) (b := bName 2) (f := (sSeq (sAsg 3 (eCB cInt (aCons (eIx (eVar 0) (eVar 2)) aNil)))
  (sSeq (sIf (tOf (eOp (oI fun i j => .bl (decide (i < j))) (eVar 3) (eCon (.int 0)))) (sAsg 3 (eOp (oI fun i j => .int (i - j)) (eCon (.int 2)) (eVar 3))) sNext)
  (sIf (tOf (eOp (oI fun i j => .bl (decide (j ≤ i))) (eVar 3) (eOp (oC CPow fun i j => .int (i ^ j.toNat)) (eCon (.int 10)) (eCon (.int 18))))) (sFor (iArgs rng1G (aCons (eCon (.int 48)) aNil)) (bName 4) (sIf (tOf (eOp (oI fun i j => .bl (decide (j < i))) (eVar 3) (eCon (.int 0)))) (sSeq (sApp 1 (eOp (oC (fun _ j => j ≠ 0) fun i j => .int (i.fmod j)) (eCB cInt (aCons (eVar 3) aNil)) (eCon (.int 30))))
  (sAsg 3 (eOp (oC CDivW fun i j => .int (i / j)) (eVar 3) (eCon (.int 30))))) sNext)) (sSeq (sAsg 5 (eOp (oC (fun _ j => j ≠ 0) fun i j => .int (i.fmod j)) (eCB cInt (aCons (eOp (oI fun i j => .int (i + j)) (eOp (oI fun i j => .int (i + j)) (eOp (oC CMulW fun i j => .int (i * j)) (eVar 3) (eCon (.int 69069))) (eOp (oC CMulW fun i j => .int (i * j)) (eVar 2) (eCon (.int 4099)))) (eCon (.int 5))) aNil)) (eCon (.int 998244353))))
  (sFor (iArgs rng1G (aCons (eCon (.int 6)) aNil)) (bName 4) (sSeq (sAsg 5 (eOp (oC (fun _ j => j ≠ 0) fun i j => .int (i.fmod j)) (eCB cInt (aCons (eOp (oI fun i j => .int (i + j)) (eOp (oI fun i j => .int (i + j)) (eOp (oI fun i j => .int (i + j)) (eOp (oI fun i j => .int (i + j)) (eOp (oC CMulW fun i j => .int (i * j)) (eVar 5) (eVar 5)) (eOp (oC CMulW fun i j => .int (i * j)) (eVar 5) (eCon (.int 3)))) (eOp (oC CMulW fun i j => .int (i * j)) (eVar 4) (eCon (.int 7919)))) (eOp (oC CMulW fun i j => .int (i * j)) (eVar 2) (eCon (.int 101)))) (eCon (.int 11))) aNil)) (eCon (.int 998244353))))
  (sApp 1 (eVar 5)))))))))
    (P := fun Γ M xs => ∃ (g2 g3 g4 g5 : G) (ms : List Int), Γ = [.dat (.fz (ns.map D.int)), .mr 0, g2, g3, g4, g5] ∧ M = [.lst (ms.map D.int)] ∧ ms.length + 48 * xs.length ≤ 48 * 63 ∧ ∀ x ∈ xs, x < ns.length)
    (fun Γ M x xs hP => by
      obtain ⟨g2, g3, g4, g5, ms, rfl, rfl, hm, hx⟩ := hP
      simp only [List.length_cons] at hm
      have hxl := hx x List.mem_cons_self
      have hx' : ∀ y ∈ xs, y < ns.length := fun y hy => hx y (List.mem_cons_of_mem _ hy)
      obtain ⟨c0, hc0⟩ : ∃ c0, ns[x]? = some c0 := ⟨_, List.getElem?_eq_getElem hxl⟩
      have hat : atI (ns.map D.int) (x : Int) = some (.int c0) := by rw [atI_n, List.getElem?_map, hc0]; rfl
      obtain ⟨c, hc, hnn⟩ : ∃ c : Int, (if c0 < 0 then 2 - c0 else c0) = c ∧ 0 ≤ c := ⟨_, rfl, by split <;> omega⟩
      have st : ∀ h : SF, sSeq (sIf (tOf (eOp (oI fun i j => .bl (decide (i < j))) (eVar 3) (eCon (.int 0)))) (sAsg 3 (eOp (oI fun i j => .int (i - j)) (eCon (.int 2)) (eVar 3))) sNext) h [.dat (.fz (ns.map D.int)), .mr 0, .dat (.int (x : Nat)), .dat (.int c0), g4, g5] [.lst (ms.map D.int)] = h [.dat (.fz (ns.map D.int)), .mr 0, .dat (.int (x : Nat)), .dat (.int c), g4, g5] [.lst (ms.map D.int)] := fun h => by
        by_cases hneg : c0 < 0
        · rw [if_pos hneg] at hc
          subst hc
          simp_arith [hneg]
        · rw [if_neg hneg] at hc
          subst hc
          simp_arith [hneg]
      have s0 : sAsg 3 (eCB cInt (aCons (eIx (eVar 0) (eVar 2)) aNil)) [.dat (.fz (ns.map D.int)), .mr 0, .dat (.int (x : Nat)), g3, g4, g5] [.lst (ms.map D.int)] = .ok (.nx [.dat (.fz (ns.map D.int)), .mr 0, .dat (.int (x : Nat)), .dat (.int c0), g4, g5]) [.lst (ms.map D.int)] := by simp_arith [hat]
      by_cases hb : 1000000000000000000 ≤ c
      · obtain ⟨c', g', g'', ms', hml, e⟩ := draws_in1 (s := .dat (.fz (ns.map D.int))) (a := .dat (.int (x : Nat))) (g4 := g4) (g5 := g5) (c := c) (ms := ms) (by omega)
        refine ⟨_, [.dat (.fz (ns.map D.int)), .mr 0, .dat (.int (x : Nat)), .dat (.int c'), g', g''], [.lst (ms'.map D.int)], rfl, ?_, _, _, _, _, _, rfl, rfl, by omega, hx'⟩
        show sSeq _ _ [.dat (.fz (ns.map D.int)), .mr 0, .dat (.int (x : Nat)), g3, g4, g5] _ = _
        rw [sSeq_nx s0, st]
        simp_arith [hpow, hb, sFor, iArgs, er48, e]
      · have w1 : CMulW c 69069 := mulW (a := 60) (b := 17) (by unfold sm; omega) (by unfold sm; decide) (by decide) (by decide) (by decide)
        have w2 : CMulW (x : Int) 4099 := mulW (a := 6) (b := 13) (by unfold sm; omega) (by unfold sm; decide) (by decide) (by decide) (by decide)
        obtain ⟨m', g', ms', hml, e⟩ := draws_in2 (s := .dat (.fz (ns.map D.int))) (c := .dat (.int c)) (g4 := g4) (m := (c * 69069 + (x : Int) * 4099 + 5).fmod 998244353) (at_ := x) (ms := ms) (by omega) (by omega) (Int.fmod_nonneg_of_pos _ (by decide)) (Int.fmod_lt_of_pos _ (by decide))
        refine ⟨_, [.dat (.fz (ns.map D.int)), .mr 0, .dat (.int (x : Nat)), .dat (.int c), g', .dat (.int m')], [.lst (ms'.map D.int)], rfl, ?_, _, _, _, _, _, rfl, rfl, by omega, hx'⟩
        show sSeq _ _ [.dat (.fz (ns.map D.int)), .mr 0, .dat (.int (x : Nat)), g3, g4, g5] _ = _
        rw [sSeq_nx s0, st]
        simp_arith [hpow, hb, w1, w2, sFor, iArgs]
        exact e)
    (xs := List.range ns.length) (Γ := [.dat (.fz (ns.map D.int)), .mr 0, .no, .no, .no, .no]) (M := [.lst []]) ⟨_, _, _, _, [], rfl, rfl, by simp; omega, fun x hx => List.mem_range.mp hx⟩
  obtain ⟨Γ', M', e, g2, g3, g4, g5, ms, rfl, rfl, _⟩ := key
  have er : ∀ M, rng1G [.dat (.int (ns.length : Nat))] M = .ok ((List.range ns.length).map fun i => D.int (i : Nat)) M := fun M => rng1_n (n := ns.length) rfl (by omega)
  have hmin : (if (63 : Int) < (ns.length : Int) then (63 : Int) else (ns.length : Int)) = (ns.length : Int) := if_neg (by omega)
  refine ⟨ms.reverse, ?_⟩
  unfold m_l_draws f_l_draws Lw.runN
  simp_arith [sAsgN, sFor, iArgs, hmin, er, e, sRev, onMr, Lw.endN]


end

section
set_option Elab.async false
set_option linter.all false
set_option maxRecDepth 100000
set_option maxHeartbeats 4000000

open PySem L2 Lw
variable {A : Str → Addr}
theorem dbl_comm (x y z : Rat) : dbl x y z = dbl y x z := by
  unfold dbl
  rw [show x * y = y * x by grind, show x * x * (y * y) = y * y * (x * x) by grind, show x * x + y * y = y * y + x * x by grind]
theorem dbl_neg1 (x y z : Rat) : dbl (-x) y z = -dbl x y z := by
  unfold dbl
  rw [show -x * -x = x * x by grind, show 2 * (-x * y * (1 - z * z)) = -(2 * (x * y * (1 - z * z))) by grind]
  rw [Rat.div_def, Rat.div_def, Rat.neg_mul]
theorem dbl_neg2 (x y z : Rat) : dbl x (-y) z = -dbl x y z := by rw [dbl_comm, dbl_neg1, dbl_comm]
theorem dbl_neg3 (x y z : Rat) : dbl x y (-z) = dbl x y z := by
  unfold dbl
  rw [show -z * -z = z * z by grind]
theorem sz_dbl {x y z : Rat} (hx : sz 5 x) (hy : sz 5 y) (hz : sz 5 z) (ux : inU x) (uy : inU y) (uz : inU z) : sz 100 (dbl x y z) := by
  have s2 : sz 2 (2 : Rat) := sz_int (i := 2) (by unfold sm; decide) (by decide)
  have s1 : sz 1 (1 : Rat) := sz_1 (by decide)
  have n := dbl_den ux uy uz
  have a := sz_mul s2 (sz_mul (sz_mul hx hy) (sz_sub s1 (sz_mul hz hz)))
  have b := sz_sub (sz_add s1 (sz_mul (sz_mul hx hx) (sz_mul hy hy))) (sz_mul (sz_mul hz hz) (sz_add (sz_mul hx hx) (sz_mul hy hy)))
  exact sz_up (sz_over a b (by grind)) (by decide)
theorem menu_pd {x : Rat} (h : Menu x) : PullD A (rq x) x := pd_tup (sz_up h.1 (by decide)) h.2
theorem menu_minus {x : Rat} (h : Menu x) : Menu (-x) := by
  refine ⟨⟨?_, ?_⟩, ?_, ?_⟩
  · rw [Rat.neg_num]; exact sm_neg h.1.1
  · rw [Rat.neg_den]; exact h.1.2
  · have := h.2.2; grind
  · have := h.2.1; grind
theorem same_q {x : Rat} : x = (x.num : Rat) / ((x.den : Int) : Rat) := rq_id.symm
theorem den_ne' (x : Rat) : ((x.den : Nat) : Int) ≠ 0 := by have := x.den_nz; omega
theorem three_same {x y z : Rat} (hx : sz 1900 x) (hy : sz 1900 y) (hz : sz 1900 z) {d : D} (hd : d = .lst [rq x, rq y, rq z] ∨ d = .fz [rq x, rq y, rq z]) : m_l_three_are A [.dat (.tup [rq x, rq y, rq z]), .dat d] [] = .ok (.bl true) [] :=
  three_are_eq hx hy hz hx.1 hx.2 hy.1 hy.2 hz.1 hz.2 (den_ne' _) (den_ne' _) (den_ne' _) same_q same_q same_q hd
theorem td_eq {x y z : Rat} (hx : Menu x) (hy : Menu y) (hz : Menu z) : m_triangle_doubles A [.dat (rq x), .dat (rq y), .dat (rq z)] [] = .ok (.tup [rq (dbl x y z), rq (dbl x z y), rq (dbl y z x)]) [] :=
  triangle_doubles_eq (menu_pd hx) (menu_pd hy) (menu_pd hz) (sz_up hx.1 (by decide)) (sz_up hy.1 (by decide)) (sz_up hz.1 (by decide)) hx.2 hy.2 hz.2
theorem tup_three {x y z : Rat} (hx : sz 1900 x) (hy : sz 1900 y) (hz : sz 1900 z) : m_l_three_are A [.dat (.tup [rq x, rq y, rq z]), .dat (.tup [rq x, rq y, rq z])] [] = .ok (.bl true) [] := by
  unfold m_l_three_are f_l_three_are
  have a := l_is_rq (A := A) hx hx.1 hx.2 (den_ne' _)
  have b := l_is_rq (A := A) hy hy.1 hy.2 (den_ne' _)
  have c := l_is_rq (A := A) hz hz.1 hz.2 (den_ne' _)
  rw [decide_eq_true same_q] at a b c
  simp_arith [iArgs, nLc, lcGo, tTrue, wipeG, a, b, c, cAll, blsOf]


end

section
set_option Elab.async false
set_option linter.all false
set_option maxRecDepth 100000
set_option maxHeartbeats 8000000

open PySem L2 Lw
variable {A : Str → Addr}
theorem neg_is {x : Rat} (h : sz 100 x) : m_l_is A [.dat (rq (-x)), .dat (.tup [.int (-x.num), .int x.den])] [] = .ok (.bl true) [] := by
  have h' : sz 1900 (-x) := by
    refine ⟨?_, ?_⟩
    · rw [Rat.neg_num]; exact sm_up (sm_neg h.1) (by decide)
    · rw [Rat.neg_den]; exact sm_up h.2 (by decide)
  rw [l_is_rq h' (sm_up (sm_neg h.1) (by decide)) (sm_up h.2 (by decide)) (den_ne' x)]
  have e : -x = ((-x.num : Int) : Rat) / ((x.den : Int) : Rat) := by
    rw [Rat.intCast_neg]
    have := same_q (x := x)
    rw [Rat.div_def, Rat.neg_mul, ← Rat.div_def, ← this]
  rw [decide_eq_true e]
theorem pos_is {x : Rat} (h : sz 100 x) : m_l_is A [.dat (rq x), .dat (.tup [.int x.num, .int x.den])] [] = .ok (.bl true) [] := by
  rw [l_is_rq (sz_up h (by decide)) (sm_up h.1 (by decide)) (sm_up h.2 (by decide)) (den_ne' x), decide_eq_true same_q]
theorem law_eq (hp : ∀ x y z, Menu x → Menu y → Menu z → m_l_pulls_hold A [.dat (.lst [rq x, rq y, rq z])] [] = .ok (.bl true) []) {ns : List Int} (hn : ns.length ≤ 63) : m_law A [.dat (.fz (ns.map D.int))] [] = .ok (.bl true) [] := by
  obtain ⟨m0, e0⟩ := draws_eq (A := A) hn
  obtain ⟨k0, m1, ka, kb, e1⟩ := take_eq (A := A) (ns := m0) (n := 2) (by decide)
  obtain ⟨s, hs, es⟩ : ∃ s : Str, (s = Str.ofString "any" ∨ s = Str.ofString "positive") ∧ atI [D.str (Str.ofString "any"), D.str (Str.ofString "positive")] k0 = some (.str s) := by
    rcases (by omega : k0 = 0 ∨ k0 = 1) with rfl | rfl
    · exact ⟨_, .inl rfl, rfl⟩
    · exact ⟨_, .inr rfl, rfl⟩
  obtain ⟨x, m2, hx, ex⟩ := pull_eq (A := A) (ns := m1) hs
  obtain ⟨y, m3, hy, ey⟩ := pull_eq (A := A) (ns := m2) hs
  obtain ⟨z, m4, hz, ez⟩ := pull_eq (A := A) (ns := m3) hs
  obtain ⟨k1, m5, ja, jb, e5⟩ := take_eq (A := A) (ns := m4) (n := 3) (by decide)
  obtain ⟨x', m6, hx', ex'⟩ := pull_eq (A := A) (ns := m5) (.inl rfl)
  obtain ⟨y', m7, hy', ey'⟩ := pull_eq (A := A) (ns := m6) (.inl rfl)
  obtain ⟨z', m8, hz', ez'⟩ := pull_eq (A := A) (ns := m7) (.inl rfl)
  have H1 := hp x y z hx hy hz
  have H2 := hp x' y' z' hx' hy' hz'
  have R := refused_eq (A := A) (menu_pd hx) (menu_pd hy) (menu_pd hz)
  have T := td_eq (A := A) hx hy hz
  have T2 := td_eq (A := A) hz hx hy
  have sa := sz_dbl hx.1 hy.1 hz.1 hx.2 hy.2 hz.2
  have sb := sz_dbl hx.1 hz.1 hy.1 hx.2 hz.2 hy.2
  have sc := sz_dbl hy.1 hz.1 hx.1 hy.2 hz.2 hx.2
  rw [dbl_comm z x y, dbl_comm z y x] at T2
  have c := fun {x : Rat} (h : sz 100 x) => sz_up h (show 100 ≤ 1900 by decide)
  have Q1 := three_same (A := A) (c sb) (c sc) (c sa) (.inl rfl)
  have Q2 := tup_three (A := A) (c sa) (c sb) (c sc)
  have i01 : ∀ M, oIn false (.int 0) (.tup [.int 0, .int 1]) M = .ok (.dat (.bl true)) M := fun M => by kernel_rfl
  have i02 : ∀ M, oIn false (.int 0) (.tup [.int 0, .int 2]) M = .ok (.dat (.bl true)) M := fun M => by kernel_rfl
  have i03 : ∀ M, oIn false (.int 0) (.tup [.int 1, .int 2]) M = .ok (.dat (.bl false)) M := fun M => by kernel_rfl
  have i11 : ∀ M, oIn false (.int 1) (.tup [.int 0, .int 1]) M = .ok (.dat (.bl true)) M := fun M => by kernel_rfl
  have i12 : ∀ M, oIn false (.int 1) (.tup [.int 0, .int 2]) M = .ok (.dat (.bl false)) M := fun M => by kernel_rfl
  have i13 : ∀ M, oIn false (.int 1) (.tup [.int 1, .int 2]) M = .ok (.dat (.bl true)) M := fun M => by kernel_rfl
  have i21 : ∀ M, oIn false (.int 2) (.tup [.int 0, .int 1]) M = .ok (.dat (.bl false)) M := fun M => by kernel_rfl
  have i22 : ∀ M, oIn false (.int 2) (.tup [.int 0, .int 2]) M = .ok (.dat (.bl true)) M := fun M => by kernel_rfl
  have i23 : ∀ M, oIn false (.int 2) (.tup [.int 1, .int 2]) M = .ok (.dat (.bl true)) M := fun M => by kernel_rfl
  have na := neg_is (A := A) sa
  have nb := neg_is (A := A) sb
  have nc := neg_is (A := A) sc
  have pa := pos_is (A := A) sa
  have pb := pos_is (A := A) sb
  have pc := pos_is (A := A) sc
  have wn : ∀ {t : Rat}, sz 100 t → CMulW (-1) t.num := fun h => mulW (a := 1) (by unfold sm; decide) h.1 (by decide) (by decide) (by decide)
  have wp : ∀ {t : Rat}, sz 100 t → CMulW 1 t.num := fun h => mulW (a := 1) (by unfold sm; decide) h.1 (by decide) (by decide) (by decide)
  have wna := wn sa
  have wnb := wn sb
  have wnc := wn sc
  have wpa := wp sa
  have wpb := wp sb
  have wpc := wp sc
  unfold m_law f_law
  rcases (by omega : k1 = 0 ∨ k1 = 1 ∨ k1 = 2) with rfl | rfl | rfl
  · have N := td_eq (A := A) (menu_minus hx) hy hz
    rw [dbl_neg1, dbl_neg1, dbl_neg3] at N
    simp only [rq, Rat.neg_num, Rat.neg_den] at N na nb nc
    simp_arith [nCall, e0, sAsgN, callM, e1, es, nLcX, iArgs, lcGo, tTrue, wipeG, ex, ey, ez, H1, R, T, T2, Q1, e5, nCB, cList, sSetL, onMr, ixN, sFrz, Lw.frG, N, sFor, forL, i01, i02, i03, wna, wnb, wpc, na, nb, pc, ex', ey', ez', H2, Q2]
  · have N := td_eq (A := A) hx (menu_minus hy) hz
    rw [dbl_neg2, dbl_neg3, dbl_neg1] at N
    simp only [rq, Rat.neg_num, Rat.neg_den] at N na nb nc
    simp_arith [nCall, e0, sAsgN, callM, e1, es, nLcX, iArgs, lcGo, tTrue, wipeG, ex, ey, ez, H1, R, T, T2, Q1, e5, nCB, cList, sSetL, onMr, ixN, sFrz, Lw.frG, N, sFor, forL, i11, i12, i13, wna, wpb, wnc, na, pb, nc, ex', ey', ez', H2, Q2]
  · have N := td_eq (A := A) hx hy (menu_minus hz)
    rw [dbl_neg3, dbl_neg2, dbl_neg2] at N
    simp only [rq, Rat.neg_num, Rat.neg_den] at N na nb nc
    simp_arith [nCall, e0, sAsgN, callM, e1, es, nLcX, iArgs, lcGo, tTrue, wipeG, ex, ey, ez, H1, R, T, T2, Q1, e5, nCB, cList, sSetL, onMr, ixN, sFrz, Lw.frG, N, sFor, forL, i21, i22, i23, wpa, wnb, wnc, pa, nb, nc, ex', ey', ez', H2, Q2]


end

section
set_option Elab.async false
set_option linter.all false
set_option maxRecDepth 100000
set_option maxHeartbeats 8000000

open PySem L2 Lw
variable {A : Str → Addr}
theorem is_place_eq {i n : Nat} (h : i < n) : m_is_place A [.dat (.int (i : Nat)), .dat (.int (n : Nat))] [] = .ok (.bl true) [] := by
  unfold m_is_place f_is_place
  have h1 : (0 : Int) ≤ (i : Int) := by omega
  have h2 : (i : Int) < (n : Int) := by omega
  simp_arith [isi_int, h1, h2]
theorem tie_of_eq {k : Int} {u v n : Nat} {x : Rat} (hu : u < n) (hv : v < n) (hx : sz 9000 x) (ux : inU x) : m_tie_of A [.dat (.int k), .dat (.tup [.int (u : Nat), .int (v : Nat), rq x]), .dat (.int (n : Nat))] [] = .ok (.tup [.int (u : Nat), .int (v : Nat), rq x]) [] := by
  unfold m_tie_of f_tie_of
  have z := inU_abs ux
  simp_arith [isrow_tup, is_place_eq hu, is_place_eq hv, is_ratio_rq, ratio_of_rq hx, z]
theorem count_of_eq {n m : Nat} (h1 : 1 ≤ n) (h2 : n ≤ m) : m_count_of A [.dat (.int (n : Nat)), .dat (.int (m : Nat))] [] = .ok (.int (n : Nat)) [] := by
  unfold m_count_of f_count_of
  have a : ¬ ((n : Int) < 1) := by omega
  have b : ¬ ((m : Int) < (n : Int)) := by omega
  simp_arith [isi_int, a, b]
/-- a web as the program holds it -/
abbrev webD (A : Str → Addr) (n : Nat) (ts : List (Nat × Nat × Rat)) : D := .obj (A "Web") ["many", "ties"] [.int (n : Nat), .tup (ts.map fun t => .tup [.int (t.1 : Nat), .int (t.2.1 : Nat), rq t.2.2])]
theorem ties_of_eq {n : Nat} {ts : List (Nat × Nat × Rat)} (hl : ts.length ≤ 10) (h : ∀ t ∈ ts, t.1 < n ∧ t.2.1 < n ∧ sz 9000 t.2.2 ∧ inU t.2.2) :
    m_ties_of A [.dat (.lst (ts.map fun t => .tup [.int (t.1 : Nat), .int (t.2.1 : Nat), rq t.2.2])), .dat (.int (n : Nat)), .dat (.int 10)] [] = .ok (.tup (ts.map fun t => .tup [.int (t.1 : Nat), .int (t.2.1 : Nat), rq t.2.2])) [] := by
  unfold m_ties_of f_ties_of
  have a : ¬ ((10 : Int) < (ts.length : Int)) := by omega
  have lc : ∀ (ts : List (Nat × Nat × Rat)) (k : Nat) (Γ : List G), (∀ t ∈ ts, t.1 < n ∧ t.2.1 < n ∧ sz 9000 t.2.2 ∧ inU t.2.2) → ∀ g0 , lcGo (bRow [bName 3, bName 4]) tTrue (eCall (m_tie_of A) (aCons (eVar 3) (aCons (eVar 4) (aCons (eVar 1) aNil)))) [g0, .dat (.int (n : Nat)), .dat (.int 10), .no, .no] (enR k (ts.map fun t => .tup [.int (t.1 : Nat), .int (t.2.1 : Nat), rq t.2.2])) [] = .ok (ts.map fun t => .tup [.int (t.1 : Nat), .int (t.2.1 : Nat), rq t.2.2]) [] := by
    intro ts
    induction ts with
    | nil => intro k Γ h g0; rfl
    | cons t ts ih =>
      intro k Γ h g0
      obtain ⟨h1, h2, h3, h4⟩ := h t List.mem_cons_self
      have e := tie_of_eq (A := A) (k := (k : Int)) h1 h2 h3 h4
      have r := ih (k + 1) Γ (fun t ht => h t (List.mem_cons_of_mem _ ht)) g0
      simp only [List.map_cons, enR, lcGo]
      simp_arith [e, r, tTrue]
  have l2 := lc ts 0 [] h
  have hl2 : ts.length < 16777216 := by omega
  have hlen : (enR 0 (ts.map fun t => D.tup [.int (t.1 : Nat), .int (t.2.1 : Nat), rq t.2.2])).length = ts.length := by rw [enR_eq]; simp
  simp_arith [isrow_lst, a, nLc, iArgs, enumD_R, hlen, hl2, wipeG, l2]
theorem wmt : ¬ (Str.ofString "ties" = Str.ofString "many") := by decide +kernel
theorem wtm : ¬ (Str.ofString "many" = Str.ofString "ties") := by decide +kernel
theorem endK_1n {m a : MO} {Γ : List G} : endK [m] (.nx Γ) [a] = .ok .non [a] := chk_t (Nat.le_refl _)
theorem web_init_eq {n : Nat} {ts : List (Nat × Nat × Rat)} (h1 : 1 ≤ n) (hn : n ≤ 10) (hl : ts.length ≤ 10) (h : ∀ t ∈ ts, t.1 < n ∧ t.2.1 < n ∧ sz 9000 t.2.2 ∧ inU t.2.2) :
    m_Web_init A [.mr 0, .dat (.int (n : Nat)), .dat (.lst (ts.map fun t => .tup [.int (t.1 : Nat), .int (t.2.1 : Nat), rq t.2.2]))] [.ins (A "Web") [] []] = .ok .non [.ins (A "Web") ["many", "ties"] [.int (n : Nat), .tup (ts.map fun t => .tup [.int (t.1 : Nat), .int (t.2.1 : Nat), rq t.2.2])]] := by
  unfold m_Web_init f_Web_init
  have c : m_count_of A [.dat (.int (n : Nat)), .dat (.int 10)] [] = .ok (.int (n : Nat)) [] := count_of_eq (A := A) (m := 10) h1 hn
  have t := ties_of_eq (A := A) hl h
  have a1 : Str.ofString "most_places" ∉ ([] : List Str) := by simp
  have a2 : Str.ofString "most_ties" ∉ ([Str.ofString "many"] : List Str) := by decide +kernel
  have w1 : ¬ (Str.ofString "most_ties" = Str.ofString "many") := by decide +kernel
  simp_arith [runF_eq', endK_1n, sSetF, eConst, eFld, fldG, clsIn, List.lookup, c, t, wmt, wtm, w1]


end

section
set_option Elab.async false
set_option linter.all false
set_option maxRecDepth 100000
set_option maxHeartbeats 8000000

open PySem L2 Lw
variable {A : Str → Addr}
def sgn4 (u v j : Nat) : Int := if bit4 j u = bit4 j v then 1 else -1
theorem signs4 (v : Nat) (hv : v = 1 ∨ v = 2 ∨ v = 3) : m_signs_of A [.dat (.tup [.int 0, .int (v : Nat)]), .dat (.int 4)] [] = .ok (.lst (rowsD (sgn4 0 v))) [] := by
  rcases hv with rfl | rfl | rfl <;> kernel_rfl
theorem isi_bl {b : Bool} : m_is_integer A [.dat (.bl b)] [] = .ok (.bl false) [] := is_integer_eq rfl
theorem distinct_one (v : Nat) : m_distinct_numbers A [.dat (.tup [.int (v : Nat)])] [] = .ok (.tup [.int (v : Nat)]) [] := by
  unfold m_distinct_numbers f_distinct_numbers
  have h : (0 : Int) ≤ (v : Int) := by omega
  simp_arith [isrow_tup, isi_int, nLc, lcGo, tTrue, wipeG, h, cAll, blsOf, cSorted, intsOf, srt, eLenSet, ddp]
theorem joined4 (v : Nat) (hv : v = 1 ∨ v = 2 ∨ v = 3) : m_joined A [.dat (.tup [.int 0]), .dat (.tup [.int (v : Nat)])] [] = .ok (.tup [.int 0, .int (v : Nat)]) [] := by
  unfold m_joined f_joined
  have d0 : m_distinct_numbers A [.dat (.tup [.int 0])] [] = .ok (.tup [.int 0]) [] := distinct_one 0
  have dv := distinct_one (A := A) v
  have hs : srt [(0 : Int), (v : Int)] = [0, (v : Int)] := by
    unfold srt
    first | exact List.mergeSort_of_pairwise (by simp) | exact List.mergeSort_of_sorted (by simp)
  have q1 : eqV (V.int (v : Nat)) (V.int 0) = false := by rcases hv with rfl | rfl | rfl <;> rfl
  have q2 : eqV (V.int 0) (V.int (v : Nat)) = false := by rcases hv with rfl | rfl | rfl <;> rfl
  simp_arith [q1, q2, d0, dv, nLc, lcGo, tTrue, tCalm, wipeG, nCat, catG, oIsN, Lw.isNon, oIn, flV, flVs, inV, cSorted, intsOf, hs]
theorem zip_rows (r s : Nat → Int) : zipD (rowsD r) (rowsD s) = (List.range 16).map fun j => D.tup [.int (r j), .int (s j)] := rfl
/-- one tie of the star at the floor 0 -/
def wtb (A : Str → Addr) : SF := (sSeq (sAsg 6 (eCall (m_signs_of A) (aCons (eCall (m_joined A) (aCons (eTup (aCons (eVar 2) aNil)) (aCons (eTup (aCons (eVar 3) aNil)) aNil))) (aCons (eFld A ["Web", "Spread"] "many" (eVar 0)) aNil))))
  (sAsg 1 (eNew (nLc (iArgs zipG2 (aCons (eVar 1) (aCons (eVar 6) aNil))) (bRow [(bName 8), (bName 9)]) tTrue (eOp (oC CMulW fun i j => .int (i * j)) (eVar 8) (eOp (oI fun i j => .int (i + j)) (eVar 5) (eOp (oC CMulW fun i j => .int (i * j)) (eVar 4) (eVar 9)))) [8, 9]))))
theorem sgn4_wq (v : Nat) (p q : Int) (j : Nat) : q + p * sgn4 0 v j = wq 0 v p q j := by
  unfold sgn4 wq; split <;> omega
theorem wt_step {es : List D} {v : Nat} {p q : Int} {r : Nat → Int} {B : Nat} {g6 g7 g8 g9 : G} (hv : v = 1 ∨ v = 2 ∨ v = 3) (hp : sm 5 p) (hq : sm 5 q) (hr : ∀ j, sm B (r j)) (hB : B ≤ 1000) (hB0 : 0 < B) :
    wtb A [.dat (.obj (A "Web") ["many", "ties"] (.int 4 :: es)), .dat (.lst (rowsD r)), .dat (.int 0), .dat (.int (v : Nat)), .dat (.int p), .dat (.int q), g6, g7, g8, g9] [] =
      .ok (.nx [.dat (.obj (A "Web") ["many", "ties"] (.int 4 :: es)), .dat (.lst (rowsD fun j => r j * wq 0 v p q j)), .dat (.int 0), .dat (.int (v : Nat)), .dat (.int p), .dat (.int q), .dat (.lst (rowsD (sgn4 0 v))), g7, g8, g9]) [] ∧ ∀ j, sm (B + 6) (r j * wq 0 v p q j) := by
  have hw : ∀ i, sm 6 (wq 0 v p q i) := fun i => by
    unfold wq; split
    · exact sm_add hq hp
    · exact sm_sub hq hp
  refine ⟨?_, fun j => sm_mul (hr j) (hw j)⟩
  have s4 := signs4 (A := A) v hv
  have j4 := joined4 (A := A) v hv
  have lc := lcGo_mapA (α := Nat) (b := bRow [(bName 8), (bName 9)]) (e := eOp (oC CMulW fun i j => .int (i * j)) (eVar 8) (eOp (oI fun i j => .int (i + j)) (eVar 5) (eOp (oC CMulW fun i j => .int (i * j)) (eVar 4) (eVar 9))))
    (Γ := [.dat (.obj (A "Web") ["many", "ties"] (.int 4 :: es)), .dat (.lst (rowsD r)), .dat (.int 0), .dat (.int (v : Nat)), .dat (.int p), .dat (.int q), .dat (.lst (rowsD (sgn4 0 v))), g7, .no, .no]) (M := [])
    (u := fun j => D.tup [.int (r j), .int (sgn4 0 v j)]) (v := fun j => .int (r j * wq 0 v p q j)) (xs := List.range 16) (fun j _ => by
      have c1 : CMulW p (sgn4 0 v j) := mulW hp (b := 1) (by unfold sgn4; split <;> (unfold sm; decide)) (by decide) (by decide) (by decide)
      have c2 : CMulW (r j) (q + p * sgn4 0 v j) := by rw [sgn4_wq]; exact mulW (hr j) (hw j) hB0 (by decide) (by omega)
      refine ⟨_, rfl, ?_⟩
      rw [← sgn4_wq]
      simp_arith [c1, c2])
  have hz : ((List.range 16).map fun j => D.tup [.int (r j), .int (sgn4 0 v j)]).length < 16777216 := by simp
  unfold wtb
  simp_arith [eFld, fldG, clsIn, List.lookup, j4, s4, nLc, iArgs, zipG2, zip_rows, wipeG, lc]
  rfl
theorem bmt : (Str.ofString "ties" == Str.ofString "many") = false := by decide +kernel
theorem btm : (Str.ofString "many" == Str.ofString "ties") = false := by decide +kernel
abbrev star4 (A : Str → Addr) (x y z : Rat) : D := .obj (A "Web") ["many", "ties"] [.int 4, .tup [.tup [.int 0, .int 1, rq x], .tup [.int 0, .int 2, rq y], .tup [.int 0, .int 3, rq z]]]
theorem weight_tops_eq {x y z : Rat} (hx : sz 5 x) (hy : sz 5 y) (hz : sz 5 z) : m_weight_tops A [.dat (star4 A x y z)] [] = .ok (.lst (rowsD (star3 x y z))) [] := by
  have g0 : ∀ j : Nat, sm 1 ((fun _ => 1 : Nat → Int) j) := fun _ => (by unfold sm; decide : sm 1 (1 : Int))
  have hpow : CPow 1 4 := by decide
  have r16 : ∀ M, rng1G [.dat (.int 16)] M = .ok ((List.range 16).map fun i => D.int (i : Nat)) M := fun M => rng1_n (n := 16) rfl (by decide)
  have l0 : ∀ (Γ : List G) (M : List MO), lcGo (bName 7) tTrue (eCon (.int 1)) Γ ((List.range 16).map fun i => D.int (i : Nat)) M = .ok (rowsD fun _ => 1) M := fun Γ M =>
    lcGo_mapA (v := fun _ => .int 1) (fun i _ => ⟨_, rfl, rfl⟩)
  obtain ⟨a1, a2⟩ := wt_step (A := A) (es := [.tup [.tup [.int 0, .int 1, rq x], .tup [.int 0, .int 2, rq y], .tup [.int 0, .int 3, rq z]]]) (v := 1) (r := fun _ => 1) (B := 1) (g6 := .no) (g7 := .no) (g8 := .no) (g9 := .no) (.inl rfl) hx.1 hx.2 g0 (by decide) (by decide)
  obtain ⟨b1, b2⟩ := wt_step (A := A) (es := [.tup [.tup [.int 0, .int 1, rq x], .tup [.int 0, .int 2, rq y], .tup [.int 0, .int 3, rq z]]]) (v := 2) (g6 := .dat (.lst (rowsD (sgn4 0 1)))) (g7 := .no) (g8 := .no) (g9 := .no) (.inr (.inl rfl)) hy.1 hy.2 a2 (by decide) (by decide)
  obtain ⟨c1, c2⟩ := wt_step (A := A) (es := [.tup [.tup [.int 0, .int 1, rq x], .tup [.int 0, .int 2, rq y], .tup [.int 0, .int 3, rq z]]]) (v := 3) (g6 := .dat (.lst (rowsD (sgn4 0 2)))) (g7 := .no) (g8 := .no) (g9 := .no) (.inr (.inr rfl)) hz.1 hz.2 b2 (by decide) (by decide)
  have fl : forL (bRow [(bName 2), (bName 3), (bRow [(bName 4), (bName 5)])]) (wtb A) [.tup [.int 0, .int 1, rq x], .tup [.int 0, .int 2, rq y], .tup [.int 0, .int 3, rq z]] [.dat (star4 A x y z), .dat (.lst (rowsD fun _ => 1)), .no, .no, .no, .no, .no, .no, .no, .no] [] =
      .ok (.nx [.dat (star4 A x y z), .dat (.lst (rowsD (star3 x y z))), .dat (.int 0), .dat (.int 3), .dat (.int z.num), .dat (.int z.den), .dat (.lst (rowsD (sgn4 0 3))), .no, .no, .no]) [] := by
    simp only [forL, bRow, isRow, rowD, bGo, bName, if_true, Option.bind_some, List.set_cons_succ, List.set_cons_zero]
    refine Eq.trans (congrArg (fun r => Rz.bind r _) a1) ?_
    simp only [ok_bind, List.set_cons_succ, List.set_cons_zero]
    refine Eq.trans (congrArg (fun r => Rz.bind r _) b1) ?_
    simp only [ok_bind, List.set_cons_succ, List.set_cons_zero]
    refine Eq.trans (congrArg (fun r => Rz.bind r _) c1) ?_
    rfl
  unfold m_weight_tops f_weight_tops
  unfold wtb at fl
  simp_arith [eFld, fldG, clsIn, List.lookup, nLc, iArgs, hpow, r16, l0, sFor, wmt, wtm, bmt, btm, fl]


end

section
set_option Elab.async false
set_option linter.all false
set_option maxRecDepth 100000
set_option maxHeartbeats 8000000

open PySem L2 Lw
variable {A : Str → Addr}
/-! a spread made of its chances -/
theorem eqv_int (i : Int) : PyData.eqv (.int i) (.int i) = true := by simp [PyData.eqv]
theorem ne_pair {a b : Int} {M : List MO} : oEqD true (.tup [.int a, .int b]) (.tup [.int a, .int b]) M = .ok (.dat (.bl false)) M := by
  unfold oEqD
  simp only [toPy, toPys, Option.map_some]
  rw [chk_t ⟨rfl, rfl⟩]
  simp [PyData.eqv, PyData.eqvAll]
theorem places8 {d0 d1 d2 d3 d4 d5 d6 d7 : D} : m_places_told A [.dat (.lst [d0, d1, d2, d3, d4, d5, d6, d7])] [] = .ok (.int 3) [] := by kernel_rfl
theorem places16 {d0 d1 d2 d3 d4 d5 d6 d7 d8 d9 da db dc dd de df : D} : m_places_told A [.dat (.lst [d0, d1, d2, d3, d4, d5, d6, d7, d8, d9, da, db, dc, dd, de, df])] [] = .ok (.int 4) [] := by kernel_rfl
/-- the first look at the rows -/
def lk1 (A : Str → Addr) : SF := (sIf (fOr (fNot (tOf (eCall (m_is_ratio A) (aCons (eVar 2) aNil)))) (tOf (eOp (oI fun i j => .bl (decide (i ≤ j))) (eCall (m_sign_of A) (aCons (eVar 2) aNil)) (eCon (.int 0))))) sNo sNext)
def lk2 (A : Str → Addr) : SF := (sIf (tOf (eOp (oEqD true) (eVar 2) (eIx (eVar 3) (eOp (oI fun i j => .int (i - j)) (eOp (oI fun i j => .int (i - j)) (eCB cLen (aCons (eVar 3) aNil)) (eCon (.int 1))) (eVar 1))))) sNo sNext)
theorem sgn_pos {x : Rat} (h : 0 < x) : sgn x = 1 := by
  unfold sgn; rw [if_neg (by grind), if_pos h]
theorem look1 {g0 g3 : G} : ∀ {xs : List Rat} {k : Nat} {g1 g2 : G}, (∀ x ∈ xs, 0 < x ∧ sz 9000 x) → ∃ g1' g2', forL (bRow [(bName 1), (bName 2)]) (lk1 A) (enR k (xs.map rq)) [g0, g1, g2, g3] [] = .ok (.nx [g0, g1', g2', g3]) []
  | [], _, g1, g2, _ => ⟨g1, g2, rfl⟩
  | x :: xs, k, g1, g2, h => by
    obtain ⟨h0, h1⟩ := h x List.mem_cons_self
    obtain ⟨a, b, ih⟩ := look1 (g0 := g0) (g3 := g3) (xs := xs) (k := k + 1) (g1 := .dat (.int (k : Nat))) (g2 := .dat (rq x)) fun y hy => h y (List.mem_cons_of_mem _ hy)
    refine ⟨a, b, ?_⟩
    have e := sign_of_of (ratio_of_rq (A := A) h1)
    rw [sgn_pos h0] at e
    have s : lk1 A [g0, .dat (.int (k : Nat)), .dat (rq x), g3] [] = .ok (.nx [g0, .dat (.int (k : Nat)), .dat (rq x), g3]) [] := by
      unfold lk1
      simp_arith [is_ratio_rq, e]
    simp only [List.map_cons, enR, forL, bRow, isRow, rowD, bGo, bName, if_true, Option.bind_some, List.set_cons_succ, List.set_cons_zero]
    refine Eq.trans (congrArg (fun r => Rz.bind r _) s) ?_
    exact ih
theorem look2 {g0 : G} {all : List Rat} (hl : all.length ≤ 1000) : ∀ {xs : List Rat} {k : Nat} {g1 g2 : G}, k + xs.length = all.length → (∀ i, i < xs.length → all[all.length - 1 - (k + i)]? = xs[i]?) →
    ∃ g1' g2', forL (bRow [(bName 1), (bName 2)]) (lk2 A) (enR k (xs.map rq)) [g0, g1, g2, .dat (.tup (all.map rq))] [] = .ok (.nx [g0, g1', g2', .dat (.tup (all.map rq))]) []
  | [], _, g1, g2, _, _ => ⟨g1, g2, rfl⟩
  | x :: xs, k, g1, g2, hk, h => by
    simp only [List.length_cons] at hk
    obtain ⟨a, b, ih⟩ := look2 (g0 := g0) hl (xs := xs) (k := k + 1) (g1 := .dat (.int (k : Nat))) (g2 := .dat (rq x)) (by omega) (fun i hi => by
      have := h (i + 1) (by simp; omega)
      rw [List.getElem?_cons_succ] at this
      rw [← this]; congr 1; omega)
    refine ⟨a, b, ?_⟩
    have h0 := h 0 (by simp)
    simp only [Nat.add_zero, List.getElem?_cons_zero] at h0
    have at0 : atI (all.map rq) ((all.length : Int) - 1 - (k : Int)) = some (rq x) := by
      rw [show (all.length : Int) - 1 - (k : Int) = ((all.length - 1 - k : Nat) : Int) by omega, atI_n, List.getElem?_map, h0]; rfl
    have hl' : all.length ≤ 16777216 := by omega
    have s : lk2 A [g0, .dat (.int (k : Nat)), .dat (rq x), .dat (.tup (all.map rq))] [] = .ok (.nx [g0, .dat (.int (k : Nat)), .dat (rq x), .dat (.tup (all.map rq))]) [] := by
      unfold lk2
      simp_arith [at0, ne_pair, hl']
    simp only [List.map_cons, enR, forL, bRow, isRow, rowD, bGo, bName, if_true, Option.bind_some, List.set_cons_succ, List.set_cons_zero]
    refine Eq.trans (congrArg (fun r => Rz.bind r _) s) ?_
    exact ih
theorem chances_of_eq {xs : List Rat} {n : Nat} (h : ∀ x ∈ xs, 0 < x ∧ sz n x) (hm : ∀ i, i < xs.length → xs[xs.length - 1 - i]? = xs[i]?) (hs : xs.sum = 1) (hl : xs.length ≤ 1000) (hn : 1 ≤ n) (hn2 : n * xs.length + 2 ≤ 8000) (hn3 : n ≤ 8000) :
    m_chances_of A [.dat (.lst (xs.map rq))] [] = .ok (.tup (xs.map rq)) [] := by
  obtain ⟨a1, a2, l1⟩ := look1 (A := A) (g0 := .dat (.lst (xs.map rq))) (g3 := .no) (xs := xs) (k := 0) (g1 := .no) (g2 := .no) (fun x hx => ⟨(h x hx).1, sz_up (h x hx).2 (by omega)⟩)
  obtain ⟨b1, b2, l2⟩ := look2 (A := A) (g0 := .dat (.lst (xs.map rq))) (all := xs) hl (xs := xs) (k := 0) (g1 := a1) (g2 := a2) (by omega) (fun i hi => by rw [Nat.zero_add]; exact hm i hi)
  have lc : ∀ Γ : List G, Γ.length = 4 → lcGo (bName 2) tTrue (eCall (m_ratio_of A) (aCons (eVar 2) aNil)) Γ (xs.map rq) [] = .ok (xs.map rq) [] := fun Γ hΓ => by
    refine lcGo_mapA (u := rq) (v := rq) fun x hx => ⟨_, rfl, ?_⟩
    have r := ratio_of_rq (A := A) (x := x) (sz_up (h x hx).2 (by omega))
    match Γ, hΓ with
    | [c0, c1, c2, c3], _ => simp_arith [r]
  have s := sum_of_eq (A := A) (d := .tup (xs.map rq)) (xs := xs) (n := n) (.inr rfl) (fun x hx => (h x hx).2) hn2 (by omega) hn
  rw [hs] at s
  have e1 : rq (1 : Rat) = .tup [.int 1, .int 1] := by simp [rq]
  rw [e1] at s
  unfold m_chances_of f_chances_of
  unfold lk1 at l1
  unfold lk2 at l2
  have hl2 : xs.length < 16777216 := by omega
  have hlen : (enR 0 (xs.map rq)).length = xs.length := by rw [enR_eq]; simp
  have lc1 := lc (wipeG [.dat (.lst (xs.map rq)), a1, a2, .no] [2]) rfl
  simp_arith [iArgs, enumD_R, sFor, l1, nLc, hl2, lc1, l2, s, ne_pair]
theorem spread_init_eq {xs : List Rat} {n k : Nat} (hp : m_places_told A [.dat (.lst (xs.map rq))] [] = .ok (.int (k : Nat)) []) (h : ∀ x ∈ xs, 0 < x ∧ sz n x) (hm : ∀ i, i < xs.length → xs[xs.length - 1 - i]? = xs[i]?) (hs : xs.sum = 1) (hl : xs.length ≤ 1000) (hn : 1 ≤ n) (hn2 : n * xs.length + 2 ≤ 8000) (hn3 : n ≤ 8000) :
    m_Spread_init A [.mr 0, .dat (.lst (xs.map rq))] [.ins (A "Spread") [] []] = .ok .non [.ins (A "Spread") ["many", "rows"] [.int (k : Nat), .tup (xs.map rq)]] := by
  unfold m_Spread_init f_Spread_init
  have c := chances_of_eq (A := A) h hm hs hl hn hn2 hn3
  have w1 : ¬ (Str.ofString "rows" = Str.ofString "many") := by decide +kernel
  simp_arith [runF_eq', endK_1n, sSetF, hp, c, w1]


end

section
set_option Elab.async false
set_option linter.all false
set_option maxRecDepth 100000
set_option maxHeartbeats 8000000

open PySem L2 Lw
variable {A : Str → Addr}
/-! the spread of the star -/
theorem inU_num {x : Rat} (h : inU x) : -(x.den : Int) < x.num ∧ x.num < x.den := by
  have h1 := (Rat.lt_iff _ _).mp h.1
  have h2 := (Rat.lt_iff _ _).mp h.2
  simp at h1 h2
  omega
theorem wq_pos {x : Rat} (h : inU x) (v j : Nat) : 0 < wq 0 v x.num x.den j := by
  have := inU_num h
  unfold wq; split <;> omega
theorem star3_pos {x y z : Rat} (ux : inU x) (uy : inU y) (uz : inU z) (j : Nat) : 0 < star3 x y z j := by
  unfold star3
  have a := wq_pos ux 1 j
  have b := wq_pos uy 2 j
  have c := wq_pos uz 3 j
  rw [Int.one_mul]
  exact Int.mul_pos (Int.mul_pos a b) c
def tot (x y z : Rat) : Int := 16 * ((x.den : Int) * (y.den : Int) * (z.den : Int))
theorem tot_eq (x y z : Rat) : ((List.range 16).map (star3 x y z)).sum = tot x y z := by
  have q : ((List.range 16).map (star3 x y z)).sum = (1 * (x.den + x.num) * (y.den + y.num) * (z.den + z.num) + (1 * (x.den + x.num) * (y.den + y.num) * (z.den - z.num) + (1 * (x.den + x.num) * (y.den - y.num) * (z.den + z.num) + (1 * (x.den + x.num) * (y.den - y.num) * (z.den - z.num) + (1 * (x.den - x.num) * (y.den + y.num) * (z.den + z.num) + (1 * (x.den - x.num) * (y.den + y.num) * (z.den - z.num) + (1 * (x.den - x.num) * (y.den - y.num) * (z.den + z.num) + (1 * (x.den - x.num) * (y.den - y.num) * (z.den - z.num) + (1 * (x.den - x.num) * (y.den - y.num) * (z.den - z.num) + (1 * (x.den - x.num) * (y.den - y.num) * (z.den + z.num) + (1 * (x.den - x.num) * (y.den + y.num) * (z.den - z.num) + (1 * (x.den - x.num) * (y.den + y.num) * (z.den + z.num) + (1 * (x.den + x.num) * (y.den - y.num) * (z.den - z.num) + (1 * (x.den + x.num) * (y.den - y.num) * (z.den + z.num) + (1 * (x.den + x.num) * (y.den + y.num) * (z.den - z.num) + (1 * (x.den + x.num) * (y.den + y.num) * (z.den + z.num) + 0)))))))))))))))) := rfl
  rw [q]
  unfold tot
  generalize (x.den : Int) = a
  generalize (y.den : Int) = b
  generalize (z.den : Int) = c
  grind
theorem tot_pos (x y z : Rat) : 1 ≤ tot x y z := by
  unfold tot
  have := den_pos' x
  have := den_pos' y
  have := den_pos' z
  have := Int.mul_pos (a := x.den * y.den) (b := z.den) (Int.mul_pos (by omega) (by omega)) (by omega)
  omega
theorem sm_tot {x y z : Rat} (hx : sz 5 x) (hy : sz 5 y) (hz : sz 5 z) : sm 20 (tot x y z) :=
  sm_up (sm_mul (a := 5) (by unfold sm; decide) (sm_mul (sm_mul hx.2 hy.2) hz.2)) (by decide)
theorem star3_sym (x y z : Rat) (j : Nat) (h : j < 16) : star3 x y z (15 - j) = star3 x y z j := by
  rcases (by omega : j = 0 ∨ j = 1 ∨ j = 2 ∨ j = 3 ∨ j = 4 ∨ j = 5 ∨ j = 6 ∨ j = 7 ∨ j = 8 ∨ j = 9 ∨ j = 10 ∨ j = 11 ∨ j = 12 ∨ j = 13 ∨ j = 14 ∨ j = 15) with rfl | rfl | rfl | rfl | rfl | rfl | rfl | rfl | rfl | rfl | rfl | rfl | rfl | rfl | rfl | rfl <;> rfl
/-- the chances of the star -/
def cs (x y z : Rat) : List Rat := (List.range 16).map fun j => (star3 x y z j : Rat) / (tot x y z : Rat)
theorem sum_div (s : Nat → Int) (t : Int) : ∀ js : List Nat, (js.map fun j => (s j : Rat) / (t : Rat)).sum = (((js.map s).sum : Int) : Rat) / (t : Rat)
  | [] => by simp [Rat.div_def]
  | j :: js => by
    rw [List.map_cons, List.sum_cons, List.map_cons, List.sum_cons, sum_div s t js, Rat.intCast_add, Rat.div_def, Rat.div_def, Rat.div_def, Rat.add_mul]
theorem div_self' {t : Int} (h : 1 ≤ t) : (t : Rat) / (t : Rat) = 1 := by
  have : (t : Rat) ≠ 0 := by intro e; have : t = 0 := by exact_mod_cast e
                             omega
  grind
theorem cs_sum (x y z : Rat) : (cs x y z).sum = 1 := by
  unfold cs
  rw [sum_div, tot_eq, div_self' (tot_pos x y z)]
theorem div_pos' {a b : Int} (h : 0 < a) (h' : 1 ≤ b) : (0 : Rat) < (a : Rat) / (b : Rat) := by
  have h1 : (0 : Rat) < (a : Rat) := by exact_mod_cast h
  have h2 : (0 : Rat) < (b : Rat) := by exact_mod_cast (by omega : 0 < b)
  rw [Rat.div_def]
  exact Rat.mul_pos h1 (Rat.inv_pos.mpr h2)
theorem cs_ok {x y z : Rat} (hx : Menu x) (hy : Menu y) (hz : Menu z) : ∀ t ∈ cs x y z, 0 < t ∧ sz 20 t := by
  intro t ht
  obtain ⟨j, _, rfl⟩ := List.mem_map.mp ht
  exact ⟨div_pos' (star3_pos hx.2 hy.2 hz.2 j) (tot_pos x y z), sz_div (sm_star3 hx.1 hy.1 hz.1 j) (sm_tot hx.1 hy.1 hz.1) (tot_pos x y z)⟩
theorem cs_mir (x y z : Rat) : ∀ i, i < (cs x y z).length → (cs x y z)[(cs x y z).length - 1 - i]? = (cs x y z)[i]? := by
  intro i hi
  have hl : (cs x y z).length = 16 := rfl
  rw [hl] at hi ⊢
  unfold cs
  rw [List.getElem?_map, List.getElem?_map, List.getElem?_range (by omega), List.getElem?_range (by omega)]
  show some ((star3 x y z (15 - i) : Rat) / _) = some _
  rw [star3_sym x y z i hi]
abbrev sprD (A : Str → Addr) (n : Nat) (xs : List Rat) : D := .obj (A "Spread") ["many", "rows"] [.int (n : Nat), .tup (xs.map rq)]
theorem intsOf_rowsD (r : Nat → Int) : intsOf (rowsD r) = some ((List.range 16).map r) := rfl
theorem wmr : ¬ (Str.ofString "rows" = Str.ofString "many") := by decide +kernel
theorem wrm : ¬ (Str.ofString "many" = Str.ofString "rows") := by decide +kernel
theorem bmr : (Str.ofString "rows" == Str.ofString "many") = false := by decide +kernel
theorem brm : (Str.ofString "many" == Str.ofString "rows") = false := by decide +kernel
theorem spread_of_eq {x y z : Rat} (hx : Menu x) (hy : Menu y) (hz : Menu z) : m_Spread_of A [.dat (.cls (A "Spread")), .dat (star4 A x y z)] [] = .ok (sprD A 4 (cs x y z)) [] := by
  have w := weight_tops_eq (A := A) hx.1 hy.1 hz.1
  have i := spread_init_eq (A := A) (xs := cs x y z) (n := 20) (k := 4) places16 (cs_ok hx hy hz) (cs_mir x y z) (cs_sum x y z) (show 16 ≤ 1000 by decide) (by decide) (show 20 * 16 + 2 ≤ 8000 by decide) (by decide)
  have lc : ∀ Γ : List G, (∃ a b c e, Γ = [a, b, c, .dat (.int (tot x y z)), e]) → lcGo (bName 4) tTrue (eCall (m_lowest A) (aCons (eVar 4) (aCons (eVar 3) aNil))) Γ (rowsD (star3 x y z)) [] = .ok ((cs x y z).map rq) [] := fun Γ hΓ => by
    obtain ⟨a, b, c, e, rfl⟩ := hΓ
    refine lcGo_mapA (u := fun j => D.int (star3 x y z j)) (v := fun j => rq ((star3 x y z j : Rat) / (tot x y z : Rat))) (xs := List.range 16) fun j _ => ⟨_, rfl, ?_⟩
    have l := lowest_eq (A := A) (p := star3 x y z j) (tot_pos x y z) (sm_up (sm_tot hx.1 hy.1 hz.1) (by decide))
    simp_arith [l]
  unfold m_Spread_of f_Spread_of
  have lc1 := lc [.dat (.cls (A "Spread")), .dat (star4 A x y z), .dat (.lst (rowsD (star3 x y z))), .dat (.int (tot x y z)), .no] ⟨_, _, _, _, rfl⟩
  have hlen : (rowsD (star3 x y z)).length < 16777216 := by show 16 < 16777216; decide
  simp_arith [eFld, fldG, clsIn, List.lookup, wmt, wtm, bmt, btm, w, cSum, intsOf_rowsD, tot_eq, eMakeL, eMake, makeM, nLc, wipeG, hlen, lc1, i]


end

section
set_option Elab.async false
set_option linter.all false
set_option maxRecDepth 100000
set_option maxHeartbeats 8000000

open PySem L2 Lw
variable {A : Str → Addr}
/-! the floor of the star left out -/
def say4 : List D := [.tup [.int 1, .int 1, .int 1, .int 1], .tup [.int 1, .int 1, .int 1, .int (-1)], .tup [.int 1, .int 1, .int (-1), .int 1], .tup [.int 1, .int 1, .int (-1), .int (-1)], .tup [.int 1, .int (-1), .int 1, .int 1], .tup [.int 1, .int (-1), .int 1, .int (-1)], .tup [.int 1, .int (-1), .int (-1), .int 1], .tup [.int 1, .int (-1), .int (-1), .int (-1)], .tup [.int (-1), .int 1, .int 1, .int 1], .tup [.int (-1), .int 1, .int 1, .int (-1)], .tup [.int (-1), .int 1, .int (-1), .int 1], .tup [.int (-1), .int 1, .int (-1), .int (-1)], .tup [.int (-1), .int (-1), .int 1, .int 1], .tup [.int (-1), .int (-1), .int 1, .int (-1)], .tup [.int (-1), .int (-1), .int (-1), .int 1], .tup [.int (-1), .int (-1), .int (-1), .int (-1)]]
def say3 : List D := [.tup [.int 1, .int 1, .int 1], .tup [.int 1, .int 1, .int (-1)], .tup [.int 1, .int (-1), .int 1], .tup [.int 1, .int (-1), .int (-1)], .tup [.int (-1), .int 1, .int 1], .tup [.int (-1), .int 1, .int (-1)], .tup [.int (-1), .int (-1), .int 1], .tup [.int (-1), .int (-1), .int (-1)]]
theorem sayings4 : m_sayings A [.dat (.int 4)] [] = .ok (.lst say4) [] := by kernel_rfl
theorem sayings3 : m_sayings A [.dat (.int 3)] [] = .ok (.lst say3) [] := by kernel_rfl
theorem lot0_4 : m_lot_of A [.dat (.tup [.int 0]), .dat (.int 4)] [] = .ok (.tup [.int 0]) [] := by
  have d : m_distinct_numbers A [.dat (.tup [.int 0])] [] = .ok (.tup [.int 0]) [] := distinct_one 0
  have c : m_count_of A [.dat (.int 4), .dat (.int 10)] [] = .ok (.int 4) [] := count_of_eq (A := A) (n := 4) (m := 10) (by decide) (by decide)
  unfold m_lot_of f_lot_of
  simp_arith [c, d, oIsN, Lw.isNon, nLc, lcGo, tTrue, wipeG, cAll, blsOf]
def lob (A : Str → Addr) : SF := (sSeq (sAsg 9 (eCB cTup (aCons (eNew (nLc (iRow (eVar 3)) (bName 10) tTrue (eIx (eVar 7) (eVar 10)) [10])) aNil)))
  (sDPut 6 (eVar 9) (eOp (oI fun i j => .int (i + j)) (eDGet2 6 (eVar 9) (eCon (.int 0))) (eVar 8))))
def dic8 (t0 t1 t2 t3 t4 t5 t6 t7 t8 t9 t10 t11 t12 t13 t14 t15 : Int) : List (List Int × D) := [([1, 1, 1], .int (0 + t0 + t8)), ([1, 1, -1], .int (0 + t1 + t9)), ([1, -1, 1], .int (0 + t2 + t10)), ([1, -1, -1], .int (0 + t3 + t11)), ([-1, 1, 1], .int (0 + t4 + t12)), ([-1, 1, -1], .int (0 + t5 + t13)), ([-1, -1, 1], .int (0 + t6 + t14)), ([-1, -1, -1], .int (0 + t7 + t15))]
theorem lo_loop {t0 t1 t2 t3 t4 t5 t6 t7 t8 t9 t10 t11 t12 t13 t14 t15 : Int} {g0 g1 g2 g4 g5 : G} : forL (bRow [(bName 7), (bName 8)]) (lob A) (zipD say4 [.int t0, .int t1, .int t2, .int t3, .int t4, .int t5, .int t6, .int t7, .int t8, .int t9, .int t10, .int t11, .int t12, .int t13, .int t14, .int t15]) [g0, g1, g2, .dat (.lst [.int 1, .int 2, .int 3]), g4, g5, .mr 0, .no, .no, .no, .no] [.dic []] =
    .ok (.nx [g0, g1, g2, .dat (.lst [.int 1, .int 2, .int 3]), g4, g5, .mr 0, .dat (.tup [.int (-1), .int (-1), .int (-1), .int (-1)]), .dat (.int t15), .dat (.tup [.int (-1), .int (-1), .int (-1)]), .no]) [.dic (dic8 t0 t1 t2 t3 t4 t5 t6 t7 t8 t9 t10 t11 t12 t13 t14 t15)] := by kernel_rfl

/-- the tops over the common lower part -/
def lcm16 (x y z : Rat) : Nat := lcms (cs x y z) 1
def tp (x y z : Rat) (j : Nat) : Int := ((star3 x y z j : Rat) / (tot x y z : Rat)).num * (((lcm16 x y z : Nat) : Int) / ((((star3 x y z j : Rat) / (tot x y z : Rat)).den : Nat) : Int))
theorem tops_list (x y z : Rat) : ((cs x y z).map fun t => D.int (t.num * ((lcms (cs x y z) 1 : Nat) / (t.den : Int)))) = [.int (tp x y z 0), .int (tp x y z 1), .int (tp x y z 2), .int (tp x y z 3), .int (tp x y z 4), .int (tp x y z 5), .int (tp x y z 6), .int (tp x y z 7), .int (tp x y z 8), .int (tp x y z 9), .int (tp x y z 10), .int (tp x y z 11), .int (tp x y z 12), .int (tp x y z 13), .int (tp x y z 14), .int (tp x y z 15)] := by
  unfold cs tp lcm16
  rfl
theorem tp_rat (x y z : Rat) (j : Nat) (h : j < 16) : ((tp x y z j : Int) : Rat) = (star3 x y z j : Rat) / (tot x y z : Rat) * (lcm16 x y z : Rat) := by
  unfold tp
  exact top_over ((lcms_dvd (xs := cs x y z) (a := 1)).2 _ (List.mem_map.mpr ⟨j, List.mem_range.mpr h, rfl⟩)) (lcms_pos (by decide))
theorem lo_row (x y z : Rat) (j : Nat) (h : j < 8) : ((0 + tp x y z j + tp x y z (j + 8) : Int) : Rat) / (((lcm16 x y z : Nat) : Int) : Rat) = (rest3 x y z j : Rat) / (tot x y z : Rat) := by
  have a := tp_rat x y z j (by omega)
  have b := tp_rat x y z (j + 8) (by omega)
  have hp : 0 < lcm16 x y z := lcms_pos (by decide)
  have e3 : (((lcm16 x y z : Nat) : Int) : Rat) = (lcm16 x y z : Rat) := by norm_cast
  have n0 : (lcm16 x y z : Rat) ≠ 0 := by intro h; have : lcm16 x y z = 0 := by exact_mod_cast h
                                          omega
  unfold rest3
  rw [Int.zero_add, Rat.intCast_add, Rat.intCast_add, a, b, e3]
  grind
/-- the chances of the rest -/
def rs (x y z : Rat) : List Rat := (List.range 8).map fun j => (rest3 x y z j : Rat) / (tot x y z : Rat)
theorem sm_rest3 {x y z : Rat} (hx : sz 5 x) (hy : sz 5 y) (hz : sz 5 z) (j : Nat) : sm 21 (rest3 x y z j) := sm_add (sm_star3 hx hy hz j) (sm_star3 hx hy hz (j + 8))
theorem rest3_pos {x y z : Rat} (ux : inU x) (uy : inU y) (uz : inU z) (j : Nat) : 0 < rest3 x y z j := by
  have := star3_pos ux uy uz j
  have := star3_pos ux uy uz (j + 8)
  unfold rest3; omega
theorem rs_ok {x y z : Rat} (hx : Menu x) (hy : Menu y) (hz : Menu z) : ∀ t ∈ rs x y z, 0 < t ∧ sz 21 t := by
  intro t ht
  obtain ⟨j, _, rfl⟩ := List.mem_map.mp ht
  exact ⟨div_pos' (rest3_pos hx.2 hy.2 hz.2 j) (tot_pos x y z), sz_div (sm_rest3 hx.1 hy.1 hz.1 j) (sm_up (sm_tot hx.1 hy.1 hz.1) (by decide)) (tot_pos x y z)⟩
theorem rest3_sym (x y z : Rat) (j : Nat) (h : j < 8) : rest3 x y z (7 - j) = rest3 x y z j := by
  have a := star3_sym x y z (j + 8) (by omega)
  have b := star3_sym x y z j (by omega)
  unfold rest3
  rw [show 15 - (j + 8) = 7 - j by omega] at a
  rw [show 7 - j + 8 = 15 - j by omega, a, b, Int.add_comm]
theorem rs_mir (x y z : Rat) : ∀ i, i < (rs x y z).length → (rs x y z)[(rs x y z).length - 1 - i]? = (rs x y z)[i]? := by
  intro i hi
  have hl : (rs x y z).length = 8 := rfl
  rw [hl] at hi ⊢
  unfold rs
  rw [List.getElem?_map, List.getElem?_map, List.getElem?_range (by omega), List.getElem?_range (by omega)]
  show some ((rest3 x y z (7 - i) : Rat) / _) = some _
  rw [rest3_sym x y z i hi]
theorem rs_sum (x y z : Rat) : (rs x y z).sum = 1 := by
  have e : ((List.range 8).map (rest3 x y z)).sum = tot x y z := by
    rw [← tot_eq]
    show (rest3 x y z 0 + (rest3 x y z 1 + (rest3 x y z 2 + (rest3 x y z 3 + (rest3 x y z 4 + (rest3 x y z 5 + (rest3 x y z 6 + (rest3 x y z 7 + 0)))))))) = (star3 x y z 0 + (star3 x y z 1 + (star3 x y z 2 + (star3 x y z 3 + (star3 x y z 4 + (star3 x y z 5 + (star3 x y z 6 + (star3 x y z 7 + (star3 x y z 8 + (star3 x y z 9 + (star3 x y z 10 + (star3 x y z 11 + (star3 x y z 12 + (star3 x y z 13 + (star3 x y z 14 + (star3 x y z 15 + 0))))))))))))))))
    simp only [rest3, Nat.reduceAdd]
    omega
  unfold rs
  rw [sum_div, e, div_self' (tot_pos x y z)]
theorem dl0 {t0 t1 t2 t3 t4 t5 t6 t7 t8 t9 t10 t11 t12 t13 t14 t15 : Int} : dlook (dic8 t0 t1 t2 t3 t4 t5 t6 t7 t8 t9 t10 t11 t12 t13 t14 t15) [1, 1, 1] = some (.int (0 + t0 + t8)) := by kernel_rfl
theorem dl1 {t0 t1 t2 t3 t4 t5 t6 t7 t8 t9 t10 t11 t12 t13 t14 t15 : Int} : dlook (dic8 t0 t1 t2 t3 t4 t5 t6 t7 t8 t9 t10 t11 t12 t13 t14 t15) [1, 1, -1] = some (.int (0 + t1 + t9)) := by kernel_rfl
theorem dl2 {t0 t1 t2 t3 t4 t5 t6 t7 t8 t9 t10 t11 t12 t13 t14 t15 : Int} : dlook (dic8 t0 t1 t2 t3 t4 t5 t6 t7 t8 t9 t10 t11 t12 t13 t14 t15) [1, -1, 1] = some (.int (0 + t2 + t10)) := by kernel_rfl
theorem dl3 {t0 t1 t2 t3 t4 t5 t6 t7 t8 t9 t10 t11 t12 t13 t14 t15 : Int} : dlook (dic8 t0 t1 t2 t3 t4 t5 t6 t7 t8 t9 t10 t11 t12 t13 t14 t15) [1, -1, -1] = some (.int (0 + t3 + t11)) := by kernel_rfl
theorem dl4 {t0 t1 t2 t3 t4 t5 t6 t7 t8 t9 t10 t11 t12 t13 t14 t15 : Int} : dlook (dic8 t0 t1 t2 t3 t4 t5 t6 t7 t8 t9 t10 t11 t12 t13 t14 t15) [-1, 1, 1] = some (.int (0 + t4 + t12)) := by kernel_rfl
theorem dl5 {t0 t1 t2 t3 t4 t5 t6 t7 t8 t9 t10 t11 t12 t13 t14 t15 : Int} : dlook (dic8 t0 t1 t2 t3 t4 t5 t6 t7 t8 t9 t10 t11 t12 t13 t14 t15) [-1, 1, -1] = some (.int (0 + t5 + t13)) := by kernel_rfl
theorem dl6 {t0 t1 t2 t3 t4 t5 t6 t7 t8 t9 t10 t11 t12 t13 t14 t15 : Int} : dlook (dic8 t0 t1 t2 t3 t4 t5 t6 t7 t8 t9 t10 t11 t12 t13 t14 t15) [-1, -1, 1] = some (.int (0 + t6 + t14)) := by kernel_rfl
theorem dl7 {t0 t1 t2 t3 t4 t5 t6 t7 t8 t9 t10 t11 t12 t13 t14 t15 : Int} : dlook (dic8 t0 t1 t2 t3 t4 t5 t6 t7 t8 t9 t10 t11 t12 t13 t14 t15) [-1, -1, -1] = some (.int (0 + t7 + t15)) := by kernel_rfl
theorem lo_kept {a b c d e f g h i j : G} : lcGo (bName 10) (tCalm (tOf (eOp (oIn true) (eVar 10) (eVar 2)))) (eVar 10) [a, b, .dat (.tup [.int 0]), c, d, e, f, g, h, i, j] [.int 0, .int 1, .int 2, .int 3] [] = .ok [.int 1, .int 2, .int 3] [] := by kernel_rfl
theorem lo_fin {q0 q1 q2 q3 q4 q5 q6 q7 : D} {t0 t1 t2 t3 t4 t5 t6 t7 t8 t9 t10 t11 t12 t13 t14 t15 L : Int} {a b c d e f g h : G}
    (l0 : m_lowest A [.dat (.int (t0 + t8)), .dat (.int L)] [] = .ok q0 [])
    (l1 : m_lowest A [.dat (.int (t1 + t9)), .dat (.int L)] [] = .ok q1 [])
    (l2 : m_lowest A [.dat (.int (t2 + t10)), .dat (.int L)] [] = .ok q2 [])
    (l3 : m_lowest A [.dat (.int (t3 + t11)), .dat (.int L)] [] = .ok q3 [])
    (l4 : m_lowest A [.dat (.int (t4 + t12)), .dat (.int L)] [] = .ok q4 [])
    (l5 : m_lowest A [.dat (.int (t5 + t13)), .dat (.int L)] [] = .ok q5 [])
    (l6 : m_lowest A [.dat (.int (t6 + t14)), .dat (.int L)] [] = .ok q6 [])
    (l7 : m_lowest A [.dat (.int (t7 + t15)), .dat (.int L)] [] = .ok q7 []) :
    lcGo (bName 9) tTrue (eCall (m_lowest A) (aCons (eDGet 6 (eVar 9)) (aCons (eVar 5) aNil))) [a, b, c, d, e, .dat (.int L), .mr 0, f, g, .no, h] say3 [.dic (dic8 t0 t1 t2 t3 t4 t5 t6 t7 t8 t9 t10 t11 t12 t13 t14 t15)] = .ok [q0, q1, q2, q3, q4, q5, q6, q7] [.dic (dic8 t0 t1 t2 t3 t4 t5 t6 t7 t8 t9 t10 t11 t12 t13 t14 t15)] := by
  unfold say3
  simp_arith [lcGo, tTrue, eDGet, onDic, Lw.keyOf, intsOf, dl0, dl1, dl2, dl3, dl4, dl5, dl6, dl7, l0, l1, l2, l3, l4, l5, l6, l7]
theorem runF_ok {np n : Nat} {f : SF} {gs : List G} {d : D} {M' : List MO} (h1 : gs.length = np) (h2 : f (gs ++ List.replicate (n - gs.length) .no) [] = .ok (.rt (.dat d)) M') : runF np n f gs [] = .ok d [] := by
  rw [runF_eq, chk_t h1, h2]
  exact chk_t (c := ([] : List MO).length ≤ M'.length) (Nat.zero_le _)
theorem left_out_abs {R q0 q1 q2 q3 q4 q5 q6 q7 : D} {t0 t1 t2 t3 t4 t5 t6 t7 t8 t9 t10 t11 t12 t13 t14 t15 L : Int} (oc : m_over_common A [.dat R] [] = .ok (.tup [.lst [.int t0, .int t1, .int t2, .int t3, .int t4, .int t5, .int t6, .int t7, .int t8, .int t9, .int t10, .int t11, .int t12, .int t13, .int t14, .int t15], .int L]) [])
    (l0 : m_lowest A [.dat (.int (t0 + t8)), .dat (.int L)] [] = .ok q0 [])
    (l1 : m_lowest A [.dat (.int (t1 + t9)), .dat (.int L)] [] = .ok q1 [])
    (l2 : m_lowest A [.dat (.int (t2 + t10)), .dat (.int L)] [] = .ok q2 [])
    (l3 : m_lowest A [.dat (.int (t3 + t11)), .dat (.int L)] [] = .ok q3 [])
    (l4 : m_lowest A [.dat (.int (t4 + t12)), .dat (.int L)] [] = .ok q4 [])
    (l5 : m_lowest A [.dat (.int (t5 + t13)), .dat (.int L)] [] = .ok q5 [])
    (l6 : m_lowest A [.dat (.int (t6 + t14)), .dat (.int L)] [] = .ok q6 [])
    (l7 : m_lowest A [.dat (.int (t7 + t15)), .dat (.int L)] [] = .ok q7 [])
    (i : m_Spread_init A [.mr 0, .dat (.lst [q0, q1, q2, q3, q4, q5, q6, q7])] [.ins (A "Spread") [] []] = .ok .non [.ins (A "Spread") ["many", "rows"] [.int 3, .tup [q0, q1, q2, q3, q4, q5, q6, q7]]]) :
    m_Spread_left_out A [.dat (.obj (A "Spread") ["many", "rows"] [.int 4, R]), .dat (.tup [.int 0])] [] = .ok (.obj (A "Spread") ["many", "rows"] [.int 3, .tup [q0, q1, q2, q3, q4, q5, q6, q7]]) []  := by
  have lp := lo_loop (A := A) (t0 := t0) (t1 := t1) (t2 := t2) (t3 := t3) (t4 := t4) (t5 := t5) (t6 := t6) (t7 := t7) (t8 := t8) (t9 := t9) (t10 := t10) (t11 := t11) (t12 := t12) (t13 := t13) (t14 := t14) (t15 := t15) (g0 := .dat (.obj (A "Spread") ["many", "rows"] [.int 4, R])) (g1 := .dat (.tup [.int 0])) (g2 := .dat (.tup [.int 0])) (g4 := .dat (.lst [.int t0, .int t1, .int t2, .int t3, .int t4, .int t5, .int t6, .int t7, .int t8, .int t9, .int t10, .int t11, .int t12, .int t13, .int t14, .int t15])) (g5 := .dat (.int L))
  have fn := fun {a b c d e f g h : G} => lo_fin (A := A) (a := a) (b := b) (c := c) (d := d) (e := e) (f := f) (g := g) (h := h) l0 l1 l2 l3 l4 l5 l6 l7
  have h8 : say3.length < 16777216 := by show 8 < 16777216; decide
  have h16 : (zipD say4 [.int t0, .int t1, .int t2, .int t3, .int t4, .int t5, .int t6, .int t7, .int t8, .int t9, .int t10, .int t11, .int t12, .int t13, .int t14, .int t15]).length < 16777216 := by show 16 < 16777216; decide
  unfold lob at lp
  unfold m_Spread_left_out f_Spread_left_out
  refine runF_ok (M' := [.dic (dic8 t0 t1 t2 t3 t4 t5 t6 t7 t8 t9 t10 t11 t12 t13 t14 t15)]) rfl ?_
  refine (sSeq_nx (Γ1 := [.dat (.obj (A "Spread") ["many", "rows"] [.int 4, R]), .dat (.tup [.int 0]), .dat (.tup [.int 0]), .no, .no, .no, .no, .no, .no, .no, .no]) (M1 := []) (by simp_arith [eFld, fldG, clsIn, List.lookup, wmr, wrm, bmr, brm, lot0_4])).trans ?_
  refine (sSeq_nx (Γ1 := [.dat (.obj (A "Spread") ["many", "rows"] [.int 4, R]), .dat (.tup [.int 0]), .dat (.tup [.int 0]), .no, .no, .no, .no, .no, .no, .no, .no]) (M1 := []) (by simp_arith [eFld, fldG, clsIn, List.lookup, wmr, wrm, bmr, brm])).trans ?_
  refine (sSeq_nx (Γ1 := [.dat (.obj (A "Spread") ["many", "rows"] [.int 4, R]), .dat (.tup [.int 0]), .dat (.tup [.int 0]), .dat (.lst [.int 1, .int 2, .int 3]), .no, .no, .no, .no, .no, .no, .no]) (M1 := []) (by simp_arith [eFld, fldG, clsIn, List.lookup, wmr, wrm, bmr, brm, iArgs, nLc, wipeG, lo_kept])).trans ?_
  refine (sSeq_nx (Γ1 := [.dat (.obj (A "Spread") ["many", "rows"] [.int 4, R]), .dat (.tup [.int 0]), .dat (.tup [.int 0]), .dat (.lst [.int 1, .int 2, .int 3]), .dat (.lst [.int t0, .int t1, .int t2, .int t3, .int t4, .int t5, .int t6, .int t7, .int t8, .int t9, .int t10, .int t11, .int t12, .int t13, .int t14, .int t15]), .dat (.int L), .no, .no, .no, .no, .no]) (M1 := []) (by simp_arith [eFld, fldG, clsIn, List.lookup, wmr, wrm, bmr, brm, oc])).trans ?_
  refine (sSeq_nx (Γ1 := [.dat (.obj (A "Spread") ["many", "rows"] [.int 4, R]), .dat (.tup [.int 0]), .dat (.tup [.int 0]), .dat (.lst [.int 1, .int 2, .int 3]), .dat (.lst [.int t0, .int t1, .int t2, .int t3, .int t4, .int t5, .int t6, .int t7, .int t8, .int t9, .int t10, .int t11, .int t12, .int t13, .int t14, .int t15]), .dat (.int L), .mr 0, .no, .no, .no, .no]) (M1 := [.dic []]) rfl).trans ?_
  refine (sSeq_nx (Γ1 := [.dat (.obj (A "Spread") ["many", "rows"] [.int 4, R]), .dat (.tup [.int 0]), .dat (.tup [.int 0]), .dat (.lst [.int 1, .int 2, .int 3]), .dat (.lst [.int t0, .int t1, .int t2, .int t3, .int t4, .int t5, .int t6, .int t7, .int t8, .int t9, .int t10, .int t11, .int t12, .int t13, .int t14, .int t15]), .dat (.int L), .mr 0, .dat (.tup [.int (-1), .int (-1), .int (-1), .int (-1)]), .dat (.int t15), .dat (.tup [.int (-1), .int (-1), .int (-1)]), .no]) (M1 := [.dic (dic8 t0 t1 t2 t3 t4 t5 t6 t7 t8 t9 t10 t11 t12 t13 t14 t15)]) ((sFor_ok (M1 := [.dic []]) (ds := zipD say4 [.int t0, .int t1, .int t2, .int t3, .int t4, .int t5, .int t6, .int t7, .int t8, .int t9, .int t10, .int t11, .int t12, .int t13, .int t14, .int t15]) (by simp_arith [eFld, fldG, clsIn, List.lookup, wmr, wrm, bmr, brm, iArgs, sayings4, zipG2])).trans lp)).trans ?_
  simp_arith [eFld, fldG, clsIn, List.lookup, wmr, wrm, bmr, brm, sayings3, nLc, wipeG, fn, eMake, makeM, i, h8]
theorem left_out_eq {x y z : Rat} (hx : Menu x) (hy : Menu y) (hz : Menu z) : m_Spread_left_out A [.dat (.obj (A "Spread") ["many", "rows"] [.int 4, .tup ((cs x y z).map rq)]), .dat (.tup [.int 0])] [] = .ok (sprD A 3 (rs x y z)) [] := by
  obtain ⟨oc, ocs⟩ := over_common_eq (A := A) (d := .tup ((cs x y z).map rq)) (xs := cs x y z) (n := 20) (.inr rfl) (fun t ht => (cs_ok hx hy hz t ht).2) (show 20 * 16 + 2 ≤ 8000 by decide) (show 16 < 16777216 by decide) (by decide)
  rw [tops_list, show lcms (cs x y z) 1 = lcm16 x y z from rfl] at oc
  have hL : sm 9000 ((lcm16 x y z : Nat) : Int) := by
    have := sm_up (a := 1 + 20 * 16) (b := 9000) (x := ((lcm16 x y z : Nat) : Int)) (by have h := ocs; rw [show (cs x y z).length = 16 from rfl, show lcms (cs x y z) 1 = lcm16 x y z from rfl] at h; unfold sm; rw [Int.natAbs_natCast]; exact h) (by decide)
    exact this
  have hL1 : (1 : Int) ≤ ((lcm16 x y z : Nat) : Int) := by
    have hp : 0 < lcm16 x y z := lcms_pos (by decide)
    omega
  have low := fun j (h : j < 8) => (lowest_eq (A := A) (p := tp x y z j + tp x y z (j + 8)) hL1 hL).trans (by rw [← Int.zero_add (tp x y z j), lo_row x y z j h])
  have i := spread_init_eq (A := A) (xs := rs x y z) (n := 21) (k := 3) places8 (rs_ok hx hy hz) (rs_mir x y z) (rs_sum x y z) (show 8 ≤ 1000 by decide) (by decide) (show 21 * 8 + 2 ≤ 8000 by decide) (by decide)
  have hr : (rs x y z).map rq = [rq ((rest3 x y z 0 : Rat) / (tot x y z : Rat)), rq ((rest3 x y z 1 : Rat) / (tot x y z : Rat)), rq ((rest3 x y z 2 : Rat) / (tot x y z : Rat)), rq ((rest3 x y z 3 : Rat) / (tot x y z : Rat)), rq ((rest3 x y z 4 : Rat) / (tot x y z : Rat)), rq ((rest3 x y z 5 : Rat) / (tot x y z : Rat)), rq ((rest3 x y z 6 : Rat) / (tot x y z : Rat)), rq ((rest3 x y z 7 : Rat) / (tot x y z : Rat))] := rfl
  unfold sprD
  rw [hr] at i ⊢
  exact left_out_abs oc (low 0 (by decide)) (low 1 (by decide)) (low 2 (by decide)) (low 3 (by decide)) (low 4 (by decide)) (low 5 (by decide)) (low 6 (by decide)) (low 7 (by decide)) i


end

section
set_option Elab.async false
set_option linter.all false
set_option maxRecDepth 100000
set_option maxHeartbeats 8000000

open PySem L2 Lw
variable {A : Str → Addr}
/-! the boxes of a spread of three places -/
abbrev sp3 (A : Str → Addr) (q0 q1 q2 q3 q4 q5 q6 q7 : D) : D := .obj (A "Spread") ["many", "rows"] [.int 3, .tup [q0, q1, q2, q3, q4, q5, q6, q7]]
theorem so_l : m_saying_of A [.dat (.lst [.int 1, .int 1, .int 1]), .dat (.int 3)] [] = .ok (.tup [.int 1, .int 1, .int 1]) [] := by kernel_rfl
theorem so0 : m_saying_of A [.dat (.tup [.int 1, .int 1, .int 1]), .dat (.int 3)] [] = .ok (.tup [.int 1, .int 1, .int 1]) [] := by kernel_rfl
theorem ix0 : m_index_of A [.dat (.tup [.int 1, .int 1, .int 1])] [] = .ok (.int 0) [] := by kernel_rfl
theorem ch0 {q0 q1 q2 q3 q4 q5 q6 q7 : D} : m_Spread_chance A [.dat (sp3 A q0 q1 q2 q3 q4 q5 q6 q7), .dat (.tup [.int 1, .int 1, .int 1])] [] = .ok q0 [] := by
  unfold m_Spread_chance f_Spread_chance
  simp_arith [eFld, fldG, clsIn, List.lookup, wmr, wrm, bmr, brm, so0, ix0]
theorem so1 : m_saying_of A [.dat (.tup [.int 1, .int 1, .int (-1)]), .dat (.int 3)] [] = .ok (.tup [.int 1, .int 1, .int (-1)]) [] := by kernel_rfl
theorem ix1 : m_index_of A [.dat (.tup [.int 1, .int 1, .int (-1)])] [] = .ok (.int 1) [] := by kernel_rfl
theorem ch1 {q0 q1 q2 q3 q4 q5 q6 q7 : D} : m_Spread_chance A [.dat (sp3 A q0 q1 q2 q3 q4 q5 q6 q7), .dat (.tup [.int 1, .int 1, .int (-1)])] [] = .ok q1 [] := by
  unfold m_Spread_chance f_Spread_chance
  simp_arith [eFld, fldG, clsIn, List.lookup, wmr, wrm, bmr, brm, so1, ix1]
theorem so2 : m_saying_of A [.dat (.tup [.int 1, .int (-1), .int 1]), .dat (.int 3)] [] = .ok (.tup [.int 1, .int (-1), .int 1]) [] := by kernel_rfl
theorem ix2 : m_index_of A [.dat (.tup [.int 1, .int (-1), .int 1])] [] = .ok (.int 2) [] := by kernel_rfl
theorem ch2 {q0 q1 q2 q3 q4 q5 q6 q7 : D} : m_Spread_chance A [.dat (sp3 A q0 q1 q2 q3 q4 q5 q6 q7), .dat (.tup [.int 1, .int (-1), .int 1])] [] = .ok q2 [] := by
  unfold m_Spread_chance f_Spread_chance
  simp_arith [eFld, fldG, clsIn, List.lookup, wmr, wrm, bmr, brm, so2, ix2]
theorem so3 : m_saying_of A [.dat (.tup [.int 1, .int (-1), .int (-1)]), .dat (.int 3)] [] = .ok (.tup [.int 1, .int (-1), .int (-1)]) [] := by kernel_rfl
theorem ix3 : m_index_of A [.dat (.tup [.int 1, .int (-1), .int (-1)])] [] = .ok (.int 3) [] := by kernel_rfl
theorem ch3 {q0 q1 q2 q3 q4 q5 q6 q7 : D} : m_Spread_chance A [.dat (sp3 A q0 q1 q2 q3 q4 q5 q6 q7), .dat (.tup [.int 1, .int (-1), .int (-1)])] [] = .ok q3 [] := by
  unfold m_Spread_chance f_Spread_chance
  simp_arith [eFld, fldG, clsIn, List.lookup, wmr, wrm, bmr, brm, so3, ix3]
theorem so4 : m_saying_of A [.dat (.tup [.int (-1), .int 1, .int 1]), .dat (.int 3)] [] = .ok (.tup [.int (-1), .int 1, .int 1]) [] := by kernel_rfl
theorem ix4 : m_index_of A [.dat (.tup [.int (-1), .int 1, .int 1])] [] = .ok (.int 4) [] := by kernel_rfl
theorem ch4 {q0 q1 q2 q3 q4 q5 q6 q7 : D} : m_Spread_chance A [.dat (sp3 A q0 q1 q2 q3 q4 q5 q6 q7), .dat (.tup [.int (-1), .int 1, .int 1])] [] = .ok q4 [] := by
  unfold m_Spread_chance f_Spread_chance
  simp_arith [eFld, fldG, clsIn, List.lookup, wmr, wrm, bmr, brm, so4, ix4]
theorem so5 : m_saying_of A [.dat (.tup [.int (-1), .int 1, .int (-1)]), .dat (.int 3)] [] = .ok (.tup [.int (-1), .int 1, .int (-1)]) [] := by kernel_rfl
theorem ix5 : m_index_of A [.dat (.tup [.int (-1), .int 1, .int (-1)])] [] = .ok (.int 5) [] := by kernel_rfl
theorem ch5 {q0 q1 q2 q3 q4 q5 q6 q7 : D} : m_Spread_chance A [.dat (sp3 A q0 q1 q2 q3 q4 q5 q6 q7), .dat (.tup [.int (-1), .int 1, .int (-1)])] [] = .ok q5 [] := by
  unfold m_Spread_chance f_Spread_chance
  simp_arith [eFld, fldG, clsIn, List.lookup, wmr, wrm, bmr, brm, so5, ix5]
theorem so6 : m_saying_of A [.dat (.tup [.int (-1), .int (-1), .int 1]), .dat (.int 3)] [] = .ok (.tup [.int (-1), .int (-1), .int 1]) [] := by kernel_rfl
theorem ix6 : m_index_of A [.dat (.tup [.int (-1), .int (-1), .int 1])] [] = .ok (.int 6) [] := by kernel_rfl
theorem ch6 {q0 q1 q2 q3 q4 q5 q6 q7 : D} : m_Spread_chance A [.dat (sp3 A q0 q1 q2 q3 q4 q5 q6 q7), .dat (.tup [.int (-1), .int (-1), .int 1])] [] = .ok q6 [] := by
  unfold m_Spread_chance f_Spread_chance
  simp_arith [eFld, fldG, clsIn, List.lookup, wmr, wrm, bmr, brm, so6, ix6]
theorem so7 : m_saying_of A [.dat (.tup [.int (-1), .int (-1), .int (-1)]), .dat (.int 3)] [] = .ok (.tup [.int (-1), .int (-1), .int (-1)]) [] := by kernel_rfl
theorem ix7 : m_index_of A [.dat (.tup [.int (-1), .int (-1), .int (-1)])] [] = .ok (.int 7) [] := by kernel_rfl
theorem ch7 {q0 q1 q2 q3 q4 q5 q6 q7 : D} : m_Spread_chance A [.dat (sp3 A q0 q1 q2 q3 q4 q5 q6 q7), .dat (.tup [.int (-1), .int (-1), .int (-1)])] [] = .ok q7 [] := by
  unfold m_Spread_chance f_Spread_chance
  simp_arith [eFld, fldG, clsIn, List.lookup, wmr, wrm, bmr, brm, so7, ix7]
theorem wcm : ¬ (Str.ofString "chance" = Str.ofString "many") := by decide +kernel
theorem wcr : ¬ (Str.ofString "chance" = Str.ofString "rows") := by decide +kernel
theorem wbm : ¬ (Str.ofString "box" = Str.ofString "many") := by decide +kernel
theorem wbr : ¬ (Str.ofString "box" = Str.ofString "rows") := by decide +kernel
theorem oe01 {M : List MO} : oEqD false (.int 0) (.int 1) M = .ok (.dat (.bl false)) M := by kernel_rfl
theorem oe02 {M : List MO} : oEqD false (.int 0) (.int 2) M = .ok (.dat (.bl false)) M := by kernel_rfl
theorem oe12 {M : List MO} : oEqD false (.int 1) (.int 2) M = .ok (.dat (.bl false)) M := by kernel_rfl
theorem on11 {M : List MO} : oEqD true (.int 1) (.int 1) M = .ok (.dat (.bl false)) M := by kernel_rfl
theorem pl3_0 : m_is_place A [.dat (.int 0), .dat (.int 3)] [] = .ok (.bl true) [] := is_place_eq (A := A) (i := 0) (n := 3) (by decide)
theorem pl3_1 : m_is_place A [.dat (.int 1), .dat (.int 3)] [] = .ok (.bl true) [] := is_place_eq (A := A) (i := 1) (n := 3) (by decide)
theorem pl3_2 : m_is_place A [.dat (.int 2), .dat (.int 3)] [] = .ok (.bl true) [] := is_place_eq (A := A) (i := 2) (n := 3) (by decide)
abbrev sq3 (A : Str → Addr) (a b c d : Rat) : D := sp3 A (rq a) (rq b) (rq c) (rq d) (rq d) (rq c) (rq b) (rq a)
theorem cg0_01 : m_changed A [.dat (.tup [.int 1, .int 1, .int 1]), .dat (.tup [.int 0, .int 1])] [] = .ok (.tup [.int (-1), .int (-1), .int 1]) [] := by kernel_rfl
theorem cg0_0 : m_changed A [.dat (.tup [.int 1, .int 1, .int 1]), .dat (.tup [.int 0])] [] = .ok (.tup [.int (-1), .int 1, .int 1]) [] := by kernel_rfl
theorem cg0_1 : m_changed A [.dat (.tup [.int 1, .int 1, .int 1]), .dat (.tup [.int 1])] [] = .ok (.tup [.int 1, .int (-1), .int 1]) [] := by kernel_rfl
theorem bx01_l {a b c d : Rat} (ha : sz 50 a) (hb : sz 50 b) (hc : sz 50 c) (hd : sz 50 d) (pa : 0 < a) (pb : 0 < b) (pc : 0 < c) (pd : 0 < d) : m_Spread_box A [.dat (sq3 A a b c d), .dat (.int 0), .dat (.int 1), .dat (.lst [.int 1, .int 1, .int 1])] [] = .ok (rq (a * b / (d * c))) [] := by
  unfold m_Spread_box f_Spread_box
  have up := fun {x : Rat} (h : sz 50 x) => sz_up h (show 50 ≤ 4000 by decide)
  have t1 := times_eq (A := A) (up ha) (up hb)
  have t2 := times_eq (A := A) (up hd) (up hc)
  have n0 : 0 < d * c := Rat.mul_pos pd pc
  have o := over_eq (A := A) (sz_up (sz_mul ha hb) (show 100 ≤ 4000 by decide)) (sz_up (sz_mul hd hc) (show 100 ≤ 4000 by decide)) (by grind)
  have e : a * b / (d * c) = a * b / (d * c) := by
    first | rfl | rw [Rat.mul_comm a b, Rat.mul_comm d c]
  rw [e] at o
  simp_arith [eFld, fldG, clsIn, List.lookup, wmr, wrm, bmr, brm, pl3_0, pl3_1, pl3_2, oe01, so_l, on11, eMeth, methM, wcm, wcr, ch0, ch6, ch4, ch2, cg0_01, cg0_0, cg0_1, t1, t2, o]
theorem bx01_0 {a b c d : Rat} (ha : sz 50 a) (hb : sz 50 b) (hc : sz 50 c) (hd : sz 50 d) (pa : 0 < a) (pb : 0 < b) (pc : 0 < c) (pd : 0 < d) : m_Spread_box A [.dat (sq3 A a b c d), .dat (.int 0), .dat (.int 1), .dat (.tup [.int 1, .int 1, .int 1])] [] = .ok (rq (a * b / (d * c))) [] := by
  unfold m_Spread_box f_Spread_box
  have up := fun {x : Rat} (h : sz 50 x) => sz_up h (show 50 ≤ 4000 by decide)
  have t1 := times_eq (A := A) (up ha) (up hb)
  have t2 := times_eq (A := A) (up hd) (up hc)
  have n0 : 0 < d * c := Rat.mul_pos pd pc
  have o := over_eq (A := A) (sz_up (sz_mul ha hb) (show 100 ≤ 4000 by decide)) (sz_up (sz_mul hd hc) (show 100 ≤ 4000 by decide)) (by grind)
  have e : a * b / (d * c) = a * b / (d * c) := by
    first | rfl | rw [Rat.mul_comm a b, Rat.mul_comm d c]
  rw [e] at o
  simp_arith [eFld, fldG, clsIn, List.lookup, wmr, wrm, bmr, brm, pl3_0, pl3_1, pl3_2, oe01, so0, on11, eMeth, methM, wcm, wcr, ch0, ch6, ch4, ch2, cg0_01, cg0_0, cg0_1, t1, t2, o]
theorem cg1_01 : m_changed A [.dat (.tup [.int 1, .int 1, .int (-1)]), .dat (.tup [.int 0, .int 1])] [] = .ok (.tup [.int (-1), .int (-1), .int (-1)]) [] := by kernel_rfl
theorem cg1_0 : m_changed A [.dat (.tup [.int 1, .int 1, .int (-1)]), .dat (.tup [.int 0])] [] = .ok (.tup [.int (-1), .int 1, .int (-1)]) [] := by kernel_rfl
theorem cg1_1 : m_changed A [.dat (.tup [.int 1, .int 1, .int (-1)]), .dat (.tup [.int 1])] [] = .ok (.tup [.int 1, .int (-1), .int (-1)]) [] := by kernel_rfl
theorem bx01_1 {a b c d : Rat} (ha : sz 50 a) (hb : sz 50 b) (hc : sz 50 c) (hd : sz 50 d) (pa : 0 < a) (pb : 0 < b) (pc : 0 < c) (pd : 0 < d) : m_Spread_box A [.dat (sq3 A a b c d), .dat (.int 0), .dat (.int 1), .dat (.tup [.int 1, .int 1, .int (-1)])] [] = .ok (rq (a * b / (d * c))) [] := by
  unfold m_Spread_box f_Spread_box
  have up := fun {x : Rat} (h : sz 50 x) => sz_up h (show 50 ≤ 4000 by decide)
  have t1 := times_eq (A := A) (up hb) (up ha)
  have t2 := times_eq (A := A) (up hc) (up hd)
  have n0 : 0 < c * d := Rat.mul_pos pc pd
  have o := over_eq (A := A) (sz_up (sz_mul hb ha) (show 100 ≤ 4000 by decide)) (sz_up (sz_mul hc hd) (show 100 ≤ 4000 by decide)) (by grind)
  have e : b * a / (c * d) = a * b / (d * c) := by
    first | rfl | rw [Rat.mul_comm b a, Rat.mul_comm c d]
  rw [e] at o
  simp_arith [eFld, fldG, clsIn, List.lookup, wmr, wrm, bmr, brm, pl3_0, pl3_1, pl3_2, oe01, so1, on11, eMeth, methM, wcm, wcr, ch1, ch7, ch5, ch3, cg1_01, cg1_0, cg1_1, t1, t2, o]
theorem us01 {a b c d : Rat} (ha : sz 50 a) (hb : sz 50 b) (hc : sz 50 c) (hd : sz 50 d) (pa : 0 < a) (pb : 0 < b) (pc : 0 < c) (pd : 0 < d) : m_unlike_saying A [.dat (sq3 A a b c d), .dat (.int 0), .dat (.int 1)] [] = .ok .non [] := by
  unfold m_unlike_saying f_unlike_saying
  have b1 := bx01_l (A := A) ha hb hc hd pa pb pc pd
  have b2 := bx01_0 (A := A) ha hb hc hd pa pb pc pd
  have b3 := bx01_1 (A := A) ha hb hc hd pa pb pc pd
  simp_arith [eFld, fldG, clsIn, List.lookup, wmr, wrm, bmr, brm, eMeth, methM, wbm, wbr, iArgs, nLc, lcGo, tTrue, wipeG, b1, b2, b3, sayings3, say3, sFor, forL, ne_pair]
theorem cg0_02 : m_changed A [.dat (.tup [.int 1, .int 1, .int 1]), .dat (.tup [.int 0, .int 2])] [] = .ok (.tup [.int (-1), .int 1, .int (-1)]) [] := by kernel_rfl
theorem cg0_2 : m_changed A [.dat (.tup [.int 1, .int 1, .int 1]), .dat (.tup [.int 2])] [] = .ok (.tup [.int 1, .int 1, .int (-1)]) [] := by kernel_rfl
theorem bx02_l {a b c d : Rat} (ha : sz 50 a) (hb : sz 50 b) (hc : sz 50 c) (hd : sz 50 d) (pa : 0 < a) (pb : 0 < b) (pc : 0 < c) (pd : 0 < d) : m_Spread_box A [.dat (sq3 A a b c d), .dat (.int 0), .dat (.int 2), .dat (.lst [.int 1, .int 1, .int 1])] [] = .ok (rq (a * c / (d * b))) [] := by
  unfold m_Spread_box f_Spread_box
  have up := fun {x : Rat} (h : sz 50 x) => sz_up h (show 50 ≤ 4000 by decide)
  have t1 := times_eq (A := A) (up ha) (up hc)
  have t2 := times_eq (A := A) (up hd) (up hb)
  have n0 : 0 < d * b := Rat.mul_pos pd pb
  have o := over_eq (A := A) (sz_up (sz_mul ha hc) (show 100 ≤ 4000 by decide)) (sz_up (sz_mul hd hb) (show 100 ≤ 4000 by decide)) (by grind)
  have e : a * c / (d * b) = a * c / (d * b) := by
    first | rfl | rw [Rat.mul_comm a c, Rat.mul_comm d b]
  rw [e] at o
  simp_arith [eFld, fldG, clsIn, List.lookup, wmr, wrm, bmr, brm, pl3_0, pl3_1, pl3_2, oe02, so_l, on11, eMeth, methM, wcm, wcr, ch0, ch5, ch4, ch1, cg0_02, cg0_0, cg0_2, t1, t2, o]
theorem bx02_0 {a b c d : Rat} (ha : sz 50 a) (hb : sz 50 b) (hc : sz 50 c) (hd : sz 50 d) (pa : 0 < a) (pb : 0 < b) (pc : 0 < c) (pd : 0 < d) : m_Spread_box A [.dat (sq3 A a b c d), .dat (.int 0), .dat (.int 2), .dat (.tup [.int 1, .int 1, .int 1])] [] = .ok (rq (a * c / (d * b))) [] := by
  unfold m_Spread_box f_Spread_box
  have up := fun {x : Rat} (h : sz 50 x) => sz_up h (show 50 ≤ 4000 by decide)
  have t1 := times_eq (A := A) (up ha) (up hc)
  have t2 := times_eq (A := A) (up hd) (up hb)
  have n0 : 0 < d * b := Rat.mul_pos pd pb
  have o := over_eq (A := A) (sz_up (sz_mul ha hc) (show 100 ≤ 4000 by decide)) (sz_up (sz_mul hd hb) (show 100 ≤ 4000 by decide)) (by grind)
  have e : a * c / (d * b) = a * c / (d * b) := by
    first | rfl | rw [Rat.mul_comm a c, Rat.mul_comm d b]
  rw [e] at o
  simp_arith [eFld, fldG, clsIn, List.lookup, wmr, wrm, bmr, brm, pl3_0, pl3_1, pl3_2, oe02, so0, on11, eMeth, methM, wcm, wcr, ch0, ch5, ch4, ch1, cg0_02, cg0_0, cg0_2, t1, t2, o]
theorem cg2_02 : m_changed A [.dat (.tup [.int 1, .int (-1), .int 1]), .dat (.tup [.int 0, .int 2])] [] = .ok (.tup [.int (-1), .int (-1), .int (-1)]) [] := by kernel_rfl
theorem cg2_0 : m_changed A [.dat (.tup [.int 1, .int (-1), .int 1]), .dat (.tup [.int 0])] [] = .ok (.tup [.int (-1), .int (-1), .int 1]) [] := by kernel_rfl
theorem cg2_2 : m_changed A [.dat (.tup [.int 1, .int (-1), .int 1]), .dat (.tup [.int 2])] [] = .ok (.tup [.int 1, .int (-1), .int (-1)]) [] := by kernel_rfl
theorem bx02_2 {a b c d : Rat} (ha : sz 50 a) (hb : sz 50 b) (hc : sz 50 c) (hd : sz 50 d) (pa : 0 < a) (pb : 0 < b) (pc : 0 < c) (pd : 0 < d) : m_Spread_box A [.dat (sq3 A a b c d), .dat (.int 0), .dat (.int 2), .dat (.tup [.int 1, .int (-1), .int 1])] [] = .ok (rq (a * c / (d * b))) [] := by
  unfold m_Spread_box f_Spread_box
  have up := fun {x : Rat} (h : sz 50 x) => sz_up h (show 50 ≤ 4000 by decide)
  have t1 := times_eq (A := A) (up hc) (up ha)
  have t2 := times_eq (A := A) (up hb) (up hd)
  have n0 : 0 < b * d := Rat.mul_pos pb pd
  have o := over_eq (A := A) (sz_up (sz_mul hc ha) (show 100 ≤ 4000 by decide)) (sz_up (sz_mul hb hd) (show 100 ≤ 4000 by decide)) (by grind)
  have e : c * a / (b * d) = a * c / (d * b) := by
    first | rfl | rw [Rat.mul_comm c a, Rat.mul_comm b d]
  rw [e] at o
  simp_arith [eFld, fldG, clsIn, List.lookup, wmr, wrm, bmr, brm, pl3_0, pl3_1, pl3_2, oe02, so2, on11, eMeth, methM, wcm, wcr, ch2, ch7, ch6, ch3, cg2_02, cg2_0, cg2_2, t1, t2, o]
theorem us02 {a b c d : Rat} (ha : sz 50 a) (hb : sz 50 b) (hc : sz 50 c) (hd : sz 50 d) (pa : 0 < a) (pb : 0 < b) (pc : 0 < c) (pd : 0 < d) : m_unlike_saying A [.dat (sq3 A a b c d), .dat (.int 0), .dat (.int 2)] [] = .ok .non [] := by
  unfold m_unlike_saying f_unlike_saying
  have b1 := bx02_l (A := A) ha hb hc hd pa pb pc pd
  have b2 := bx02_0 (A := A) ha hb hc hd pa pb pc pd
  have b3 := bx02_2 (A := A) ha hb hc hd pa pb pc pd
  simp_arith [eFld, fldG, clsIn, List.lookup, wmr, wrm, bmr, brm, eMeth, methM, wbm, wbr, iArgs, nLc, lcGo, tTrue, wipeG, b1, b2, b3, sayings3, say3, sFor, forL, ne_pair]
theorem cg0_12 : m_changed A [.dat (.tup [.int 1, .int 1, .int 1]), .dat (.tup [.int 1, .int 2])] [] = .ok (.tup [.int 1, .int (-1), .int (-1)]) [] := by kernel_rfl
theorem bx12_l {a b c d : Rat} (ha : sz 50 a) (hb : sz 50 b) (hc : sz 50 c) (hd : sz 50 d) (pa : 0 < a) (pb : 0 < b) (pc : 0 < c) (pd : 0 < d) : m_Spread_box A [.dat (sq3 A a b c d), .dat (.int 1), .dat (.int 2), .dat (.lst [.int 1, .int 1, .int 1])] [] = .ok (rq (a * d / (c * b))) [] := by
  unfold m_Spread_box f_Spread_box
  have up := fun {x : Rat} (h : sz 50 x) => sz_up h (show 50 ≤ 4000 by decide)
  have t1 := times_eq (A := A) (up ha) (up hd)
  have t2 := times_eq (A := A) (up hc) (up hb)
  have n0 : 0 < c * b := Rat.mul_pos pc pb
  have o := over_eq (A := A) (sz_up (sz_mul ha hd) (show 100 ≤ 4000 by decide)) (sz_up (sz_mul hc hb) (show 100 ≤ 4000 by decide)) (by grind)
  have e : a * d / (c * b) = a * d / (c * b) := by
    first | rfl | rw [Rat.mul_comm a d, Rat.mul_comm c b]
  rw [e] at o
  simp_arith [eFld, fldG, clsIn, List.lookup, wmr, wrm, bmr, brm, pl3_0, pl3_1, pl3_2, oe12, so_l, on11, eMeth, methM, wcm, wcr, ch0, ch3, ch2, ch1, cg0_12, cg0_1, cg0_2, t1, t2, o]
theorem bx12_0 {a b c d : Rat} (ha : sz 50 a) (hb : sz 50 b) (hc : sz 50 c) (hd : sz 50 d) (pa : 0 < a) (pb : 0 < b) (pc : 0 < c) (pd : 0 < d) : m_Spread_box A [.dat (sq3 A a b c d), .dat (.int 1), .dat (.int 2), .dat (.tup [.int 1, .int 1, .int 1])] [] = .ok (rq (a * d / (c * b))) [] := by
  unfold m_Spread_box f_Spread_box
  have up := fun {x : Rat} (h : sz 50 x) => sz_up h (show 50 ≤ 4000 by decide)
  have t1 := times_eq (A := A) (up ha) (up hd)
  have t2 := times_eq (A := A) (up hc) (up hb)
  have n0 : 0 < c * b := Rat.mul_pos pc pb
  have o := over_eq (A := A) (sz_up (sz_mul ha hd) (show 100 ≤ 4000 by decide)) (sz_up (sz_mul hc hb) (show 100 ≤ 4000 by decide)) (by grind)
  have e : a * d / (c * b) = a * d / (c * b) := by
    first | rfl | rw [Rat.mul_comm a d, Rat.mul_comm c b]
  rw [e] at o
  simp_arith [eFld, fldG, clsIn, List.lookup, wmr, wrm, bmr, brm, pl3_0, pl3_1, pl3_2, oe12, so0, on11, eMeth, methM, wcm, wcr, ch0, ch3, ch2, ch1, cg0_12, cg0_1, cg0_2, t1, t2, o]
theorem cg4_12 : m_changed A [.dat (.tup [.int (-1), .int 1, .int 1]), .dat (.tup [.int 1, .int 2])] [] = .ok (.tup [.int (-1), .int (-1), .int (-1)]) [] := by kernel_rfl
theorem cg4_1 : m_changed A [.dat (.tup [.int (-1), .int 1, .int 1]), .dat (.tup [.int 1])] [] = .ok (.tup [.int (-1), .int (-1), .int 1]) [] := by kernel_rfl
theorem cg4_2 : m_changed A [.dat (.tup [.int (-1), .int 1, .int 1]), .dat (.tup [.int 2])] [] = .ok (.tup [.int (-1), .int 1, .int (-1)]) [] := by kernel_rfl
theorem bx12_4 {a b c d : Rat} (ha : sz 50 a) (hb : sz 50 b) (hc : sz 50 c) (hd : sz 50 d) (pa : 0 < a) (pb : 0 < b) (pc : 0 < c) (pd : 0 < d) : m_Spread_box A [.dat (sq3 A a b c d), .dat (.int 1), .dat (.int 2), .dat (.tup [.int (-1), .int 1, .int 1])] [] = .ok (rq (a * d / (c * b))) [] := by
  unfold m_Spread_box f_Spread_box
  have up := fun {x : Rat} (h : sz 50 x) => sz_up h (show 50 ≤ 4000 by decide)
  have t1 := times_eq (A := A) (up hd) (up ha)
  have t2 := times_eq (A := A) (up hb) (up hc)
  have n0 : 0 < b * c := Rat.mul_pos pb pc
  have o := over_eq (A := A) (sz_up (sz_mul hd ha) (show 100 ≤ 4000 by decide)) (sz_up (sz_mul hb hc) (show 100 ≤ 4000 by decide)) (by grind)
  have e : d * a / (b * c) = a * d / (c * b) := by
    first | rfl | rw [Rat.mul_comm d a, Rat.mul_comm b c]
  rw [e] at o
  simp_arith [eFld, fldG, clsIn, List.lookup, wmr, wrm, bmr, brm, pl3_0, pl3_1, pl3_2, oe12, so4, on11, eMeth, methM, wcm, wcr, ch4, ch7, ch6, ch5, cg4_12, cg4_1, cg4_2, t1, t2, o]
theorem us12 {a b c d : Rat} (ha : sz 50 a) (hb : sz 50 b) (hc : sz 50 c) (hd : sz 50 d) (pa : 0 < a) (pb : 0 < b) (pc : 0 < c) (pd : 0 < d) : m_unlike_saying A [.dat (sq3 A a b c d), .dat (.int 1), .dat (.int 2)] [] = .ok .non [] := by
  unfold m_unlike_saying f_unlike_saying
  have b1 := bx12_l (A := A) ha hb hc hd pa pb pc pd
  have b2 := bx12_0 (A := A) ha hb hc hd pa pb pc pd
  have b3 := bx12_4 (A := A) ha hb hc hd pa pb pc pd
  simp_arith [eFld, fldG, clsIn, List.lookup, wmr, wrm, bmr, brm, eMeth, methM, wbm, wbr, iArgs, nLc, lcGo, tTrue, wipeG, b1, b2, b3, sayings3, say3, sFor, forL, ne_pair]
theorem pairs3 : m_pairs_of A [.dat (.int 3)] [] = .ok (.lst [.tup [.int 0, .int 1], .tup [.int 0, .int 2], .tup [.int 1, .int 2]]) [] := by kernel_rfl
theorem unlike_boxes_eq {a b c d : Rat} (ha : sz 50 a) (hb : sz 50 b) (hc : sz 50 c) (hd : sz 50 d) (pa : 0 < a) (pb : 0 < b) (pc : 0 < c) (pd : 0 < d) : m_unlike_boxes A [.dat (sq3 A a b c d)] [] = .ok .non [] := by
  unfold m_unlike_boxes f_unlike_boxes
  have u1 := us01 (A := A) ha hb hc hd pa pb pc pd
  have u2 := us02 (A := A) ha hb hc hd pa pb pc pd
  have u3 := us12 (A := A) ha hb hc hd pa pb pc pd
  simp_arith [eFld, fldG, clsIn, List.lookup, wmr, wrm, bmr, brm, pairs3, sFor, forL, u1, u2, u3, oNotN, Lw.isNon]
theorem squares_eq {a b c d : Rat} (ha : sz 50 a) (hb : sz 50 b) (hc : sz 50 c) (hd : sz 50 d) (pa : 0 < a) (pb : 0 < b) (pc : 0 < c) (pd : 0 < d) : m_squares A [.dat (sq3 A a b c d)] [] =
    .ok (.tup [.tup [.tup [.int 0, .int 1], rq (a * b / (d * c))], .tup [.tup [.int 0, .int 2], rq (a * c / (d * b))], .tup [.tup [.int 1, .int 2], rq (a * d / (c * b))]]) [] := by
  unfold m_squares f_squares
  have u := unlike_boxes_eq (A := A) ha hb hc hd pa pb pc pd
  have b1 := bx01_l (A := A) ha hb hc hd pa pb pc pd
  have b2 := bx02_l (A := A) ha hb hc hd pa pb pc pd
  have b3 := bx12_l (A := A) ha hb hc hd pa pb pc pd
  simp_arith [eFld, fldG, clsIn, List.lookup, wmr, wrm, bmr, brm, pairs3, u, oNotN, Lw.isNon, iArgs, nLc, lcGo, tTrue, wipeG, eMeth, methM, wbm, wbr, b1, b2, b3]


end

section
set_option Elab.async false
set_option linter.all false
set_option maxRecDepth 100000
set_option maxHeartbeats 8000000

open PySem L2 Lw
variable {A : Str → Addr}
/-! two ties side by side -/
def wd (x : Rat) : Rat := 2 * x / (1 + x * x)
theorem one_sq (x : Rat) : 0 < 1 + x * x := by have := sq_nn x; grind
theorem sz_wd {x : Rat} (h : sz 5 x) : sz 19 (wd x) := by
  have s1 : sz 1 (1 : Rat) := sz_1 (by decide)
  have s2 : sz 2 (2 : Rat) := sz_int (i := 2) (by unfold sm; decide) (by decide)
  have := one_sq x
  exact sz_over (sz_mul s2 h) (sz_add s1 (sz_mul h h)) (by grind)
theorem inU_wd {x : Rat} (h : inU x) : inU (wd x) := by
  have a := Rat.mul_pos (a := 1 - x) (b := 1 - x) (by have := h.2; grind) (by have := h.2; grind)
  have b := Rat.mul_pos (a := 1 + x) (b := 1 + x) (by have := h.1; grind) (by have := h.1; grind)
  have c := one_sq x
  unfold wd
  constructor
  · rw [Rat.div_def]
    have := Rat.inv_pos.mpr c
    have e := Rat.mul_inv_cancel (1 + x * x) (by grind)
    have := Rat.mul_pos (a := 2 * x + (1 + x * x)) (b := (1 + x * x)⁻¹) (by grind) this
    grind
  · rw [Rat.div_def]
    have := Rat.inv_pos.mpr c
    have e := Rat.mul_inv_cancel (1 + x * x) (by grind)
    have := Rat.mul_pos (a := (1 + x * x) - 2 * x) (b := (1 + x * x)⁻¹) (by grind) this
    grind
def twa (x : Rat) : Int := ((x.den : Int) + x.num) * ((x.den : Int) + x.num)
def twb (x : Rat) : Int := ((x.den : Int) + -x.num) * ((x.den : Int) + -x.num)
theorem twa_rat (x : Rat) : (twa x : Rat) = (1 + x) * (1 + x) * ((x.den : Rat) * (x.den : Rat)) := by
  unfold twa
  rw [Rat.intCast_mul, Rat.intCast_add, int_den, num_eq]; grind
theorem twb_rat (x : Rat) : (twb x : Rat) = (1 - x) * (1 - x) * ((x.den : Rat) * (x.den : Rat)) := by
  unfold twb
  rw [Rat.intCast_mul, Rat.intCast_add, Rat.intCast_neg, int_den, num_eq]; grind
theorem dd_pos (x : Rat) : (0 : Rat) < (x.den : Rat) * (x.den : Rat) := by
  have : (0 : Rat) < (x.den : Rat) := by have := x.den_pos; exact_mod_cast this
  exact Rat.mul_pos this this
theorem wd_ab (x : Rat) : ((twa x + (-twb x + (-twb x + twa x)) : Int) : Rat) / ((twa x + (twb x + (twb x + twa x)) : Int) : Rat) = wd x := by
  simp only [Rat.intCast_add, Rat.intCast_neg, twa_rat, twb_rat, wd]
  have := one_sq x
  have := dd_pos x
  generalize (x.den : Rat) * (x.den : Rat) = d at *
  have e1 : (1 + x) * (1 + x) * d + (-((1 - x) * (1 - x) * d) + (-((1 - x) * (1 - x) * d) + (1 + x) * (1 + x) * d)) = 4 * d * (2 * x) := by grind
  have e2 : (1 + x) * (1 + x) * d + ((1 - x) * (1 - x) * d + ((1 - x) * (1 - x) * d + (1 + x) * (1 + x) * d)) = 4 * d * (1 + x * x) := by grind
  rw [e1, e2]
  generalize 1 + x * x = e at *
  grind
theorem sm_twa {x : Rat} (h : sz 5 x) : sm 12 (twa x) := sm_mul (a := 6) (b := 6) (sm_add h.2 h.1) (sm_add h.2 h.1)
theorem sm_twb {x : Rat} (h : sz 5 x) : sm 12 (twb x) := sm_mul (a := 6) (b := 6) (sm_add h.2 (sm_neg h.1)) (sm_add h.2 (sm_neg h.1))
theorem wab_pos (x : Rat) (h : inU x) : 1 ≤ twa x ∧ 1 ≤ twb x := by
  have := inU_num h
  unfold twa twb
  refine ⟨?_, ?_⟩
  · have := Int.mul_pos (a := (x.den : Int) + x.num) (b := (x.den : Int) + x.num) (by omega) (by omega); omega
  · have := Int.mul_pos (a := (x.den : Int) + -x.num) (b := (x.den : Int) + -x.num) (by omega) (by omega); omega
abbrev web2 (A : Str → Addr) (x : Rat) : D := .obj (A "Web") ["many", "ties"] [.int 2, .tup [.tup [.int 0, .int 1, rq x], .tup [.int 1, .int 0, rq x]]]
abbrev web1 (A : Str → Addr) (x : Rat) : D := .obj (A "Web") ["many", "ties"] [.int 2, .tup [.tup [.int 0, .int 1, rq x]]]
theorem signs2 : m_signs_of A [.dat (.tup [.int 0, .int 1]), .dat (.int 2)] [] = .ok (.lst [.int 1, .int (-1), .int (-1), .int 1]) [] := by kernel_rfl
theorem srt01 : srt [(0 : Int), 1] = [0, 1] := by
  unfold srt
  first | exact List.mergeSort_of_pairwise (by simp) | exact List.mergeSort_of_sorted (by simp)
theorem srt10 : srt [(1 : Int), 0] = [0, 1] := by
  have p : (srt [(1 : Int), 0]).Perm [(0 : Int), 1] := by
    unfold srt
    exact (List.mergeSort_perm _ _).trans (List.Perm.swap _ _ _)
  have l : (srt [(1 : Int), 0]).Pairwise (fun a b => a ≤ b) := by
    have := List.pairwise_mergeSort (le := fun a b : Int => decide (a ≤ b)) (by simp; omega) (by simp; omega) [(1 : Int), 0]
    unfold srt
    simpa using this
  generalize srt [(1 : Int), 0] = q at p l
  have hl := p.length_eq
  match q, hl with
  | [a, b], _ =>
    have m1 : a ∈ [(0 : Int), 1] := p.mem_iff.mp (by simp)
    have m2 : b ∈ [(0 : Int), 1] := p.mem_iff.mp (by simp)
    have n0 : (0 : Int) ∈ [a, b] := p.mem_iff.mpr (by simp)
    have n1 : (1 : Int) ∈ [a, b] := p.mem_iff.mpr (by simp)
    simp at m1 m2 n0 n1 l
    have : a = 0 := by omega
    have : b = 1 := by omega
    subst a; subst b; rfl
theorem joined01 : m_joined A [.dat (.tup [.int 0]), .dat (.tup [.int 1])] [] = .ok (.tup [.int 0, .int 1]) [] := joined4 (A := A) 1 (.inl rfl)
theorem joined10 : m_joined A [.dat (.tup [.int 1]), .dat (.tup [.int 0])] [] = .ok (.tup [.int 0, .int 1]) [] := by
  unfold m_joined f_joined
  have d0 : m_distinct_numbers A [.dat (.tup [.int 0])] [] = .ok (.tup [.int 0]) [] := distinct_one 0
  have d1 : m_distinct_numbers A [.dat (.tup [.int 1])] [] = .ok (.tup [.int 1]) [] := distinct_one 1
  have q1 : eqV (V.int 1) (V.int 0) = false := rfl
  have q2 : eqV (V.int 0) (V.int 1) = false := rfl
  simp_arith [q1, q2, d0, d1, nLc, lcGo, tTrue, tCalm, wipeG, nCat, catG, oIsN, Lw.isNon, oIn, flV, flVs, inV, cSorted, intsOf, srt10]
theorem distinct01 : m_distinct_numbers A [.dat (.tup [.int 0, .int 1])] [] = .ok (.tup [.int 0, .int 1]) [] := by
  unfold m_distinct_numbers f_distinct_numbers
  simp_arith [isrow_tup, isi_int, nLc, lcGo, tTrue, wipeG, cAll, blsOf, cSorted, intsOf, srt01, eLenSet, ddp]
theorem lot01_2 : m_lot_of A [.dat (.tup [.int 0, .int 1]), .dat (.int 2)] [] = .ok (.tup [.int 0, .int 1]) [] := by
  have c : m_count_of A [.dat (.int 2), .dat (.int 10)] [] = .ok (.int 2) [] := count_of_eq (A := A) (n := 2) (m := 10) (by decide) (by decide)
  unfold m_lot_of f_lot_of
  simp_arith [c, distinct01, oIsN, Lw.isNon, nLc, lcGo, tTrue, wipeG, cAll, blsOf]
theorem tops2_eq {x : Rat} (h : sz 5 x) : m_weight_tops A [.dat (web2 A x)] [] = .ok (.lst [.int (twa x), .int (twb x), .int (twb x), .int (twa x)]) [] := by
  unfold m_weight_tops f_weight_tops
  have hpow : CPow 1 2 := by decide
  have c1 : CMulW x.num 1 := mulW h.1 (b := 1) (by unfold sm; decide) (by decide) (by decide) (by decide)
  have c2 : CMulW x.num (-1) := mulW h.1 (b := 1) (by unfold sm; decide) (by decide) (by decide) (by decide)
  have sp := sm_add h.2 h.1
  have sn := sm_add h.2 (sm_neg h.1)
  have d1 : CMulW 1 ((x.den : Int) + x.num) := mulW (a := 1) (by unfold sm; decide) sp (by decide) (by decide) (by decide)
  have d2 : CMulW 1 ((x.den : Int) + -x.num) := mulW (a := 1) (by unfold sm; decide) sn (by decide) (by decide) (by decide)
  have e1 := mulW sp sp (by decide) (by decide) (by decide)
  have e2 := mulW sn sn (by decide) (by decide) (by decide)
  simp_arith [eFld, fldG, clsIn, List.lookup, nLc, lcGo, tTrue, wipeG, iArgs, hpow, sFor, forL, wmt, wtm, bmt, btm, joined01, joined10, signs2, zipG2, zipD, c1, c2, d1, d2, e1, e2, twa, twb]
theorem mean2_eq {x : Rat} (h : sz 5 x) (hu : inU x) : m_mean A [.dat (web2 A x), .dat (.tup [.int 0, .int 1]), .dat .non] [] = .ok (rq (wd x)) [] := by
  unfold m_mean f_mean
  have w := tops2_eq (A := A) h
  obtain ⟨pa, pb⟩ := wab_pos x hu
  have sa := sm_twa h
  have sb := sm_twb h
  have s3 : sm 60 (twa x + (twb x + (twb x + twa x))) := sm_up (sm_add' sa (sm_add' sb (sm_add' sb sa))) (by decide)
  have l := lowest_eq (A := A) (p := twa x + (-twb x + (-twb x + twa x))) (q := twa x + (twb x + (twb x + twa x))) (by omega) (sm_up s3 (by decide))
  rw [wd_ab] at l
  have c1 : CMulW (twa x) 1 := mulW sa (b := 1) (by unfold sm; decide) (by decide) (by decide) (by decide)
  have c2 : CMulW (twb x) (-1) := mulW sb (b := 1) (by unfold sm; decide) (by decide) (by decide) (by decide)
  simp_arith [eFld, fldG, clsIn, List.lookup, wmt, wtm, bmt, btm, lot01_2, oNotN, Lw.isNon, w, signs2, iArgs, zipG2, zipD, nLc, lcGo, tTrue, wipeG, c1, c2, cSum, intsOf, l]


end

section
set_option Elab.async false
set_option linter.all false
set_option maxRecDepth 100000
set_option maxHeartbeats 8000000

open PySem L2 Lw
variable {A : Str → Addr}
theorem mp_low {x y : Rat} (ux : inU x) (uy : inU y) : (1 : Int) ≤ (x.den : Int) * y.den + x.num * y.num := by
  have a := inU_num ux
  have b := inU_num uy
  have m1 := Int.mul_pos (a := (x.den : Int) + x.num) (b := (y.den : Int) + y.num) (by omega) (by omega)
  have m2 := Int.mul_pos (a := (x.den : Int) - x.num) (b := (y.den : Int) - y.num) (by omega) (by omega)
  have e : ((x.den : Int) + x.num) * ((y.den : Int) + y.num) + ((x.den : Int) - x.num) * ((y.den : Int) - y.num) = 2 * ((x.den : Int) * y.den + x.num * y.num) := by grind
  omega
theorem mp_rat (x y : Rat) (h : 1 + x * y ≠ 0) : ((x.num * y.den + y.num * x.den : Int) : Rat) / (((x.den : Int) * y.den + x.num * y.num : Int) : Rat) = (x + y) / (1 + x * y) := by
  simp only [Rat.intCast_add, Rat.intCast_mul, int_den, num_eq]
  have dx := den_ne x
  have dy := den_ne y
  generalize (x.den : Rat) = p at *
  generalize (y.den : Rat) = q at *
  have e1 : x * p * q + y * q * p = (p * q) * (x + y) := by grind
  have e2 : p * q + x * p * (y * q) = (p * q) * (1 + x * y) := by grind
  rw [e1, e2]
  have : p * q ≠ 0 := by grind
  grind
theorem one_xy {x y : Rat} (ux : inU x) (uy : inU y) : 0 < 1 + x * y := by
  have a := Rat.mul_pos (a := 1 - x) (b := 1 - y) (by have := ux.2; grind) (by have := uy.2; grind)
  have b := Rat.mul_pos (a := 1 + x) (b := 1 + y) (by have := ux.1; grind) (by have := uy.1; grind)
  grind
theorem mp_eq {x y : Rat} (hx : sz 50 x) (hy : sz 50 y) (ux : inU x) (uy : inU y) : m_merged_pull A [.dat (rq x), .dat (rq y)] [] = .ok (rq ((x + y) / (1 + x * y))) [] := by
  unfold m_merged_pull f_merged_pull
  have w1 := mulW hx.1 hy.2 (by decide) (by decide) (by decide)
  have w2 := mulW hy.1 hx.2 (by decide) (by decide) (by decide)
  have w3 := mulW hx.2 hy.2 (by decide) (by decide) (by decide)
  have w4 := mulW hx.1 hy.1 (by decide) (by decide) (by decide)
  have l := lowest_eq (A := A) (p := x.num * y.den + y.num * x.den) (mp_low ux uy) (sm_up (sm_add (sm_mul hx.2 hy.2) (sm_mul hx.1 hy.1)) (by decide))
  rw [mp_rat x y (by have := one_xy ux uy; grind)] at l
  simp_arith [w1, w2, w3, w4, l]
theorem inU_0 : inU 0 := ⟨by decide, by decide⟩
theorem mp_0 {x : Rat} (hx : sz 50 x) (ux : inU x) : m_merged_pull A [.dat (.tup [.int 0, .int 1]), .dat (rq x)] [] = .ok (rq x) [] := by
  have e := mp_eq (A := A) (x := 0) (y := x) (sz_int (i := 0) (by unfold sm; decide) (by decide)) hx inU_0 ux
  rw [show (0 + x) / (1 + 0 * x) = x by grind] at e
  exact e
theorem mp_2 {x : Rat} (hx : sz 50 x) (ux : inU x) : m_merged_pull A [.dat (rq x), .dat (rq x)] [] = .ok (rq (wd x)) [] := by
  have e := mp_eq (A := A) hx hx ux ux
  rw [show (x + x) / (1 + x * x) = wd x by unfold wd; grind] at e
  exact e
theorem ne_zero {w : Rat} {M : List MO} : oEqD true (rq w) (.tup [.int 0, .int 1]) M = .ok (.dat (.bl (decide (w ≠ 0)))) M := by
  unfold oEqD
  simp only [toPy, toPys, Option.map_some]
  rw [chk_t ⟨rfl, rfl⟩]
  by_cases h : w = 0
  · subst h; simp [PyData.eqv, PyData.eqvAll]
  · have : ¬ w.num = 0 := fun e => h (num_eq0.mp e)
    simp [PyData.eqv, PyData.eqvAll, h, this]
def mtie (w : Rat) : List D := if w = 0 then [] else [.tup [.int 0, .int 1, rq w]]
theorem ne_ties {w : Rat} {M : List MO} : oEqD true (.tup (mtie w)) (.tup (mtie w)) M = .ok (.dat (.bl false)) M := by
  unfold mtie
  split
  · kernel_rfl
  · unfold oEqD
    simp only [toPy, toPys, Option.map_some]
    rw [chk_t ⟨rfl, rfl⟩]
    simp [PyData.eqv, PyData.eqvAll]
theorem ne01 {M : List MO} : oEqD true (.int 0) (.int 1) M = .ok (.dat (.bl true)) M := by kernel_rfl
theorem ne10 {M : List MO} : oEqD true (.int 1) (.int 0) M = .ok (.dat (.bl true)) M := by kernel_rfl
abbrev mweb (A : Str → Addr) (w : Rat) : D := .obj (A "Web") ["many", "ties"] [.int 2, .tup (mtie w)]
theorem ms1 : List.mergeSort [[(0 : Int), 1]] (codeLe 1000) = [[0, 1]] := List.mergeSort_singleton _
theorem wi0 : m_Web_init A [.mr 0, .dat (.int 2), .dat (.lst [])] [.ins (A "Web") [] []] = .ok .non [.ins (A "Web") ["many", "ties"] [.int 2, .tup []]] :=
  web_init_eq (A := A) (n := 2) (ts := []) (by decide) (by decide) (by decide) (fun t h => by cases h)
theorem wi1 {w : Rat} (h : sz 50 w) (u : inU w) : m_Web_init A [.mr 0, .dat (.int 2), .dat (.lst [.tup [.int 0, .int 1, rq w]])] [.ins (A "Web") [] []] = .ok .non [.ins (A "Web") ["many", "ties"] [.int 2, .tup [.tup [.int 0, .int 1, rq w]]]] :=
  web_init_eq (A := A) (n := 2) (ts := [(0, 1, w)]) (by decide) (by decide) (by show 1 ≤ 10; decide) (fun t ht => by
    rcases List.mem_singleton.mp ht with rfl
    exact ⟨by show 0 < 2; decide, by show 1 < 2; decide, sz_up h (by decide), u⟩)
theorem wi2 {x : Rat} (h : sz 50 x) (u : inU x) : m_Web_init A [.mr 0, .dat (.int 2), .dat (.lst [.tup [.int 0, .int 1, rq x], .tup [.int 1, .int 0, rq x]])] [.ins (A "Web") [] []] = .ok .non [.ins (A "Web") ["many", "ties"] [.int 2, .tup [.tup [.int 0, .int 1, rq x], .tup [.int 1, .int 0, rq x]]]] :=
  web_init_eq (A := A) (n := 2) (ts := [(0, 1, x), (1, 0, x)]) (by decide) (by decide) (by show 2 ≤ 10; decide) (fun t ht => by
    rcases List.mem_cons.mp ht with rfl | ht
    · exact ⟨by show 0 < 2; decide, by show 1 < 2; decide, sz_up h (by decide), u⟩
    · rcases List.mem_singleton.mp ht with rfl
      exact ⟨by show 1 < 2; decide, by show 0 < 2; decide, sz_up h (by decide), u⟩)
theorem merged2_eq {x : Rat} (h : sz 5 x) (u : inU x) : m_Web_merged A [.dat (web2 A x)] [] = .ok (mweb A (wd x)) [] := by
  have m0 := mp_0 (A := A) (sz_up h (show 5 ≤ 50 by decide)) u
  have m2 := mp_2 (A := A) (sz_up h (show 5 ≤ 50 by decide)) u
  have hw := sz_up (sz_wd h) (show 19 ≤ 50 by decide)
  have uw := inU_wd u
  have i0 := wi0 (A := A)
  have i1 := wi1 (A := A) hw uw
  have nz := fun M => ne_zero (w := wd x) (M := M)
  unfold mweb mtie m_Web_merged f_Web_merged
  generalize wd x = w at *
  by_cases hz : w = 0
  · rw [if_pos hz]
    have nz' : ∀ M, oEqD true (rq w) (.tup [.int 0, .int 1]) M = .ok (.dat (.bl false)) M := fun M => by rw [nz, decide_eq_false (fun h => h hz)]
    simp_arith [sDNew, eFld, fldG, clsIn, List.lookup, wmt, wtm, bmt, btm, sFor, forL, ne01, ne10, cI2, Lw.sDPut, onDic, eDGet2, eDGet, Lw.keyOf, intsOf, dlook, dput, m0, m2, nSortK, Lw.keyOk, ms1, nLc, wipeG, lcGo, tCalm, nz', eMake, makeM, i0]
  · rw [if_neg hz]
    have nz' : ∀ M, oEqD true (rq w) (.tup [.int 0, .int 1]) M = .ok (.dat (.bl true)) M := fun M => by rw [nz, decide_eq_true hz]
    simp_arith [sDNew, eFld, fldG, clsIn, List.lookup, wmt, wtm, bmt, btm, sFor, forL, ne01, ne10, cI2, Lw.sDPut, onDic, eDGet2, eDGet, Lw.keyOf, intsOf, dlook, dput, m0, m2, nSortK, Lw.keyOk, ms1, nLc, wipeG, lcGo, tCalm, nz', eMake, makeM, i1]
theorem merged1_eq {w : Rat} (hw : sz 50 w) (uw : inU w) : m_Web_merged A [.dat (web1 A w)] [] = .ok (mweb A w) [] := by
  have m0 := mp_0 (A := A) hw uw
  have i0 := wi0 (A := A)
  have i1 := wi1 (A := A) hw uw
  have nz := fun M => ne_zero (w := w) (M := M)
  unfold mweb mtie m_Web_merged f_Web_merged
  by_cases hz : w = 0
  · rw [if_pos hz]
    have nz' : ∀ M, oEqD true (rq w) (.tup [.int 0, .int 1]) M = .ok (.dat (.bl false)) M := fun M => by rw [nz, decide_eq_false (fun h => h hz)]
    simp_arith [sDNew, eFld, fldG, clsIn, List.lookup, wmt, wtm, bmt, btm, sFor, forL, ne01, ne10, cI2, Lw.sDPut, onDic, eDGet2, eDGet, Lw.keyOf, intsOf, dlook, dput, m0, nSortK, Lw.keyOk, ms1, nLc, wipeG, lcGo, tCalm, nz', eMake, makeM, i0]
  · rw [if_neg hz]
    have nz' : ∀ M, oEqD true (rq w) (.tup [.int 0, .int 1]) M = .ok (.dat (.bl true)) M := fun M => by rw [nz, decide_eq_true hz]
    simp_arith [sDNew, eFld, fldG, clsIn, List.lookup, wmt, wtm, bmt, btm, sFor, forL, ne01, ne10, cI2, Lw.sDPut, onDic, eDGet2, eDGet, Lw.keyOf, intsOf, dlook, dput, m0, nSortK, Lw.keyOk, ms1, nLc, wipeG, lcGo, tCalm, nz', eMake, makeM, i1]


end

section
set_option Elab.async false
set_option linter.all false
set_option maxRecDepth 100000
set_option maxHeartbeats 8000000

open PySem L2 Lw
variable {A : Str → Addr}
theorem wd_due (x : Rat) : wd x = ((2 * x.num * x.den : Int) : Rat) / (((x.den : Int) * x.den + x.num * x.num : Int) : Rat) := by
  simp only [Rat.intCast_add, Rat.intCast_mul, int_den, num_eq, wd]
  have dx := den_ne x
  have := one_sq x
  generalize (x.den : Rat) = p at *
  have e1 : ((2 : Int) : Rat) * (x * p) * p = (p * p) * (2 * x) := by have : ((2 : Int) : Rat) = 2 := rfl
                                                                      rw [this]; grind
  have e2 : p * p + x * p * (x * p) = (p * p) * (1 + x * x) := by grind
  rw [e1, e2]
  have : p * p ≠ 0 := by grind
  generalize 1 + x * x = e at *
  grind
theorem mul_ne {a b : Rat} (h : a ≠ 0) (h' : b ≠ 0) : a * b ≠ 0 := by
  intro e
  rcases Rat.mul_eq_zero.mp e with h1 | h1
  · exact h h1
  · exact h' h1
theorem inv_ne {a : Rat} (h : a ≠ 0) : a⁻¹ ≠ 0 := by
  intro e
  have := Rat.mul_inv_cancel a h
  rw [e] at this; simp at this
theorem frac1 {u v e : Rat} (he : e ≠ 0) (hu : u ≠ 0) : v / e / (u / e) = v / u := by
  have h1 : u / e ≠ 0 := by rw [Rat.div_def]; exact mul_ne hu (inv_ne he)
  generalize hk : u / e = k at *
  have : u = k * e := by rw [← hk]; grind
  subst this
  have : k * e ≠ 0 := mul_ne h1 he
  grind
theorem frac2 {u v q : Rat} (hq : q ≠ 0) (hu : u ≠ 0) : q * v / (q * u) = v / u := by
  have : q * u ≠ 0 := mul_ne hq hu
  generalize hk : q * u = k at *
  grind
theorem wd_sq {x : Rat} (h : inU x) : (1 + wd x) / (1 - wd x) = ((((x.den : Int) + x.num) * ((x.den : Int) + x.num) : Int) : Rat) / ((((x.den : Int) - x.num) * ((x.den : Int) - x.num) : Int) : Rat) := by
  simp only [Rat.intCast_add, Rat.intCast_sub, Rat.intCast_mul, int_den, num_eq, wd]
  have dx := den_ne x
  have := one_sq x
  have n1 : 1 - x ≠ 0 := by have := h.2; grind
  generalize (x.den : Rat) = p at *
  have e1 : (p + x * p) * (p + x * p) = (p * p) * ((1 + x) * (1 + x)) := by grind
  have e2 : (p - x * p) * (p - x * p) = (p * p) * ((1 - x) * (1 - x)) := by grind
  rw [e1, e2]
  have : p * p ≠ 0 := by grind
  have e3 : (1 + 2 * x / (1 + x * x)) = (1 + x) * (1 + x) / (1 + x * x) := by grind
  have e4 : (1 - 2 * x / (1 + x * x)) = (1 - x) * (1 - x) / (1 + x * x) := by grind
  rw [e3, e4]
  generalize 1 + x * x = e at *
  generalize p * p = q at *
  have hu : (1 - x) * (1 - x) ≠ 0 := mul_ne n1 n1
  rw [frac1 (by grind) hu, frac2 (by grind) hu]
theorem l_true {x : Rat} {p q : Int} (h : sz 1900 x) (hp : sm 1900 p) (hq : sm 1900 q) (hq0 : q ≠ 0) (e : x = (p : Rat) / (q : Rat)) : m_l_is A [.dat (rq x), .dat (.tup [.int p, .int q])] [] = .ok (.bl true) [] := by
  rw [l_is_rq h hp hq hq0, decide_eq_true e]
theorem doubled_eq {x : Rat} (hx : Menu x) : m_l_doubled A [.dat (rq x)] [] = .ok (.bl true) [] := by
  obtain ⟨h, u⟩ := hx
  have h20 := sz_up h (show 5 ≤ 20 by decide)
  have dp := double_pull_eq (A := A) (pd_lst h20 u) h20
  rw [show 2 * x / (1 + x * x) = wd x from rfl] at dp
  have hw := sz_wd h
  have uw := inU_wd u
  have s2 : sm 2 (2 : Int) := by unfold sm; decide
  have w1 : CMulW 2 x.num := mulW s2 h.1 (by decide) (by decide) (by decide)
  have w2 : CMulW (2 * x.num) x.den := mulW (sm_mul s2 h.1) h.2 (by decide) (by decide) (by decide)
  have w3 : CMulW (x.den : Int) x.den := mulW h.2 h.2 (by decide) (by decide) (by decide)
  have w4 : CMulW x.num x.num := mulW h.1 h.1 (by decide) (by decide) (by decide)
  have dpos := den_pos' x
  have q1 : (x.den : Int) * x.den + x.num * x.num ≠ 0 := by
    have a := Int.mul_pos (a := x.den) (b := x.den) (by omega) (by omega)
    have b : 0 ≤ x.num * x.num := by
      rcases (by omega : 0 ≤ x.num ∨ 0 ≤ -x.num) with h | h
      · exact Int.mul_nonneg h h
      · have := Int.mul_nonneg h h; rw [Int.neg_mul_neg] at this; exact this
    omega
  have l1 := l_true (A := A) (sz_up hw (show 19 ≤ 1900 by decide)) (sm_up (sm_mul (sm_mul s2 h.1) h.2) (by decide)) (sm_up (sm_add (sm_mul h.2 h.2) (sm_mul h.1 h.1)) (by decide)) q1 (wd_due x)
  have i2 := wi2 (A := A) (sz_up h (show 5 ≤ 50 by decide)) u
  have i1 := wi1 (A := A) (sz_up hw (show 19 ≤ 50 by decide)) uw
  have mn := mean2_eq (A := A) h u
  have m2 := merged2_eq (A := A) h u
  have m1 := merged1_eq (A := A) (sz_up hw (show 19 ≤ 50 by decide)) uw
  have nt := fun M => ne_ties (w := wd x) (M := M)
  have px : PullD A (rq (wd x)) (wd x) := pull_of_rq (sz_up hw (by decide)) uw
  have sd := square_of_double_eq (A := A) px (sz_up hw (by decide)) uw
  have nu := inU_num u
  have sp := sm_add h.2 h.1
  have sn := sm_sub h.2 h.1
  have q2 : ((x.den : Int) - x.num) * ((x.den : Int) - x.num) ≠ 0 := by
    have a := Int.mul_pos (a := (x.den : Int) - x.num) (b := (x.den : Int) - x.num) (by omega) (by omega)
    omega
  have w5 := mulW sp sp (by decide) (by decide) (by decide)
  have w6 := mulW sn sn (by decide) (by decide) (by decide)
  have s1 : sz 1 (1 : Rat) := sz_1 (by decide)
  have n1 : 1 - wd x ≠ 0 := by have := uw.2; grind
  have szr := sz_over (sz_add s1 hw) (sz_sub s1 hw) n1
  have l2 := l_true (A := A) (sz_up szr (by decide)) (sm_up (sm_mul sp sp) (by decide)) (sm_up (sm_mul sn sn) (by decide)) q2 (wd_sq u)
  unfold m_l_doubled f_l_doubled
  have wmm : ¬ (Str.ofString "merged" = Str.ofString "many") := by decide +kernel
  have wmt' : ¬ (Str.ofString "merged" = Str.ofString "ties") := by decide +kernel
  generalize wd x = w at *
  have np := fun M => ne_pair (a := w.num) (b := w.den) (M := M)
  simp_arith [nCB, cList, dp, w1, w2, w3, w4, eMake, makeM, i2, l1, eCallD, mn, np, eFld, fldG, clsIn, List.lookup, wmt, wtm, bmt, btm, eMeth, methM, wmm, wmt', m2, i1, m1, nt, w5, w6, sd, l2]


end

section
set_option Elab.async false
set_option linter.all false
set_option maxRecDepth 100000
set_option maxHeartbeats 8000000

open PySem L2 Lw
variable {A : Str → Addr}
theorem wi4 {x y z : Rat} (hx : Menu x) (hy : Menu y) (hz : Menu z) : m_Web_init A [.mr 0, .dat (.int 4), .dat (.lst [.tup [.int 0, .int 1, rq x], .tup [.int 0, .int 2, rq y], .tup [.int 0, .int 3, rq z]])] [.ins (A "Web") [] []] = .ok .non [.ins (A "Web") ["many", "ties"] [.int 4, .tup [.tup [.int 0, .int 1, rq x], .tup [.int 0, .int 2, rq y], .tup [.int 0, .int 3, rq z]]]] :=
  web_init_eq (A := A) (n := 4) (ts := [(0, 1, x), (0, 2, y), (0, 3, z)]) (by decide) (by decide) (by show 3 ≤ 10; decide) (fun t ht => by
    rcases List.mem_cons.mp ht with rfl | ht
    · exact ⟨by show 0 < 4; decide, by show 1 < 4; decide, sz_up hx.1 (by decide), hx.2⟩
    · rcases List.mem_cons.mp ht with rfl | ht
      · exact ⟨by show 0 < 4; decide, by show 2 < 4; decide, sz_up hy.1 (by decide), hy.2⟩
      · rcases List.mem_singleton.mp ht with rfl
        exact ⟨by show 0 < 4; decide, by show 3 < 4; decide, sz_up hz.1 (by decide), hz.2⟩)
theorem re7 (x y z : Rat) : rest3 x y z 7 = rest3 x y z 0 := rest3_sym x y z 0 (by decide)
abbrev rt (x y z : Rat) (j : Nat) : Rat := (rest3 x y z j : Rat) / (tot x y z : Rat)
theorem rs_eq (x y z : Rat) : sprD A 3 (rs x y z) = sq3 A (rt x y z 0) (rt x y z 1) (rt x y z 2) (rt x y z 3) := by
  show sp3 A (rq (rt x y z 0)) (rq (rt x y z 1)) (rq (rt x y z 2)) (rq (rt x y z 3)) (rq (rt x y z 4)) (rq (rt x y z 5)) (rq (rt x y z 6)) (rq (rt x y z 7)) = _
  unfold rt
  rw [re4, re5, re6, re7]
theorem rat_ne {i : Int} (h : 0 < i) : (i : Rat) ≠ 0 := by
  intro e
  have : i = 0 := by exact_mod_cast e
  omega
theorem frac3 {a b c d t : Rat} (ht : t ≠ 0) (hc : c ≠ 0) (hd : d ≠ 0) : a / t * (b / t) / (d / t * (c / t)) = a * b / (d * c) := by
  have e1 : a / t * (b / t) = a * b / (t * t) := by grind
  have e2 : d / t * (c / t) = d * c / (t * t) := by grind
  rw [e1, e2, frac1 (mul_ne ht ht) (mul_ne hd hc)]
theorem rt_box {x y z : Rat} (ux : inU x) (uy : inU y) (uz : inU z) (i j k l : Nat) : rt x y z i * rt x y z j / (rt x y z k * rt x y z l) = ((rest3 x y z i * rest3 x y z j : Int) : Rat) / ((rest3 x y z k * rest3 x y z l : Int) : Rat) := by
  have t := rat_ne (tot_pos x y z)
  have hk := rat_ne (rest3_pos ux uy uz k)
  have hl := rat_ne (rest3_pos ux uy uz l)
  unfold rt
  rw [frac3 t hl hk, Rat.intCast_mul, Rat.intCast_mul]
/-- a double that is what a box says -/
theorem dbl_box {u : Rat} {P Q : Int} (hP : 0 < P) (hQ : 0 < Q) (e : u = ((P - Q : Int) : Rat) / ((P + Q : Int) : Rat)) : inU u ∧ (1 + u) / (1 - u) = (P : Rat) / (Q : Rat) := by
  have p0 : (0 : Rat) < (P : Rat) := by exact_mod_cast hP
  have q0 : (0 : Rat) < (Q : Rat) := by exact_mod_cast hQ
  rw [Rat.intCast_sub, Rat.intCast_add] at e
  generalize (P : Rat) = p at *
  generalize (Q : Rat) = q at *
  have s0 : 0 < p + q := by grind
  have i0 := Rat.inv_pos.mpr s0
  have c0 := Rat.mul_inv_cancel (p + q) (by grind)
  rw [Rat.div_def] at e
  have e1 : 1 + u = 2 * p * (p + q)⁻¹ := by rw [e]; grind
  have e2 : 1 - u = 2 * q * (p + q)⁻¹ := by rw [e]; grind
  have m1 := Rat.mul_pos (a := 2 * p) (b := (p + q)⁻¹) (by grind) i0
  have m2 := Rat.mul_pos (a := 2 * q) (b := (p + q)⁻¹) (by grind) i0
  refine ⟨⟨by grind, by grind⟩, ?_⟩
  rw [e1, e2, ← Rat.div_def, ← Rat.div_def, frac1 (by grind) (by grind), frac2 (by decide) (by grind)]
theorem ne_sq {u v a b : Int} {M : List MO} : oEqD true (.tup [.tup [.int u, .int v], .tup [.int a, .int b]]) (.tup [.tup [.int u, .int v], .tup [.int a, .int b]]) M = .ok (.dat (.bl false)) M := by
  unfold oEqD
  simp only [toPy, toPys, Option.map_some]
  rw [chk_t ⟨rfl, rfl⟩]
  simp [PyData.eqv, PyData.eqvAll]
theorem l_times_eq {x y : Rat} (hx : sz 5 x) (hy : sz 5 y) : m_l_times A [.dat (rq x), .dat (rq y)] [] = .ok (.tup [.int (x.num * y.num), .int ((x.den : Int) * y.den)]) [] := by
  unfold m_l_times f_l_times
  have w1 := mulW hx.1 hy.1 (by decide) (by decide) (by decide)
  have w2 := mulW hx.2 hy.2 (by decide) (by decide) (by decide)
  simp_arith [w1, w2]
theorem pulls_hold_eq (x y z : Rat) (hx : Menu x) (hy : Menu y) (hz : Menu z) : m_l_pulls_hold A [.dat (.lst [rq x, rq y, rq z])] [] = .ok (.bl true) [] := by
  obtain ⟨sx, ux⟩ := hx
  obtain ⟨sy, uy⟩ := hy
  obtain ⟨szz, uz⟩ := hz
  have x20 := sz_up sx (show 5 ≤ 20 by decide)
  have y20 := sz_up sy (show 5 ≤ 20 by decide)
  have z20 := sz_up szz (show 5 ≤ 20 by decide)
  have e0 := star_boxes_eq (A := A) sx sy szz
  have R := fun j => rest3_pos ux uy uz j
  have S := fun j => sm_rest3 sx sy szz j
  have td := triangle_doubles_eq (A := A) (pd_tup x20 ux) (pd_lst y20 uy) (pd_tup z20 uz) x20 y20 z20 ux uy uz
  have b1 := box_dbl ux uy uz
  have b2 := box_dbl2 ux uy uz
  have b3 := box_dbl3 ux uy uz
  have da := sz_dbl sx sy szz ux uy uz
  have db := sz_dbl sx szz sy ux uz uy
  have dc := sz_dbl sy szz sx uy uz ux
  have M := fun i j => sm_mul (S i) (S j)
  have Ps := fun i j => Int.mul_pos (R i) (R j)
  have u1 := fun {i : Int} (h : sm 42 i) => sm_up h (show 42 ≤ 1900 by decide)
  have u2 := fun {i j : Int} (h : sm 42 i) (h' : sm 42 j) => sm_up (sm_sub h h') (show 43 ≤ 1900 by decide)
  have u3 := fun {i j : Int} (h : sm 42 i) (h' : sm 42 j) => sm_up (sm_add h h') (show 43 ≤ 1900 by decide)
  have nz := fun {i j : Int} (h : 0 < i) (h' : 0 < j) => (by omega : i + j ≠ 0)
  have nz1 := fun {i : Int} (h : 0 < i) => (by omega : i ≠ 0)
  have t1 := three_are_eq (A := A) (sz_up da (show 100 ≤ 1900 by decide)) (sz_up db (show 100 ≤ 1900 by decide)) (sz_up dc (show 100 ≤ 1900 by decide)) (u2 (M 0 6) (M 4 2)) (u3 (M 0 6) (M 4 2)) (u2 (M 0 5) (M 4 1)) (u3 (M 0 5) (M 4 1)) (u2 (M 0 3) (M 2 1)) (u3 (M 0 3) (M 2 1))
    (nz (Ps 0 6) (Ps 4 2)) (nz (Ps 0 5) (Ps 4 1)) (nz (Ps 0 3) (Ps 2 1)) b1 b2 b3 (.inl rfl)
  have sm3 := star_means_of (A := A) (pd_tup x20 ux) (pd_tup y20 uy) (pd_lst z20 uz) x20 y20 z20
  have xy := sz_mul sx sy
  have xz := sz_mul sx szz
  have yz := sz_mul sy szz
  have lt1 := l_times_eq (A := A) sx sy
  have lt2 := l_times_eq (A := A) sx szz
  have lt3 := l_times_eq (A := A) sy szz
  have nd := fun (x y : Rat) => nz1 (mpos x y)
  have t2 := three_are_eq (A := A) (sz_up xy (show 10 ≤ 1900 by decide)) (sz_up xz (show 10 ≤ 1900 by decide)) (sz_up yz (show 10 ≤ 1900 by decide)) (sm_up (sm_mul sx.1 sy.1) (by decide)) (sm_up (sm_mul sx.2 sy.2) (by decide)) (sm_up (sm_mul sx.1 szz.1) (by decide)) (sm_up (sm_mul sx.2 szz.2) (by decide)) (sm_up (sm_mul sy.1 szz.1) (by decide)) (sm_up (sm_mul sy.2 szz.2) (by decide))
    (nd x y) (nd x z) (nd y z) (mul_rat x y).symm (mul_rat x z).symm (mul_rat y z).symm (.inl rfl)
  obtain ⟨h0, h1, h2, h3⟩ := star_sums ux uy uz
  have ts := triangle_squares_eq (A := A) (sz_up xy (show 10 ≤ 200 by decide)) (sz_up xz (show 10 ≤ 200 by decide)) (sz_up yz (show 10 ≤ 200 by decide)) h0 h1 h2 h3
  rw [box_tri1 h2 h3, box_tri2 h1 h3, box_tri3 h1 h2] at ts
  have z1 := sz_div (M 0 6) (M 4 2) (Ps 4 2)
  have z2 := sz_div (M 0 5) (M 4 1) (Ps 4 1)
  have z3 := sz_div (M 0 3) (M 2 1) (Ps 2 1)
  have c := fun {x : Rat} (h : sz 42 x) => sz_up h (show 42 ≤ 1900 by decide)
  have t3 := three_are_eq (A := A) (c z1) (c z2) (c z3) (u1 (M 0 6)) (u1 (M 4 2)) (u1 (M 0 5)) (u1 (M 4 1)) (u1 (M 0 3)) (u1 (M 2 1)) (nz1 (Ps 4 2)) (nz1 (Ps 4 1)) (nz1 (Ps 2 1)) rfl rfl rfl (.inl rfl)
  have k1 := l_true (A := A) (c z1) (u1 (M 0 6)) (u1 (M 4 2)) (nz1 (Ps 4 2)) rfl
  have k2 := l_true (A := A) (c z2) (u1 (M 0 5)) (u1 (M 4 1)) (nz1 (Ps 4 1)) rfl
  have k3 := l_true (A := A) (c z3) (u1 (M 0 3)) (u1 (M 2 1)) (nz1 (Ps 2 1)) rfl
  have i4 := wi4 (A := A) ⟨sx, ux⟩ ⟨sy, uy⟩ ⟨szz, uz⟩
  have so := spread_of_eq (A := A) ⟨sx, ux⟩ ⟨sy, uy⟩ ⟨szz, uz⟩
  have lo := left_out_eq (A := A) ⟨sx, ux⟩ ⟨sy, uy⟩ ⟨szz, uz⟩
  rw [rs_eq] at lo
  replace lo : m_Spread_left_out A [.dat (.obj (A "Spread") ["many", "rows"] [.int 4, .tup ((cs x y z).map rq)]), .dat (.tup [.int 0])] [] = .ok (sq3 A (rt x y z 0) (rt x y z 1) (rt x y z 2) (rt x y z 3)) [] := lo
  have ro := fun (j : Nat) (hj : j < 8) => rs_ok ⟨sx, ux⟩ ⟨sy, uy⟩ ⟨szz, uz⟩ (rt x y z j) (List.mem_map.mpr ⟨j, List.mem_range.mpr hj, rfl⟩)
  have zr := fun (j : Nat) (hj : j < 8) => sz_up (ro j hj).2 (show 21 ≤ 50 by decide)
  have sq := squares_eq (A := A) (zr 0 (by decide)) (zr 1 (by decide)) (zr 2 (by decide)) (zr 3 (by decide)) (ro 0 (by decide)).1 (ro 1 (by decide)).1 (ro 2 (by decide)).1 (ro 3 (by decide)).1
  have g1 := rt_box ux uy uz 0 1 3 2
  have g2 := rt_box ux uy uz 0 2 3 1
  have g3 := rt_box ux uy uz 0 3 2 1
  rw [← re6 x y z, ← re4 x y z] at g1
  rw [← re4 x y z, show rest3 x y z 2 = rest3 x y z 5 from (re5 x y z).symm] at g2
  rw [g1, g2, g3] at sq
  obtain ⟨ua, sa⟩ := dbl_box (Ps 0 6) (Ps 4 2) b1
  obtain ⟨ub, sb⟩ := dbl_box (Ps 0 5) (Ps 4 1) b2
  obtain ⟨uc, sc⟩ := dbl_box (Ps 0 3) (Ps 2 1) b3
  have d1 := square_of_double_eq (A := A) (d := rq (dbl x y z)) (pull_of_rq (sz_up da (by decide)) ua) (sz_up da (by decide)) ua
  have d2 := square_of_double_eq (A := A) (d := rq (dbl x z y)) (pull_of_rq (sz_up db (by decide)) ub) (sz_up db (by decide)) ub
  have d3 := square_of_double_eq (A := A) (d := rq (dbl y z x)) (pull_of_rq (sz_up dc (by decide)) uc) (sz_up dc (by decide)) uc
  rw [sa] at d1
  rw [sb] at d2
  rw [sc] at d3
  have D1 := doubled_eq (A := A) ⟨sx, ux⟩
  have D2 := doubled_eq (A := A) ⟨sy, uy⟩
  have D3 := doubled_eq (A := A) ⟨szz, uz⟩
  clear g1 g2 g3 sa sb sc
  generalize ((rest3 x y z 0 * rest3 x y z 6 : Int) : Rat) / ((rest3 x y z 4 * rest3 x y z 2 : Int) : Rat) = β1 at *
  generalize ((rest3 x y z 0 * rest3 x y z 5 : Int) : Rat) / ((rest3 x y z 4 * rest3 x y z 1 : Int) : Rat) = β2 at *
  generalize ((rest3 x y z 0 * rest3 x y z 3 : Int) : Rat) / ((rest3 x y z 2 * rest3 x y z 1 : Int) : Rat) = β3 at *
  generalize dbl x y z = δ1 at *
  generalize dbl x z y = δ2 at *
  generalize dbl y z x = δ3 at *
  have wl1 : ¬ (Str.ofString "left_out" = Str.ofString "many") := by decide +kernel
  have wl2 : ¬ (Str.ofString "left_out" = Str.ofString "rows") := by decide +kernel
  have n1 := fun M => ne_sq (u := 0) (v := 1) (a := β1.num) (b := β1.den) (M := M)
  have n2 := fun M => ne_sq (u := 0) (v := 2) (a := β2.num) (b := β2.den) (M := M)
  have n3 := fun M => ne_sq (u := 1) (v := 2) (a := β3.num) (b := β3.den) (M := M)
  clear b1 b2 b3 da db dc z1 z2 z3 ua ub uc ro zr
  unfold m_l_pulls_hold f_l_pulls_hold
  refine runF_ok (M' := []) rfl ?_
  refine (sSeq_nx (Γ1 := [.dat (.lst [rq x, rq y, rq z]), .dat (.lst [.tup [.int (rest3 x y z 0 * rest3 x y z 6), .int (rest3 x y z 4 * rest3 x y z 2)], .tup [.int (rest3 x y z 0 * rest3 x y z 5), .int (rest3 x y z 4 * rest3 x y z 1)], .tup [.int (rest3 x y z 0 * rest3 x y z 3), .int (rest3 x y z 2 * rest3 x y z 1)]]), .no, .no, .no, .no, .no, .no, .no, .no, .no]) (M1 := []) (by simp_arith [nCall, e0])).trans ?_
  refine (sSeq_nx (Γ1 := [.dat (.lst [rq x, rq y, rq z]), .dat (.lst [.tup [.int (rest3 x y z 0 * rest3 x y z 6), .int (rest3 x y z 4 * rest3 x y z 2)], .tup [.int (rest3 x y z 0 * rest3 x y z 5), .int (rest3 x y z 4 * rest3 x y z 1)], .tup [.int (rest3 x y z 0 * rest3 x y z 3), .int (rest3 x y z 2 * rest3 x y z 1)]]), .dat (.lst [.tup [.int (rest3 x y z 0 * rest3 x y z 6 - rest3 x y z 4 * rest3 x y z 2), .int (rest3 x y z 0 * rest3 x y z 6 + rest3 x y z 4 * rest3 x y z 2)], .tup [.int (rest3 x y z 0 * rest3 x y z 5 - rest3 x y z 4 * rest3 x y z 1), .int (rest3 x y z 0 * rest3 x y z 5 + rest3 x y z 4 * rest3 x y z 1)], .tup [.int (rest3 x y z 0 * rest3 x y z 3 - rest3 x y z 2 * rest3 x y z 1), .int (rest3 x y z 0 * rest3 x y z 3 + rest3 x y z 2 * rest3 x y z 1)]]), .no, .no, .no, .no, .no, .no, .no, .no]) (M1 := []) (by simp_arith [iArgs, nLc, lcGo, tTrue, wipeG])).trans ?_
  refine (sSeq_nx (Γ1 := [.dat (.lst [rq x, rq y, rq z]), .dat (.lst [.tup [.int (rest3 x y z 0 * rest3 x y z 6), .int (rest3 x y z 4 * rest3 x y z 2)], .tup [.int (rest3 x y z 0 * rest3 x y z 5), .int (rest3 x y z 4 * rest3 x y z 1)], .tup [.int (rest3 x y z 0 * rest3 x y z 3), .int (rest3 x y z 2 * rest3 x y z 1)]]), .dat (.lst [.tup [.int (rest3 x y z 0 * rest3 x y z 6 - rest3 x y z 4 * rest3 x y z 2), .int (rest3 x y z 0 * rest3 x y z 6 + rest3 x y z 4 * rest3 x y z 2)], .tup [.int (rest3 x y z 0 * rest3 x y z 5 - rest3 x y z 4 * rest3 x y z 1), .int (rest3 x y z 0 * rest3 x y z 5 + rest3 x y z 4 * rest3 x y z 1)], .tup [.int (rest3 x y z 0 * rest3 x y z 3 - rest3 x y z 2 * rest3 x y z 1), .int (rest3 x y z 0 * rest3 x y z 3 + rest3 x y z 2 * rest3 x y z 1)]]), .dat (.tup [rq δ1, rq δ2, rq δ3]), .no, .no, .no, .no, .no, .no, .no]) (M1 := []) (by simp_arith [nCB, cList, td])).trans ?_
  refine (sSeq_nx (Γ1 := [.dat (.lst [rq x, rq y, rq z]), .dat (.lst [.tup [.int (rest3 x y z 0 * rest3 x y z 6), .int (rest3 x y z 4 * rest3 x y z 2)], .tup [.int (rest3 x y z 0 * rest3 x y z 5), .int (rest3 x y z 4 * rest3 x y z 1)], .tup [.int (rest3 x y z 0 * rest3 x y z 3), .int (rest3 x y z 2 * rest3 x y z 1)]]), .dat (.lst [.tup [.int (rest3 x y z 0 * rest3 x y z 6 - rest3 x y z 4 * rest3 x y z 2), .int (rest3 x y z 0 * rest3 x y z 6 + rest3 x y z 4 * rest3 x y z 2)], .tup [.int (rest3 x y z 0 * rest3 x y z 5 - rest3 x y z 4 * rest3 x y z 1), .int (rest3 x y z 0 * rest3 x y z 5 + rest3 x y z 4 * rest3 x y z 1)], .tup [.int (rest3 x y z 0 * rest3 x y z 3 - rest3 x y z 2 * rest3 x y z 1), .int (rest3 x y z 0 * rest3 x y z 3 + rest3 x y z 2 * rest3 x y z 1)]]), .dat (.tup [rq δ1, rq δ2, rq δ3]), .no, .no, .no, .no, .no, .no, .no]) (M1 := []) (by simp_arith [t1])).trans ?_
  refine (sSeq_nx (Γ1 := [.dat (.lst [rq x, rq y, rq z]), .dat (.lst [.tup [.int (rest3 x y z 0 * rest3 x y z 6), .int (rest3 x y z 4 * rest3 x y z 2)], .tup [.int (rest3 x y z 0 * rest3 x y z 5), .int (rest3 x y z 4 * rest3 x y z 1)], .tup [.int (rest3 x y z 0 * rest3 x y z 3), .int (rest3 x y z 2 * rest3 x y z 1)]]), .dat (.lst [.tup [.int (rest3 x y z 0 * rest3 x y z 6 - rest3 x y z 4 * rest3 x y z 2), .int (rest3 x y z 0 * rest3 x y z 6 + rest3 x y z 4 * rest3 x y z 2)], .tup [.int (rest3 x y z 0 * rest3 x y z 5 - rest3 x y z 4 * rest3 x y z 1), .int (rest3 x y z 0 * rest3 x y z 5 + rest3 x y z 4 * rest3 x y z 1)], .tup [.int (rest3 x y z 0 * rest3 x y z 3 - rest3 x y z 2 * rest3 x y z 1), .int (rest3 x y z 0 * rest3 x y z 3 + rest3 x y z 2 * rest3 x y z 1)]]), .dat (.tup [rq δ1, rq δ2, rq δ3]), .dat (.tup [rq (x * y), rq (x * z), rq (y * z)]), .no, .no, .no, .no, .no, .no]) (M1 := []) (by simp_arith [nCB, cList, sm3])).trans ?_
  refine (sSeq_nx (Γ1 := [.dat (.lst [rq x, rq y, rq z]), .dat (.lst [.tup [.int (rest3 x y z 0 * rest3 x y z 6), .int (rest3 x y z 4 * rest3 x y z 2)], .tup [.int (rest3 x y z 0 * rest3 x y z 5), .int (rest3 x y z 4 * rest3 x y z 1)], .tup [.int (rest3 x y z 0 * rest3 x y z 3), .int (rest3 x y z 2 * rest3 x y z 1)]]), .dat (.lst [.tup [.int (rest3 x y z 0 * rest3 x y z 6 - rest3 x y z 4 * rest3 x y z 2), .int (rest3 x y z 0 * rest3 x y z 6 + rest3 x y z 4 * rest3 x y z 2)], .tup [.int (rest3 x y z 0 * rest3 x y z 5 - rest3 x y z 4 * rest3 x y z 1), .int (rest3 x y z 0 * rest3 x y z 5 + rest3 x y z 4 * rest3 x y z 1)], .tup [.int (rest3 x y z 0 * rest3 x y z 3 - rest3 x y z 2 * rest3 x y z 1), .int (rest3 x y z 0 * rest3 x y z 3 + rest3 x y z 2 * rest3 x y z 1)]]), .dat (.tup [rq δ1, rq δ2, rq δ3]), .dat (.tup [rq (x * y), rq (x * z), rq (y * z)]), .dat (.lst [.tup [.int (x.num * y.num), .int ((x.den : Int) * y.den)], .tup [.int (x.num * z.num), .int ((x.den : Int) * z.den)], .tup [.int (y.num * z.num), .int ((y.den : Int) * z.den)]]), .no, .no, .no, .no, .no]) (M1 := []) (by simp_arith [lt1, lt2, lt3])).trans ?_
  refine (sSeq_nx (Γ1 := [.dat (.lst [rq x, rq y, rq z]), .dat (.lst [.tup [.int (rest3 x y z 0 * rest3 x y z 6), .int (rest3 x y z 4 * rest3 x y z 2)], .tup [.int (rest3 x y z 0 * rest3 x y z 5), .int (rest3 x y z 4 * rest3 x y z 1)], .tup [.int (rest3 x y z 0 * rest3 x y z 3), .int (rest3 x y z 2 * rest3 x y z 1)]]), .dat (.lst [.tup [.int (rest3 x y z 0 * rest3 x y z 6 - rest3 x y z 4 * rest3 x y z 2), .int (rest3 x y z 0 * rest3 x y z 6 + rest3 x y z 4 * rest3 x y z 2)], .tup [.int (rest3 x y z 0 * rest3 x y z 5 - rest3 x y z 4 * rest3 x y z 1), .int (rest3 x y z 0 * rest3 x y z 5 + rest3 x y z 4 * rest3 x y z 1)], .tup [.int (rest3 x y z 0 * rest3 x y z 3 - rest3 x y z 2 * rest3 x y z 1), .int (rest3 x y z 0 * rest3 x y z 3 + rest3 x y z 2 * rest3 x y z 1)]]), .dat (.tup [rq δ1, rq δ2, rq δ3]), .dat (.tup [rq (x * y), rq (x * z), rq (y * z)]), .dat (.lst [.tup [.int (x.num * y.num), .int ((x.den : Int) * y.den)], .tup [.int (x.num * z.num), .int ((x.den : Int) * z.den)], .tup [.int (y.num * z.num), .int ((y.den : Int) * z.den)]]), .no, .no, .no, .no, .no]) (M1 := []) (by simp_arith [t2, ts, t3])).trans ?_
  refine (sSeq_nx (Γ1 := [.dat (.lst [rq x, rq y, rq z]), .dat (.lst [.tup [.int (rest3 x y z 0 * rest3 x y z 6), .int (rest3 x y z 4 * rest3 x y z 2)], .tup [.int (rest3 x y z 0 * rest3 x y z 5), .int (rest3 x y z 4 * rest3 x y z 1)], .tup [.int (rest3 x y z 0 * rest3 x y z 3), .int (rest3 x y z 2 * rest3 x y z 1)]]), .dat (.lst [.tup [.int (rest3 x y z 0 * rest3 x y z 6 - rest3 x y z 4 * rest3 x y z 2), .int (rest3 x y z 0 * rest3 x y z 6 + rest3 x y z 4 * rest3 x y z 2)], .tup [.int (rest3 x y z 0 * rest3 x y z 5 - rest3 x y z 4 * rest3 x y z 1), .int (rest3 x y z 0 * rest3 x y z 5 + rest3 x y z 4 * rest3 x y z 1)], .tup [.int (rest3 x y z 0 * rest3 x y z 3 - rest3 x y z 2 * rest3 x y z 1), .int (rest3 x y z 0 * rest3 x y z 3 + rest3 x y z 2 * rest3 x y z 1)]]), .dat (.tup [rq δ1, rq δ2, rq δ3]), .dat (.tup [rq (x * y), rq (x * z), rq (y * z)]), .dat (.lst [.tup [.int (x.num * y.num), .int ((x.den : Int) * y.den)], .tup [.int (x.num * z.num), .int ((x.den : Int) * z.den)], .tup [.int (y.num * z.num), .int ((y.den : Int) * z.den)]]), .dat (star4 A x y z), .no, .no, .no, .no]) (M1 := []) (by simp_arith [iArgs, nLc, lcGo, tTrue, wipeG, eMake, makeM, i4])).trans ?_
  refine (sSeq_nx (Γ1 := [.dat (.lst [rq x, rq y, rq z]), .dat (.lst [.tup [.int (rest3 x y z 0 * rest3 x y z 6), .int (rest3 x y z 4 * rest3 x y z 2)], .tup [.int (rest3 x y z 0 * rest3 x y z 5), .int (rest3 x y z 4 * rest3 x y z 1)], .tup [.int (rest3 x y z 0 * rest3 x y z 3), .int (rest3 x y z 2 * rest3 x y z 1)]]), .dat (.lst [.tup [.int (rest3 x y z 0 * rest3 x y z 6 - rest3 x y z 4 * rest3 x y z 2), .int (rest3 x y z 0 * rest3 x y z 6 + rest3 x y z 4 * rest3 x y z 2)], .tup [.int (rest3 x y z 0 * rest3 x y z 5 - rest3 x y z 4 * rest3 x y z 1), .int (rest3 x y z 0 * rest3 x y z 5 + rest3 x y z 4 * rest3 x y z 1)], .tup [.int (rest3 x y z 0 * rest3 x y z 3 - rest3 x y z 2 * rest3 x y z 1), .int (rest3 x y z 0 * rest3 x y z 3 + rest3 x y z 2 * rest3 x y z 1)]]), .dat (.tup [rq δ1, rq δ2, rq δ3]), .dat (.tup [rq (x * y), rq (x * z), rq (y * z)]), .dat (.lst [.tup [.int (x.num * y.num), .int ((x.den : Int) * y.den)], .tup [.int (x.num * z.num), .int ((x.den : Int) * z.den)], .tup [.int (y.num * z.num), .int ((y.den : Int) * z.den)]]), .dat (star4 A x y z), .dat (.tup [.tup [.tup [.int 0, .int 1], rq β1], .tup [.tup [.int 0, .int 2], rq β2], .tup [.tup [.int 1, .int 2], rq β3]]), .no, .no, .no]) (M1 := []) (by simp_arith [eCMeth, so, eMeth, methM, wl1, wl2, lo, sq])).trans ?_
  refine (sSeq_nx (Γ1 := [.dat (.lst [rq x, rq y, rq z]), .dat (.lst [.tup [.int (rest3 x y z 0 * rest3 x y z 6), .int (rest3 x y z 4 * rest3 x y z 2)], .tup [.int (rest3 x y z 0 * rest3 x y z 5), .int (rest3 x y z 4 * rest3 x y z 1)], .tup [.int (rest3 x y z 0 * rest3 x y z 3), .int (rest3 x y z 2 * rest3 x y z 1)]]), .dat (.lst [.tup [.int (rest3 x y z 0 * rest3 x y z 6 - rest3 x y z 4 * rest3 x y z 2), .int (rest3 x y z 0 * rest3 x y z 6 + rest3 x y z 4 * rest3 x y z 2)], .tup [.int (rest3 x y z 0 * rest3 x y z 5 - rest3 x y z 4 * rest3 x y z 1), .int (rest3 x y z 0 * rest3 x y z 5 + rest3 x y z 4 * rest3 x y z 1)], .tup [.int (rest3 x y z 0 * rest3 x y z 3 - rest3 x y z 2 * rest3 x y z 1), .int (rest3 x y z 0 * rest3 x y z 3 + rest3 x y z 2 * rest3 x y z 1)]]), .dat (.tup [rq δ1, rq δ2, rq δ3]), .dat (.tup [rq (x * y), rq (x * z), rq (y * z)]), .dat (.lst [.tup [.int (x.num * y.num), .int ((x.den : Int) * y.den)], .tup [.int (x.num * z.num), .int ((x.den : Int) * z.den)], .tup [.int (y.num * z.num), .int ((y.den : Int) * z.den)]]), .dat (star4 A x y z), .dat (.tup [.tup [.tup [.int 0, .int 1], rq β1], .tup [.tup [.int 0, .int 2], rq β2], .tup [.tup [.int 1, .int 2], rq β3]]), .dat (.int 2), .no, .no]) (M1 := []) (by simp_arith [iArgs, sFor, forL, d1, d2, d3, n1, n2, n3, k1, k2, k3])).trans ?_
  simp_arith [iArgs, nLc, lcGo, tTrue, wipeG, D1, D2, D3, cAll, blsOf]


end

end My
theorem PySem.Challenge.cw_leanwebs_k21_star_triangle_doubles_holds : PySem.Challenge.rw_leanwebs_k21_star_triangle_doubles.Holds := by
  exact end_of fun A ns h => My.law_eq (fun x y z hx hy hz => My.pulls_hold_eq x y z hx hy hz) h
