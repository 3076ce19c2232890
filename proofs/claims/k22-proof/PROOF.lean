import PyProof.Rows.All
import Wide.All
import OpenK.AllK
import Wide.FinOn
import KE.GoesMore
import KE.GoesEnum
import KE.KStateDown
import KE.KDictList
import KE.KExcIs
import Lean
import HandS.Comp
import HandS.Conv
import HandS.Deep
import HandS.Defaults
import HandS.DictComp
import HandS.ExcField
import HandS.ExcInit
import HandS.ExcIs
import HandS.ForExc
import HandS.ForMost
import HandS.Head0
import HandS.Head1
import HandS.Head2
import HandS.HeadEnd
import HandS.HeadHook1
import HandS.HeadHook2
import HandS.IsInst
import HandS.OwnEq
import HandS.SetBool
import HandS.SetFor
import HandS.Sort
import HandS.SortRule
import HandS.Strs
import HandS.Style
import HandS.TryMany
import HandS.TupAny
import HandS.TupMul
import HandS.WideBits
import HandS.Zip
import PyProof.ReprRoads
import PySem.Challenge.RW_onepicture_k22_whole_weavings_shrunk
set_option Elab.async false
set_option linter.all false
set_option maxRecDepth 100000
set_option maxHeartbeats 2000000
/-! # Data as trees over the hand layer: each expression's reading by a plain function. -/
namespace FD
open PySem L2

/-- a value as a tree -/
inductive D where
  | non | bl (b : Bool) | int (i : Int) | str (x : Str) | tup (xs : List D) | lst (xs : List D) | emp | obj (c : Str) (ks : List Str) (ds : List D) | hnd | rng (i j : Int) | scr (ns : List Int) | dct (ks : List Int) (xs : List D)

/-- the drawing hand: the numbers of the script, how many are taken, what is left of a great one, the state, how many draws -/
structure Gh where
  xs : List Int
  i : Int
  c : Int
  r : Int
  n : Int

/-- what lies there -/
def kvO : List Int → List V → List (Key × V)
  | k :: ks, v :: vs => (Sum.inl k, v) :: kvO ks vs
  | _, _ => []
structure DC where
  K : PySem.W.Frag
  mg : Str → Option Value
  ah : Option Addr

mutual
inductive Dn (C : DC) (H : Hp) : V → D → Prop
  | non : Dn C H .non .non
  | bl (b : Bool) : Dn C H (.bl b) (.bl b)
  | int (i : Int) : Dn C H (.int i) (.int i)
  | str (x : Str) : Dn C H (.str x) (.str x)
  | tup {a : Addr} {vs : List V} {ds : List D} : SqT C.K H a vs → Dns C H vs ds → Dn C H (.ref a) (.tup ds)
  | lst {a : Addr} {vs : List V} {ds : List D} : H a = some (.lst vs) → Dns C H vs ds → Dn C H (.ref a) (.lst ds)
  | emp {a : Addr} {kvs : List (Key × V)} : H a = some (.dK kvs) → Dn C H (.ref a) .emp
  | obj {a A dx : Addr} {c : Str} {fs : List (Str × V)} {ks : List Str} {ds : List D} : C.mg c = some (.ref A) → H a = some (.ins A dx fs) → fs.map (·.1) = ks → Dns C H (fs.map (·.2)) ds → Dn C H (.ref a) (.obj c ks ds)
  | hnd {a : Addr} : C.ah = some a → Dn C H (.ref a) .hnd
  | rng {a : Addr} {i j : Int} : H a = some (.rng i j) → Dn C H (.ref a) (.rng i j)
  | scr {a : Addr} {ns : List Int} : SqL C.K H a (ns.map V.int) → Dn C H (.ref a) (.scr ns)
  | dct {a : Addr} {o : Obj} {ks : List Int} {vs : List V} {ds : List D} : H a = some (.frz o (.dK (kvO ks vs))) → ks.length = vs.length → Dns C H vs ds → Dn C H (.ref a) (.dct ks ds)
inductive Dns (C : DC) (H : Hp) : List V → List D → Prop
  | nil : Dns C H [] []
  | cons {v : V} {d : D} {vs : List V} {ds : List D} : Dn C H v d → Dns C H vs ds → Dns C H (v :: vs) (d :: ds)
end

theorem Same.tup {K : PySem.W.Frag} {H H' : Hp} {a : Addr} {xs : List V} (e : Same H H') (h : SqT K H a xs) : SqT K H' a xs := by
  rcases h with (h | ⟨o, h⟩) | h
  · exact .inl (.inl (e _ _ h))
  · exact .inl (.inr ⟨o, e _ _ h⟩)
  · exact .inr h

theorem Same.sql {K : PySem.W.Frag} {H H' : Hp} {a : Addr} {xs : List V} (e : Same H H') (h : SqL K H a xs) : SqL K H' a xs := by
  rcases h with (h | ⟨o, h⟩) | h
  · exact .inl (.inl (e _ _ h))
  · exact .inl (.inr ⟨o, e _ _ h⟩)
  · exact .inr h

mutual
theorem Dn.mono {C : DC} {H H' : Hp} (e : Same H H') : ∀ {v : V} {d : D}, Dn C H v d → Dn C H' v d
  | _, _, .non => .non
  | _, _, .bl b => .bl b
  | _, _, .int i => .int i
  | _, _, .str x => .str x
  | _, _, .tup h hs => .tup (Same.tup e h) (Dns.mono e hs)
  | _, _, .lst h hs => .lst (e _ _ h) (Dns.mono e hs)
  | _, _, .emp h => .emp (e _ _ h)
  | _, _, .obj m h k hs => .obj m (e _ _ h) k (Dns.mono e hs)
  | _, _, .hnd h => .hnd h
  | _, _, .rng h => .rng (e _ _ h)
  | _, _, .scr h => .scr (Same.sql e h)
  | _, _, .dct h l hs => .dct (e _ _ h) l (Dns.mono e hs)
theorem Dns.mono {C : DC} {H H' : Hp} (e : Same H H') : ∀ {vs : List V} {ds : List D}, Dns C H vs ds → Dns C H' vs ds
  | _, _, .nil => .nil
  | _, _, .cons h hs => .cons (Dn.mono e h) (Dns.mono e hs)
end
theorem Dns.length {C : DC} {H : Hp} : ∀ {vs : List V} {ds : List D}, Dns C H vs ds → vs.length = ds.length
  | _, _, .nil => rfl
  | _, _, .cons _ hs => by simp [Dns.length hs]
theorem Dns.append {C : DC} {H : Hp} : ∀ {vs ws : List V} {ds es : List D}, Dns C H vs ds → Dns C H ws es → Dns C H (vs ++ ws) (ds ++ es)
  | _, _, _, _, .nil, k => k
  | _, _, _, _, .cons h hs, k => .cons h (Dns.append hs k)
theorem Dns.get {C : DC} {H : Hp} : ∀ {vs : List V} {ds : List D} {i : Nat} {d : D}, Dns C H vs ds → ds[i]? = some d → ∃ v, vs[i]? = some v ∧ Dn C H v d
  | _, _, _, _, .nil, e => by simp at e
  | _, _, 0, _, .cons h _, e => by simp at e; subst e; exact ⟨_, rfl, h⟩
  | _, _, i + 1, _, .cons _ hs, e => by
    obtain ⟨v, h1, h2⟩ := Dns.get (i := i) hs (by simpa using e)
    exact ⟨v, by simpa using h1, h2⟩
theorem Dns.getV {C : DC} {H : Hp} : ∀ {vs : List V} {ds : List D} {i : Nat} {v : V}, Dns C H vs ds → vs[i]? = some v → ∃ d, ds[i]? = some d ∧ Dn C H v d
  | _, _, _, _, .nil, e => by simp at e
  | _, _, 0, _, .cons h _, e => by simp at e; subst e; exact ⟨_, rfl, h⟩
  | _, _, i + 1, _, .cons _ hs, e => by
    obtain ⟨v, h1, h2⟩ := Dns.getV (i := i) hs (by simpa using e)
    exact ⟨v, by simpa using h1, h2⟩
theorem Dns.drop {C : DC} {H : Hp} : ∀ {vs : List V} {ds : List D} (n : Nat), Dns C H vs ds → Dns C H (vs.drop n) (ds.drop n)
  | _, _, 0, h => h
  | _, _, _ + 1, .nil => .nil
  | _, _, n + 1, .cons _ hs => Dns.drop n hs
theorem Dns.take {C : DC} {H : Hp} : ∀ {vs : List V} {ds : List D} (n : Nat), Dns C H vs ds → Dns C H (vs.take n) (ds.take n)
  | _, _, 0, _ => .nil
  | _, _, _ + 1, .nil => .nil
  | _, _, n + 1, .cons h hs => .cons h (Dns.take n hs)

/-- what a slot holds -/
inductive En where
  | un | dt (d : D) | hold (ks : Option (List Int)) (xs : List D)
/-- a list that one name alone holds -/
abbrev En.own (xs : List D) : En := .hold none xs
/-- a dict by whole numbers that one name alone holds -/
abbrev En.ownd (ks : List Int) (xs : List D) : En := .hold (some ks) xs
def shO (ks : Option (List Int)) (vs : List V) : HO := match ks with
  | none => .lst vs
  | some ks => .dK (kvO ks vs)

/-- a def's frame: what is written, where the hand stands, the heap at the entry, what of it stands for good -/
structure Fx where
  c : DC
  HE : Hp
  SE : Hp

def HandAt (c : DC) (g : Gh) (H S : Hp) : Prop := match c.ah with
  | none => True
  | some a => S a = none ∧ ∃ q, H a = some (.lst [.ref q, .int g.i, .int g.c, .int g.r, .int g.n]) ∧ S q = some (.lst (g.xs.map V.int))

def SlotOk (F : Fx) (H S : Hp) : En → Option V → Prop
  | .un, _ => True
  | .dt d, so => ∃ v, so = some v ∧ Dn F.c S v d
  | .hold ks xs, so => ∃ p vs, so = some (.ref p) ∧ S p = none ∧ F.HE p = none ∧ F.c.ah ≠ some p ∧ H p = some (shO ks vs) ∧ Dns F.c S vs xs

structure Rep (F : Fx) (ρ : List En) (g : Gh) (σ : St) (H S : Hp) : Prop where
  sub : Same S H
  hand : HandAt F.c g H S
  keep : ∀ b o, F.HE b = some o → F.c.ah ≠ some b → H b = some o
  stay : ∀ b, F.HE b ≠ none → F.SE b = none → S b = none
  slots : ∀ (i : Nat) (e : En), ρ[i]? = some e → ∃ so, σ[i]? = some so ∧ SlotOk F H S e so
  apart : ∀ (i j : Nat) (p : Addr) (xs ys : Option (List Int) × List D), ρ[i]? = some (.hold xs.1 xs.2) → ρ[j]? = some (.hold ys.1 ys.2) → σ[i]? = some (some (.ref p)) → σ[j]? = some (some (.ref p)) → i = j

section
variable {F : Fx} {ρ : List En} {g : Gh} {σ : St} {H S : Hp}

theorem Same.upd_new {H : Hp} {p : Addr} {o : HO} (hp : H p = none) : Same H (upd H p o) := fun b u e => by
  rw [upd_ne (ne_of_none e hp)]; exact e
theorem Same.upd_both {S H : Hp} (e : Same S H) (p : Addr) (o : HO) : Same (upd S p o) (upd H p o) := fun b u h => by
  by_cases hb : b = p
  · subst hb; rw [upd_same] at h ⊢; exact h
  · rw [upd_ne hb] at h ⊢; exact e b u h
theorem Rep.hand_some (R : Rep F ρ g σ H S) {a : Addr} (e : F.c.ah = some a) : S a = none ∧ H a ≠ none := by
  have h := R.hand
  unfold HandAt at h
  rw [e] at h
  obtain ⟨h1, q, h2, _⟩ := h
  exact ⟨h1, by rw [h2]; simp⟩
/-- a new address is none of those spoken of -/
theorem Rep.new_HE (R : Rep F ρ g σ H S) {p : Addr} (hp : H p = none) : F.HE p = none := by
  cases e : F.HE p with
  | none => rfl
  | some o =>
    by_cases h : F.c.ah = some p
    · exact absurd hp (R.hand_some h).2
    · rw [R.keep p o e h] at hp; cases hp
theorem Rep.new_ah (R : Rep F ρ g σ H S) {p : Addr} (hp : H p = none) : F.c.ah ≠ some p := fun h => (R.hand_some h).2 hp
theorem HandAt.up {c : DC} {g : Gh} {H S : Hp} {p : Addr} {o : HO} (h : HandAt c g H S) (sub : Same S H) (hp : H p = none) : HandAt c g (upd H p o) (upd S p o) := by
  unfold HandAt at h ⊢
  cases e : c.ah with
  | none => trivial
  | some a =>
    rw [e] at h
    obtain ⟨h1, q, h2, h3⟩ := h
    have ne : a ≠ p := ne_of_none h2 hp
    exact ⟨by rw [upd_ne ne]; exact h1, q, by rw [upd_ne ne]; exact h2, (Same.upd_new (sub.free hp)) _ _ h3⟩
theorem HandAt.up1 {c : DC} {g : Gh} {H S : Hp} {p : Addr} {o : HO} (h : HandAt c g H S) (hp : c.ah ≠ some p) : HandAt c g (upd H p o) S := by
  unfold HandAt at h ⊢
  cases e : c.ah with
  | none => trivial
  | some a =>
    rw [e] at h
    obtain ⟨h1, q, h2, h3⟩ := h
    have ne : a ≠ p := fun z => hp (by rw [e, z])
    exact ⟨h1, q, by rw [upd_ne ne]; exact h2, h3⟩
/-- what is made new stands for good -/
theorem Rep.up (R : Rep F ρ g σ H S) {p : Addr} (o : HO) (hp : H p = none) : Rep F ρ g σ (upd H p o) (upd S p o) where
  sub := Same.upd_both R.sub p o
  hand := R.hand.up R.sub hp
  keep := fun b u e h => by
    have := R.keep b u e h
    rw [upd_ne (ne_of_none this hp)]; exact this
  stay := fun b e h => by
    have ne : b ≠ p := fun z => e (by rw [z]; exact R.new_HE hp)
    rw [upd_ne ne]; exact R.stay b e h
  slots := fun i e h => by
    obtain ⟨so, h1, h2⟩ := R.slots i e h
    refine ⟨so, h1, ?_⟩
    have sm : Same S (upd S p o) := Same.upd_new (R.sub.free hp)
    cases e with
    | un => trivial
    | dt d => obtain ⟨v, e1, e2⟩ := h2; exact ⟨v, e1, e2.mono sm⟩
    | hold ks xs =>
      obtain ⟨q, vs, e1, e2, e3, e4, e5, e6⟩ := h2
      have ne : q ≠ p := ne_of_none e5 hp
      exact ⟨q, vs, e1, by rw [upd_ne ne]; exact e2, e3, e4, by rw [upd_ne ne]; exact e5, e6.mono sm⟩
  apart := R.apart
theorem Rep.tosame (R : Rep F ρ g σ H S) {p : Addr} (o : HO) (hp : H p = none) : Same S (upd S p o) := Same.upd_new (R.sub.free hp)
/-- the slots are forgotten -/
theorem Rep.bare (R : Rep F ρ g σ H S) : Rep F [] g [] H S :=
  ⟨R.sub, R.hand, R.keep, R.stay, fun i e h => by simp at h, fun i j p xs ys h => by simp at h⟩
theorem Rep.forget {ρ' : List En} {σ' : St} (R : Rep F ρ g σ H S) (h : ∀ (i : Nat) (e : En), ρ'[i]? = some e → ∃ so, σ'[i]? = some so ∧ SlotOk F H S e so)
    (ap : ∀ (i j : Nat) (p : Addr) (xs ys : Option (List Int) × List D), ρ'[i]? = some (.hold xs.1 xs.2) → ρ'[j]? = some (.hold ys.1 ys.2) → σ'[i]? = some (some (.ref p)) → σ'[j]? = some (some (.ref p)) → i = j) : Rep F ρ' g σ' H S :=
  ⟨R.sub, R.hand, R.keep, R.stay, h, ap⟩
theorem get_set {α : Type} {l : List α} {i j : Nat} {x y : α} (h : (l.set i x)[j]? = some y) : (i = j ∧ x = y) ∨ (i ≠ j ∧ l[j]? = some y) := by
  rw [List.getElem?_set] at h
  split at h
  · rename_i e
    split at h
    · exact .inl ⟨e, Option.some.inj h⟩
    · cases h
  · rename_i e; exact .inr ⟨e, h⟩
theorem set_get {α : Type} {l : List α} {i j : Nat} {x : α} (h : i ≠ j) : (l.set i x)[j]? = l[j]? := by
  rw [List.getElem?_set, if_neg h]
theorem set_at {α : Type} {l : List α} {i : Nat} {x y : α} (h : l[i]? = some y) : (l.set i x)[i]? = some x := by
  have := (List.getElem?_eq_some_iff.mp h).1
  rw [List.getElem?_set, if_pos rfl, if_pos this]
/-- a name gets a value that stands for good -/
theorem Rep.set (R : Rep F ρ g σ H S) (i : Nat) {v : V} {d : D} (hv : Dn F.c S v d) : Rep F (ρ.set i (.dt d)) g (σ.set i (some v)) H S := by
  refine R.forget (fun j e h => ?_) fun j k p xs ys h1 h2 h3 h4 => ?_
  · rcases get_set h with ⟨rfl, rfl⟩ | ⟨ne, h⟩
    · have hl : i < ρ.length := by
        have := (List.getElem?_eq_some_iff.mp h).1
        simpa using this
      obtain ⟨so, h1, _⟩ := R.slots i (ρ[i]) (List.getElem?_eq_getElem hl)
      exact ⟨some v, set_at h1, v, rfl, hv⟩
    · obtain ⟨so, h1, h2⟩ := R.slots j e h
      exact ⟨so, by rw [set_get ne]; exact h1, h2⟩
  · rcases get_set h1 with ⟨_, z⟩ | ⟨n1, h1⟩
    · cases z
    rcases get_set h2 with ⟨_, z⟩ | ⟨n2, h2⟩
    · cases z
    rw [set_get n1] at h3; rw [set_get n2] at h4
    exact R.apart j k p xs ys h1 h2 h3 h4
/-- a name gets a new list that it alone holds -/
theorem Rep.setHold (R : Rep F ρ g σ H S) (i : Nat) {p : Addr} {kx : Option (List Int)} {vs : List V} {xs : List D} (hp : H p = none) (hs : Dns F.c S vs xs) : Rep F (ρ.set i (.hold kx xs)) g (σ.set i (some (.ref p))) (upd H p (shO kx vs)) S := by
  refine ⟨fun b o e => by rw [upd_ne (ne_of_none (R.sub _ _ e) hp)]; exact R.sub _ _ e, R.hand.up1 (R.new_ah hp), fun b o e h => by rw [upd_ne (ne_of_none (R.keep b o e h) hp)]; exact R.keep b o e h, R.stay, fun j e h => ?_, fun j k q xs' ys' h1 h2 h3 h4 => ?_⟩
  · rcases get_set h with ⟨rfl, rfl⟩ | ⟨ne, h⟩
    · have hl : i < ρ.length := by
        have := (List.getElem?_eq_some_iff.mp h).1
        simpa using this
      obtain ⟨so, h1, _⟩ := R.slots i (ρ[i]) (List.getElem?_eq_getElem hl)
      exact ⟨some (.ref p), set_at h1, p, vs, rfl, R.sub.free hp, R.new_HE hp, R.new_ah hp, upd_same, hs⟩
    · obtain ⟨so, h1, h2⟩ := R.slots j e h
      refine ⟨so, by rw [set_get ne]; exact h1, ?_⟩
      cases e with
      | un => trivial
      | dt d => exact h2
      | hold ks zs =>
        obtain ⟨q, ws, e1, e2, e3, e4, e5, e6⟩ := h2
        exact ⟨q, ws, e1, e2, e3, e4, by rw [upd_ne (ne_of_none e5 hp)]; exact e5, e6⟩
  · have fresh : ∀ (m : Nat) (zs : Option (List Int) × List D), i ≠ m → ρ[m]? = some (.hold zs.1 zs.2) → σ[m]? = some (some (.ref p)) → False := fun m zs _ a b => by
      obtain ⟨so, c1, q, ws, c2, _, _, _, c5, _⟩ := R.slots m _ a
      rw [b] at c1; cases c1
      cases c2
      rw [hp] at c5; cases c5
    rcases get_set h1 with ⟨z1, _⟩ | ⟨n1, h1⟩
    · rcases get_set h2 with ⟨z2, _⟩ | ⟨n2, h2⟩
      · rw [← z1, ← z2]
      · rw [set_get n2] at h4
        subst z1
        rcases get_set h3 with ⟨_, z⟩ | ⟨n, _⟩
        · cases z; exact (fresh k _ n2 h2 h4).elim
        · exact absurd rfl n
    · rw [set_get n1] at h3
      rcases get_set h2 with ⟨z2, _⟩ | ⟨n2, h2⟩
      · subst z2
        rcases get_set h4 with ⟨_, z⟩ | ⟨n, _⟩
        · cases z; exact (fresh j _ n1 h1 h3).elim
        · exact absurd rfl n
      · rw [set_get n2] at h4
        exact R.apart j k q xs' ys' h1 h2 h3 h4
theorem Rep.setOwn (R : Rep F ρ g σ H S) (i : Nat) {p : Addr} {vs : List V} {xs : List D} (hp : H p = none) (hs : Dns F.c S vs xs) : Rep F (ρ.set i (.own xs)) g (σ.set i (some (.ref p))) (upd H p (.lst vs)) S := R.setHold (kx := none) i hp hs
/-- such a list is written -/
theorem Rep.writeHold (R : Rep F ρ g σ H S) {i : Nat} {p : Addr} {kx kz : Option (List Int)} {xs zs : List D} {ws : List V} (hi : ρ[i]? = some (.hold kx xs)) (hσ : σ[i]? = some (some (.ref p))) (hs : Dns F.c S ws zs) : Rep F (ρ.set i (.hold kz zs)) g σ (upd H p (shO kz ws)) S := by
  obtain ⟨so, e0, p', vs, e1, e2, e3, e4, e5, e6⟩ := R.slots i _ hi
  rw [hσ] at e0; cases e0; cases e1
  refine ⟨fun b o e => by rw [upd_ne (ne_of_none e e2)]; exact R.sub _ _ e, R.hand.up1 e4, fun b o e h => by rw [upd_ne (ne_of_none e e3)]; exact R.keep b o e h, R.stay, fun j e h => ?_, fun j k q xs' ys' h1 h2 h3 h4 => ?_⟩
  · rcases get_set h with ⟨rfl, rfl⟩ | ⟨ne, h⟩
    · exact ⟨_, hσ, p, ws, rfl, e2, e3, e4, upd_same, hs⟩
    · obtain ⟨so, h1, h2⟩ := R.slots j e h
      refine ⟨so, h1, ?_⟩
      cases e with
      | un => trivial
      | dt d => exact h2
      | hold ks ys =>
        obtain ⟨q, us, c1, c2, c3, c4, c5, c6⟩ := h2
        have nq : q ≠ p := fun z => by
          subst z; subst c1
          exact ne (R.apart i j q (kx, xs) (ks, ys) hi h hσ h1)
        exact ⟨q, us, c1, c2, c3, c4, by rw [upd_ne nq]; exact c5, c6⟩
  · have at_ : ∀ (m : Nat) (us : Option (List Int) × List D), (ρ.set i (.hold kz zs))[m]? = some (.hold us.1 us.2) → ∃ us' : Option (List Int) × List D, ρ[m]? = some (.hold us'.1 us'.2) := fun m us a => by
      rcases get_set a with ⟨z, _⟩ | ⟨_, a⟩
      · subst z; exact ⟨(kx, xs), hi⟩
      · exact ⟨us, a⟩
    obtain ⟨_, h1⟩ := at_ j _ h1
    obtain ⟨_, h2⟩ := at_ k _ h2
    exact R.apart j k q _ _ h1 h2 h3 h4
theorem Rep.writeOwn (R : Rep F ρ g σ H S) {i : Nat} {p : Addr} {xs zs : List D} {ws : List V} (hi : ρ[i]? = some (.own xs)) (hσ : σ[i]? = some (some (.ref p))) (hs : Dns F.c S ws zs) : Rep F (ρ.set i (.own zs)) g σ (upd H p (.lst ws)) S := R.writeHold (kz := none) hi hσ hs
/-- the list that a name alone holds stands for good from now on -/
theorem Rep.freeze (R : Rep F ρ g σ H S) {i : Nat} {xs : List D} (hi : ρ[i]? = some (.own xs)) : ∃ S', Same S S' ∧ Rep F (ρ.set i (.dt (.lst xs))) g σ H S' := by
  obtain ⟨so, e0, p, vs, e1, e2, e3, e4, e5, e6⟩ := R.slots i _ hi
  subst e1
  have sm : Same S (upd S p (.lst vs)) := Same.upd_new e2
  refine ⟨upd S p (.lst vs), sm, fun b o e => ?_, ?_, R.keep, fun b e h => ?_, fun j e h => ?_, fun j k q xs' ys' h1 h2 h3 h4 => ?_⟩
  · by_cases hb : b = p
    · subst hb; rw [upd_same] at e; cases e; exact e5
    · rw [upd_ne hb] at e; exact R.sub _ _ e
  · have h := R.hand
    unfold HandAt at h ⊢
    cases ea : F.c.ah with
    | none => trivial
    | some a =>
      rw [ea] at h
      obtain ⟨h1, q, h2, h3⟩ := h
      have ne : a ≠ p := fun z => e4 (by rw [ea, z])
      exact ⟨by rw [upd_ne ne]; exact h1, q, h2, sm _ _ h3⟩
  · have ne : b ≠ p := fun z => e (by rw [z]; exact e3)
    rw [upd_ne ne]; exact R.stay b e h
  · rcases get_set h with ⟨rfl, rfl⟩ | ⟨ne, h⟩
    · exact ⟨_, e0, _, rfl, .lst upd_same (e6.mono sm)⟩
    · obtain ⟨so, h1, h2⟩ := R.slots j e h
      refine ⟨so, h1, ?_⟩
      cases e with
      | un => trivial
      | dt d => obtain ⟨v, c1, c2⟩ := h2; exact ⟨v, c1, c2.mono sm⟩
      | hold ks ys =>
        obtain ⟨q, us, c1, c2, c3, c4, c5, c6⟩ := h2
        have nq : q ≠ p := fun z => by
          subst z; subst c1
          exact ne (R.apart i j q (none, xs) (ks, ys) hi h e0 h1)
        exact ⟨q, us, c1, by rw [upd_ne nq]; exact c2, c3, c4, c5, c6.mono sm⟩
  · rcases get_set h1 with ⟨_, z⟩ | ⟨n1, h1⟩
    · cases z
    rcases get_set h2 with ⟨_, z⟩ | ⟨n2, h2⟩
    · cases z
    exact R.apart j k q xs' ys' h1 h2 h3 h4
/-- behind a call -/
theorem Rep.back (R : Rep F ρ g σ H S) {g' : Gh} {H' S' : Hp} (sm : Same S S') (B : Rep ⟨F.c, H, S⟩ [] g' [] H' S') : Rep F ρ g' σ H' S' := by
  refine ⟨B.sub, B.hand, fun b o e h => B.keep b o (R.keep b o e h) h, fun b e h => ?_, fun i e h => ?_, R.apart⟩
  · by_cases ha : F.c.ah = some b
    · exact (B.hand_some ha).1
    · refine B.stay b ?_ (R.stay b e h)
      cases q : F.HE b with
      | none => exact absurd q e
      | some o => show H b ≠ none; rw [R.keep b o q ha]; simp
  · obtain ⟨so, h1, h2⟩ := R.slots i e h
    refine ⟨so, h1, ?_⟩
    cases e with
    | un => trivial
    | dt d => obtain ⟨v, c1, c2⟩ := h2; exact ⟨v, c1, c2.mono sm⟩
    | hold ks ys =>
      obtain ⟨q, us, c1, c2, c3, c4, c5, c6⟩ := h2
      refine ⟨q, us, c1, B.stay q (by show H q ≠ none; rw [c5]; simp) c2, c3, c4, B.keep q _ c5 c4, c6.mono sm⟩
end
end FD
set_option Elab.async false
set_option linter.all false
set_option maxRecDepth 100000
set_option maxHeartbeats 2000000
namespace FD
open PySem L2

inductive Out (α : Type) where
  | ok (a : α) (g : Gh)
  | ex (c : Str) (ks : List Str) (ds : List D) (g : Gh)
abbrev M (α : Type) := Option (Out α)
@[simp] def M.bd {α β : Type} (m : M α) (k : α → Gh → M β) : M β := match m with
  | none => none
  | some (.ok a g) => k a g
  | some (.ex c ks ds g) => some (.ex c ks ds g)
@[simp] def lift {α : Type} (o : Option α) (g : Gh) : M α := match o with
  | none => none
  | some a => some (.ok a g)

abbrev FE := List En → Gh → M D
abbrev FA := List En → Gh → M (List D)
abbrev FT := List En → Gh → M Bool
inductive Fl where
  | nx (ρ : List En) | rt (d : D) | bk (ρ : List En) | ct (ρ : List En)
abbrev FS := List En → Gh → M Fl

/-- how an error lies: its own dict's fields -/
def ExAt (c : DC) (S : Hp) (dd : Option Addr) (ks : List Str) (ds : List D) : Prop :=
  ∃ fs : List (Str × V), (match dd with | some d => S d = some (.xd fs) | none => fs = []) ∧ fs.map (·.1) = ks ∧ Dns c S (fs.map (·.2)) ds
def GotX (F : Fx) (S : Hp) (E : XK) (c : Str) (ks : List Str) (ds : List D) (g : Gh) : Prop :=
  ∀ A dd H' S', F.c.mg c = some (.ref A) → Same S S' → Rep F [] g [] H' S' → ExAt F.c S' dd ks ds → E (.ref A) dd H'
abbrev Rl (β α : Type) := DC → Hp → β → α → Prop
abbrev rB : Rl Bool Bool := fun _ _ b a => b = a
def Got {β α : Type} (rel : Rl β α) (F : Fx) (ρ : List En) (σ : St) (S : Hp) (E : XK) (Q : β → Hp → Prop) : M α → Prop
  | none => False
  | some (.ok a g) => ∀ b H' S', Same S S' → Rep F ρ g σ H' S' → rel F.c S' b a → Q b H'
  | some (.ex c ks ds g) => GotX F S E c ks ds g
theorem GotX.mono {F : Fx} {S S1 : Hp} {E : XK} {c ks ds g} (h : GotX F S E c ks ds g) (sm : Same S S1) : GotX F S1 E c ks ds g :=
  fun A dd H' S' m s R x => h A dd H' S' m (sm.trans s) R x
theorem Got.mono {β α : Type} {rel : Rl β α} {F : Fx} {ρ : List En} {σ : St} {S S1 : Hp} {E : XK} {Q : β → Hp → Prop} {m : M α} (h : Got rel F ρ σ S E Q m) (sm : Same S S1) : Got rel F ρ σ S1 E Q m := by
  cases m with
  | none => exact h
  | some o => cases o with
    | ok a g => exact fun b H' S' s R r => h b H' S' (sm.trans s) R r
    | ex c ks ds g => exact GotX.mono h sm

abbrev TX (β : Type) := St → Hp → (β → Hp → Prop) → Prop
/-- the reading t goes as the function f says -/
structure RG {β α : Type} (rel : Rl β α) (c : DC) (E : St → XK) (t : TX β) (f : List En → Gh → M α) : Prop where
  run : ∀ (F : Fx) (ρ : List En) (g : Gh) (σ : St) (H S : Hp) (Q : β → Hp → Prop), F.c = c → Rep F ρ g σ H S → Got rel F ρ σ S (E σ) Q (f ρ g) → t σ H Q
abbrev RE := @RG V D Dn
abbrev RA := @RG (List V) (List D) Dns
abbrev RT := @RG Bool Bool rB

/-- one after another -/
theorem RG.bind {β α β' α' : Type} {rel : Rl β α} {rel' : Rl β' α'} {c : DC} {E : St → XK} {ta : TX β} {fa : List En → Gh → M α} (ha : RG rel c E ta fa) {r : St → β → Hp → (β' → Hp → Prop) → Prop} {k : List En → α → Gh → M α'}
    (hk : ∀ F ρ g σ H S Q b a, F.c = c → Rep F ρ g σ H S → rel c S b a → Got rel' F ρ σ S (E σ) Q (k ρ a g) → r σ b H Q) : RG rel' c E (fun σ H Q => ta σ H fun b H1 => r σ b H1 Q) (fun ρ g => (fa ρ g).bd (k ρ)) := by
  refine ⟨fun F ρ g σ H S Q e R G => ha.run F ρ g σ H S _ e R ?_⟩
  cases h : fa ρ g with
  | none => simp only [M.bd, h] at G; exact G
  | some o => cases o with
    | ok a g1 =>
      simp only [M.bd, h] at G
      exact fun b H1 S1 sm R1 rl => hk F ρ g1 σ H1 S1 Q b a e R1 (e ▸ rl) (G.mono sm)
    | ex cc ks ds g1 => simp only [M.bd, h] at G; exact G
/-- the same at a place -/
theorem RG.step {β α β' α' : Type} {rel : Rl β α} {rel' : Rl β' α'} {c : DC} {E : St → XK} {t : TX β} {fa : List En → Gh → M α} (ha : RG rel c E t fa) {F : Fx} {ρ : List En} {g : Gh} {σ : St} {H S : Hp} {Q : β' → Hp → Prop} {k : α → Gh → M α'} {r : β → Hp → Prop}
    (e : F.c = c) (R : Rep F ρ g σ H S) (G : Got rel' F ρ σ S (E σ) Q ((fa ρ g).bd k)) (hk : ∀ H1 S1 g1 b a, Same S S1 → Rep F ρ g1 σ H1 S1 → rel c S1 b a → Got rel' F ρ σ S1 (E σ) Q (k a g1) → r b H1) : t σ H r := by
  refine ha.run F ρ g σ H S _ e R ?_
  cases h : fa ρ g with
  | none => simp only [M.bd, h] at G; exact G
  | some o => cases o with
    | ok a g1 =>
      simp only [M.bd, h] at G
      exact fun b H1 S1 sm R1 rl => hk H1 S1 g1 b a sm R1 (e ▸ rl) (G.mono sm)
    | ex cc ks ds g1 => simp only [M.bd, h] at G; exact G
/-- hand back what stands -/
theorem Got.ret {β α : Type} {rel : Rl β α} {F : Fx} {ρ : List En} {σ : St} {H S : Hp} {E : XK} {Q : β → Hp → Prop} {a : α} {g : Gh} {b : β} (G : Got rel F ρ σ S E Q (some (.ok a g))) (R : Rep F ρ g σ H S) (h : rel F.c S b a) : Q b H := G b H S (Same.refl S) R h
theorem Got.new {F : Fx} {ρ : List En} {σ : St} {H S : Hp} {E : XK} {Q : VK} {d : D} {g : Gh} {p : Addr} {o : HO} (G : Got Dn F ρ σ S E Q (some (.ok d g))) (R : Rep F ρ g σ H S) (hp : H p = none) (h : Dn F.c (upd S p o) (.ref p) d) : Q (.ref p) (upd H p o) :=
  G (.ref p) _ _ (R.tosame o hp) (R.up o hp) h

section
variable {X : Cx} {ah : Option Addr} {E : St → XK}
abbrev dc (X : Cx) (ah : Option Addr) : DC := ⟨X.K, X.mg, ah⟩
/-- an expression goes as f -/
def PF (X : Cx) (ah : Option Addr) (E : St → XK) (e : Expr) (f : FE) : Prop := ∃ t, PE X e t ∧ RE (dc X ah) E t f
def PFA (X : Cx) (ah : Option Addr) (E : St → XK) (es : List Expr) (f : FA) : Prop := ∃ t, PA X es t ∧ RA (dc X ah) E t f
def PFT (X : Cx) (ah : Option Addr) (E : St → XK) (e : Expr) (f : FT) : Prop := ∃ t, PT X e t ∧ RT (dc X ah) E t f
def PFW (X : Cx) (ah : Option Addr) (E : St → XK) (e : Expr) (f : FT) : Prop := ∃ t, PW X e t ∧ RT (dc X ah) E t f

/-! ### names and constants -/
@[simp] def cV (i : Nat) : FE := fun ρ g => match ρ[i]? with
  | some (.dt d) => some (.ok d g)
  | _ => none
@[simp] def cD (d : D) : FE := fun _ g => some (.ok d g)
theorem re_var (c : DC) (i : Nat) : RE c E (tVar i) (cV i) := by
  refine ⟨fun F ρ g σ H S Q e R G => ?_⟩
  simp only [cV] at G
  cases h : ρ[i]? with
  | none => rw [h] at G; exact G.elim
  | some en => cases en with
    | dt d =>
      rw [h] at G
      obtain ⟨so, h1, v, rfl, hv⟩ := R.slots i _ h
      exact ⟨v, h1, G.ret R hv⟩
    | un => rw [h] at G; exact G.elim
    | hold ks xs => rw [h] at G; exact G.elim
theorem pf_v (i : Nat) {x : Str} {pos : Pos} (hN : X.N[i]? = some x := by rfl) (hv : Vis X.env.scope x := by first | exact Or.inl rfl | exact Or.inr (Or.inl rfl) | exact Or.inr (Or.inr rfl)) (hd : (x == ("__debug__" : Str)) = false := by decide)
    (hcd : (x == ("__classdict__" : Str)) = false := by decide) : PF X ah E (.Name x pos) (cV i) := ⟨_, pe_var hN hv hd hcd, re_var _ i⟩
theorem re_c {c : DC} {v : V} {d : D} (h : ∀ S, Dn c S v d) : RE c E (tC v) (cD d) := ⟨fun F ρ g σ H S Q e R G => G.ret R (e ▸ h S)⟩
theorem pf_int {i j pos} : PF X ah E (.Constant (.int i) j pos) (cD (.int i)) := ⟨_, pe_int, re_c fun _ => .int i⟩
theorem pf_bl {b j pos} : PF X ah E (.Constant (.bool b) j pos) (cD (.bl b)) := ⟨_, pe_bl, re_c fun _ => .bl b⟩
theorem pf_non {j pos} : PF X ah E (.Constant .none j pos) (cD .non) := ⟨_, pe_non, re_c fun _ => .non⟩
theorem pf_str {x j pos} : PF X ah E (.Constant (.str x) j pos) (cD (.str x)) := ⟨_, pe_str, re_c fun _ => .str x⟩
/-- a module's constant -/
theorem pf_glob {x : Str} {v : V} {u : Value} {d : D} {pos : Pos} (hg : Gl X x) (hm : X.mg x = some u) (r : RelV v u) (h : ∀ S, Dn (dc X ah) S v d) (hd : (x == ("__debug__" : Str)) = false := by decide) : PF X ah E (.Name x pos) (cD d) :=
  ⟨_, pe_glob hg hm r hd, re_c h⟩

/-! ### arguments -/
@[simp] def cN : FA := fun _ g => some (.ok [] g)
@[simp] def cC (a : FE) (b : FA) : FA := fun ρ g => (a ρ g).bd fun x g1 => (b ρ g1).bd fun xs g2 => some (.ok (x :: xs) g2)
theorem pfa_nil : PFA X ah E [] cN := ⟨_, pa_nil, ⟨fun F ρ g σ H S Q e R G => G.ret (b := []) R .nil⟩⟩
theorem ra_cons {c : DC} {te : TE} {t : TA} {a : FE} {b : FA} (ha : RE c E te a) (hb : RA c E t b) : RA c E (tCons te t) (cC a b) := by
  refine RG.bind (r := fun σ x H1 Q => t σ H1 fun xs H2 => Q (x :: xs) H2) (k := fun ρ x g1 => (b ρ g1).bd fun xs g2 => some (.ok (x :: xs) g2)) ha fun F ρ g σ H S Q x d e R hx G => ?_
  refine hb.run F ρ g σ H S _ e R ?_
  cases h : b ρ g with
  | none => simp only [M.bd, h] at G; exact G
  | some o => cases o with
    | ex cc ks ds g1 => simp only [M.bd, h] at G; exact G
    | ok ds g1 =>
      simp only [M.bd, h] at G
      exact fun vs H1 S1 sm R1 hv => G (x :: vs) H1 S1 sm R1 (.cons (e ▸ (hx.mono sm)) hv)
theorem pfa_cons {e : Expr} {es : List Expr} {a : FE} {b : FA} (ha : PF X ah E e a) (hb : PFA X ah E es b) (hs : starEach (e :: es) X.env = (false, eval e X.env) :: starEach es X.env := by rfl) : PFA X ah E (e :: es) (cC a b) := by
  obtain ⟨t, p, r⟩ := ha
  obtain ⟨u, q, s⟩ := hb
  exact ⟨_, pa_cons p q hs, ra_cons r s⟩

/-! ### displays -/
@[simp] def cTup (a : FA) : FE := fun ρ g => (a ρ g).bd fun xs g1 => if xs.length ≤ 1000 then some (.ok (.tup xs) g1) else none
@[simp] def cLst (a : FA) : FE := fun ρ g => (a ρ g).bd fun xs g1 => if xs.length ≤ 1000 then some (.ok (.lst xs) g1) else none
theorem line_of {n : Nat} (h : n ≤ 1000) : n ≤ sizeLine := Nat.le_of_lt (small1000 h)
theorem pf_tup {es : List Expr} {a : FA} {x1 pos} (ha : PFA X ah E es a) : PF X ah E (.Tuple es x1 pos) (cTup a) := by
  obtain ⟨t, p, r⟩ := ha
  refine ⟨_, pe_tup p, ?_⟩
  refine RG.bind (r := fun σ (xs : List V) H1 (Q : VK) => xs.length ≤ sizeLine ∧ ∀ p, H1 p = none → Q (.ref p) (upd H1 p (.tup xs))) (k := fun ρ (xs : List D) g1 => if xs.length ≤ 1000 then some (.ok (D.tup xs) g1) else none) r fun F ρ g σ H S Q vs ds e R hx G => ?_
  split at G
  · rename_i hl
    refine ⟨by rw [hx.length]; exact line_of hl, fun p hp => G.new R hp ?_⟩
    exact .tup (SqT.of upd_same) (e ▸ (hx.mono (R.tosame _ hp)))
  · exact G.elim
theorem pf_lst {es : List Expr} {a : FA} {pos} (ha : PFA X ah E es a) : PF X ah E (.List es pos) (cLst a) := by
  obtain ⟨t, p, r⟩ := ha
  refine ⟨_, pe_lst p, ?_⟩
  refine RG.bind (r := fun σ (xs : List V) H1 (Q : VK) => xs.length ≤ sizeLine ∧ ∀ p, H1 p = none → Q (.ref p) (upd H1 p (.lst xs))) (k := fun ρ (xs : List D) g1 => if xs.length ≤ 1000 then some (.ok (D.lst xs) g1) else none) r fun F ρ g σ H S Q vs ds e R hx G => ?_
  split at G
  · rename_i hl
    refine ⟨by rw [hx.length]; exact line_of hl, fun p hp => G.new R hp ?_⟩
    exact .lst upd_same (e ▸ (hx.mono (R.tosame _ hp)))
  · exact G.elim
/-- {} -/
theorem pf_emp {pos} : PF X ah E (.Dict [] [] pos) (cD .emp) := ⟨_, pe_dnewK, ⟨fun F ρ g σ H S Q e R G => fun p hp => G.new R hp (.emp upd_same)⟩⟩

/-- {k: x}, x a name -/
@[simp] def c1E (a : FE) : FE := fun ρ g => (a ρ g).bd fun _ g1 => some (.ok .emp g1)
theorem pf_dict1 {k : Int} {x : Str} {kj : Nat} {kp vp pos : Pos} (i : Nat) (hN : X.N[i]? = some x := by rfl) (hv : Vis X.env.scope x := by first | exact Or.inl rfl | exact Or.inr (Or.inl rfl) | exact Or.inr (Or.inr rfl)) (hd : (x == ("__debug__" : Str)) = false := by decide)
    (hcd : (x == ("__classdict__" : Str)) = false := by decide) : PF X ah E (.Dict [some (.Constant (.int k) kj kp)] [.Name x vp] pos) (c1E (cV i)) := by
  refine ⟨_, pe_disp (pps_cons pe_int (pe_var hN hv hd hcd) pps_nil) rfl rfl (by simp) (by simp), ⟨fun F ρ g σ H S Q e R G => ?_⟩⟩
  simp only [c1E, cV] at G
  cases h : ρ[i]? with
  | none => rw [h] at G; exact G.elim
  | some en => cases en with
    | dt d =>
      rw [h] at G
      obtain ⟨so, h1, v, rfl, hv⟩ := R.slots i _ h
      refine fun p hp => ?_
      refine ⟨v, h1, upd_same, [(Sum.inl k, v)], rfl, by simp, ?_⟩
      rw [upd_upd]
      exact G.new R hp (.emp upd_same)
    | un => rw [h] at G; exact G.elim
    | hold ks xs => rw [h] at G; exact G.elim

/-! ### operators of two values -/
/-- the rule r holds where op tells the value -/
def OpS (c : DC) (r : R2) (op : D → D → Option D) : Prop :=
  ∀ (E : XK) F ρ g σ H S Q x y dx dy, F.c = c → Rep F ρ g σ H S → Dn c S x dx → Dn c S y dy → Got Dn F ρ σ S E Q (lift (op dx dy) g) → r x y H Q
@[simp] def cOp (op : D → D → Option D) (a b : FE) : FE := fun ρ g => (a ρ g).bd fun x g1 => (b ρ g1).bd fun y g2 => lift (op x y) g2
theorem re_op {c : DC} {r : R2} {op : D → D → Option D} {ta tb : TE} {a b : FE} (ho : OpS c r op) (ha : RE c E ta a) (hb : RE c E tb b) : RE c E (tOp r ta tb) (cOp op a b) := by
  refine RG.bind (r := fun σ x H1 Q => tb σ H1 fun y H2 => r x y H2 Q) (k := fun ρ x g1 => (b ρ g1).bd fun y g2 => lift (op x y) g2) ha fun F ρ g σ H S Q x d e R hx G => ?_
  refine hb.run F ρ g σ H S _ e R ?_
  cases h : b ρ g with
  | none => simp only [M.bd, h] at G; exact G
  | some o => cases o with
    | ex cc ks ds g1 => simp only [M.bd, h] at G; exact G
    | ok dy g1 =>
      simp only [M.bd, h] at G
      exact fun y H1 S1 sm R1 hv => ho (E σ) F ρ g1 σ H1 S1 Q x y d dy e R1 (hx.mono sm) (e ▸ hv) (Got.mono G sm)
theorem pf_bin {o : Operator} {r : R2} {op : D → D → Option D} {e1 e2 : Expr} {a b : FE} {pos} (hr : OpR X (binaryOp o) r) (ho : OpS (dc X ah) r op) (ha : PF X ah E e1 a) (hb : PF X ah E e2 b) : PF X ah E (.BinOp e1 o e2 pos) (cOp op a b) := by
  obtain ⟨t, p, r1⟩ := ha
  obtain ⟨u, q, r2⟩ := hb
  exact ⟨_, pe_op hr p q, re_op ho r1 r2⟩
theorem pf_cmp {o : CmpOp} {r : R2} {op : D → D → Option D} {e1 e2 : Expr} {a b : FE} {pos} (hr : OpR X (compareOp o) r) (ho : OpS (dc X ah) r op) (ha : PF X ah E e1 a) (hb : PF X ah E e2 b) (hm : behindInMarks o e2 = false) : PF X ah E (.Compare e1 [o] [e2] pos) (cOp op a b) := by
  obtain ⟨t, p, r1⟩ := ha
  obtain ⟨u, q, r2⟩ := hb
  exact ⟨_, pe_cmpR hr p q hm, re_op ho r1 r2⟩
theorem pf_ix {r : R2} {op : D → D → Option D} {e1 e2 : Expr} {a b : FE} {pos} (hr : IxR X r) (ho : OpS (dc X ah) r op) (ha : PF X ah E e1 a) (hb : PF X ah E e2 b) (hs : PlainIx e2) : PF X ah E (.Subscript e1 e2 pos) (cOp op a b) := by
  obtain ⟨t, p, r1⟩ := ha
  obtain ⟨u, q, r2⟩ := hb
  exact ⟨_, pe_ix hr p q hs, re_op ho r1 r2⟩

/-! ### tests -/
@[simp] def toB : D → Option Bool
  | .bl b => some b
  | _ => none
/-- an expression that is a flag, as a test -/
@[simp] def cT (a : FE) : FT := fun ρ g => (a ρ g).bd fun x g1 => lift (toB x) g1
theorem rt_of {c : DC} {t : TE} {a : FE} (ha : RE c E t a) : RT c E (tTest t) (cT a) := by
  refine RG.bind (r := fun σ x H1 (Q : Bool → Hp → Prop) => ∃ k, x = .bl k ∧ Q k H1) (k := fun ρ x g1 => lift (toB x) g1) ha fun F ρ g σ H S Q x d e R hx G => ?_
  cases hx <;> simp only [toB, lift] at G <;> first | exact G.elim | exact ⟨_, rfl, G.ret R rfl⟩
theorem pft_cmp {o : CmpOp} {r : R2} {op : D → D → Option D} {e1 e2 : Expr} {a b : FE} {pos} (hr : OpR X (compareOp o) r) (ho : OpS (dc X ah) r op) (ha : PF X ah E e1 a) (hb : PF X ah E e2 b) (hm : behindInMarks o e2 = false) : PFT X ah E (.Compare e1 [o] [e2] pos) (cT (cOp op a b)) := by
  obtain ⟨t, p, r1⟩ := ha
  obtain ⟨u, q, r2⟩ := hb
  exact ⟨_, pt_cmpR hr p q hm, rt_of (re_op ho r1 r2)⟩
theorem pft_val {e : Expr} {a : FE} (ha : PF X ah E e a) (he : ∀ whole, isTrue e X.env whole = (do let v ← whole; standAt e.pos; holding [v] (truthy v)) := by intro _; rfl) : PFT X ah E e (cT a) := by
  obtain ⟨t, p, r⟩ := ha
  exact ⟨_, pt_val p he, rt_of r⟩
@[simp] def cAnd (a b : FT) : FT := fun ρ g => (a ρ g).bd fun x g1 => if x = true then b ρ g1 else some (.ok false g1)
@[simp] def cOr (a b : FT) : FT := fun ρ g => (a ρ g).bd fun x g1 => if x = true then some (.ok true g1) else b ρ g1
@[simp] def cNot (a : FT) : FT := fun ρ g => (a ρ g).bd fun x g1 => some (.ok (!x) g1)
theorem pfw_and1 {e : Expr} {a : FT} {pos} (ha : PFT X ah E e a) : PFW X ah E (.BoolOp .And [e] pos) a := by
  obtain ⟨t, p, r⟩ := ha
  exact ⟨_, pw_and1 p, r⟩
theorem pfw_or1 {e : Expr} {a : FT} {pos} (ha : PFT X ah E e a) : PFW X ah E (.BoolOp .Or [e] pos) a := by
  obtain ⟨t, p, r⟩ := ha
  exact ⟨_, pw_or1 p, r⟩
theorem pfw_and {e b : Expr} {rest : List Expr} {f k : FT} {pos} (ha : PFT X ah E e f) (hb : PFW X ah E (.BoolOp .And (b :: rest) pos) k) : PFW X ah E (.BoolOp .And (e :: b :: rest) pos) (cAnd f k) := by
  obtain ⟨t, p, r⟩ := ha
  obtain ⟨u, q, s⟩ := hb
  refine ⟨_, pw_and p q, ?_⟩
  refine RG.bind (r := fun σ (x : Bool) H1 Q => if x = true then u σ H1 Q else Q false H1) (k := fun ρ (x : Bool) g1 => if x = true then k ρ g1 else some (.ok false g1)) r fun F ρ g σ H S Q x d e R hx G => ?_
  cases hx
  cases x with
  | true => exact s.run F ρ g σ H S Q e R G
  | false => exact G.ret R rfl
theorem pfw_or {e b : Expr} {rest : List Expr} {f k : FT} {pos} (ha : PFT X ah E e f) (hb : PFW X ah E (.BoolOp .Or (b :: rest) pos) k) : PFW X ah E (.BoolOp .Or (e :: b :: rest) pos) (cOr f k) := by
  obtain ⟨t, p, r⟩ := ha
  obtain ⟨u, q, s⟩ := hb
  refine ⟨_, pw_or p q, ?_⟩
  refine RG.bind (r := fun σ (x : Bool) H1 Q => if x = true then Q true H1 else u σ H1 Q) (k := fun ρ (x : Bool) g1 => if x = true then some (.ok true g1) else k ρ g1) r fun F ρ g σ H S Q x d e R hx G => ?_
  cases hx
  cases x with
  | true => exact G.ret R rfl
  | false => exact s.run F ρ g σ H S Q e R G
theorem pft_w {e : Expr} {f : FT} (h : PFW X ah E e f) : PFT X ah E e f := by
  obtain ⟨t, p, r⟩ := h
  exact ⟨_, p.pt, r⟩
theorem pft_not {e : Expr} {f : FT} {pos} (ha : PFT X ah E e f) : PFT X ah E (.UnaryOp .Not e pos) (cNot f) := by
  obtain ⟨t, p, r⟩ := ha
  refine ⟨_, pt_not p, ?_⟩
  refine RG.bind (r := fun σ x H1 (Q : Bool → Hp → Prop) => Q (!x) H1) (k := fun ρ x g1 => some (.ok (!x) g1)) r fun F ρ g σ H S Q x d e R hx G => ?_
  cases hx
  exact G.ret R rfl
/-! as values -/
@[simp] def cAndV (a b : FE) : FE := fun ρ g => (a ρ g).bd fun x g1 => match x with
  | .bl true => b ρ g1
  | .bl false => some (.ok (.bl false) g1)
  | _ => none
@[simp] def cOrV (a b : FE) : FE := fun ρ g => (a ρ g).bd fun x g1 => match x with
  | .bl false => b ρ g1
  | .bl true => some (.ok (.bl true) g1)
  | _ => none
@[simp] def nB : D → Option D
  | .bl b => some (.bl (!b))
  | _ => none
@[simp] def c1 (op : D → Option D) (a : FE) : FE := fun ρ g => (a ρ g).bd fun x g1 => lift (op x) g1
theorem pf_one {e : Expr} {op} {a : FE} {pos} (ha : PF X ah E e a) : PF X ah E (.BoolOp op [e] pos) a := by
  obtain ⟨t, p, r⟩ := ha
  exact ⟨_, pe_one p, r⟩
theorem pf_and {e b : Expr} {rest : List Expr} {f k : FE} {pos} (ha : PF X ah E e f) (hb : PF X ah E (.BoolOp .And (b :: rest) pos) k) : PF X ah E (.BoolOp .And (e :: b :: rest) pos) (cAndV f k) := by
  obtain ⟨t, p, r⟩ := ha
  obtain ⟨u, q, s⟩ := hb
  refine ⟨_, pe_and p q, ?_⟩
  refine RG.bind (r := fun σ x H1 (Q : VK) => ∃ c, x = .bl c ∧ if c = true then u σ H1 Q else Q (.bl false) H1) (k := fun ρ x g1 => match x with
  | .bl true => k ρ g1
  | .bl false => some (.ok (.bl false) g1)
  | _ => none) r fun F ρ g σ H S Q x d e R hx G => ?_
  cases hx <;> first | exact G.elim | skip
  rename_i b
  cases b with
  | true => exact ⟨true, rfl, s.run F ρ g σ H S Q e R G⟩
  | false => exact ⟨false, rfl, G.ret R (.bl false)⟩
theorem pf_or {e b : Expr} {rest : List Expr} {f k : FE} {pos} (ha : PF X ah E e f) (hb : PF X ah E (.BoolOp .Or (b :: rest) pos) k) : PF X ah E (.BoolOp .Or (e :: b :: rest) pos) (cOrV f k) := by
  obtain ⟨t, p, r⟩ := ha
  obtain ⟨u, q, s⟩ := hb
  refine ⟨_, pe_or p q, ?_⟩
  refine RG.bind (r := fun σ x H1 (Q : VK) => ∃ c, x = .bl c ∧ if c = true then Q (.bl true) H1 else u σ H1 Q) (k := fun ρ x g1 => match x with
  | .bl false => k ρ g1
  | .bl true => some (.ok (.bl true) g1)
  | _ => none) r fun F ρ g σ H S Q x d e R hx G => ?_
  cases hx <;> first | exact G.elim | skip
  rename_i b
  cases b with
  | false => exact ⟨false, rfl, s.run F ρ g σ H S Q e R G⟩
  | true => exact ⟨true, rfl, G.ret R (.bl true)⟩
theorem pf_not {e : Expr} {f : FE} {pos} (ha : PF X ah E e f) : PF X ah E (.UnaryOp .Not e pos) (c1 nB f) := by
  obtain ⟨t, p, r⟩ := ha
  refine ⟨_, pe_not p, ?_⟩
  refine RG.bind (r := fun σ x H1 (Q : VK) => ∃ c, x = .bl c ∧ Q (.bl (!c)) H1) (k := fun ρ x g1 => lift (nB x) g1) r fun F ρ g σ H S Q x d e R hx G => ?_
  cases hx <;> simp only [nB, lift] at G <;> first | exact G.elim | exact ⟨_, rfl, G.ret R (.bl _)⟩
@[simp] def cIfE (c : FT) (a b : FE) : FE := fun ρ g => (c ρ g).bd fun x g1 => if x = true then a ρ g1 else b ρ g1
theorem pf_ifE {c a b : Expr} {fc : FT} {fa fb : FE} {pos} (hc : PFT X ah E c fc) (ha : PF X ah E a fa) (hb : PF X ah E b fb) : PF X ah E (.IfExp c a b pos) (cIfE fc fa fb) := by
  obtain ⟨t, p, r⟩ := hc
  obtain ⟨u, q, s⟩ := ha
  obtain ⟨v, q', s'⟩ := hb
  refine ⟨_, pe_ifExp p q q', ?_⟩
  refine RG.bind (r := fun σ (x : Bool) H1 Q => if x = true then u σ H1 Q else v σ H1 Q) (k := fun ρ (x : Bool) g1 => if x = true then fa ρ g1 else fb ρ g1) r fun F ρ g σ H S Q x d e R hx G => ?_
  cases hx
  cases x with
  | true => exact s.run F ρ g σ H S Q e R G
  | false => exact s'.run F ρ g σ H S Q e R G

/-! ### statements -/
end
section
variable {X : Cx} {ah : Option Addr} {E : XK}
def GotS (F : Fx) (S : Hp) (E : XK) (Z : Ends) : M Fl → Prop
  | none => False
  | some (.ok (.nx ρ) g) => ∀ σ' H' S', Same S S' → Rep F ρ g σ' H' S' → Z.nx σ' H'
  | some (.ok (.bk ρ) g) => ∀ σ' H' S', Same S S' → Rep F ρ g σ' H' S' → Z.bk σ' H'
  | some (.ok (.ct ρ) g) => ∀ σ' H' S', Same S S' → Rep F ρ g σ' H' S' → Z.ct σ' H'
  | some (.ok (.rt d) g) => ∀ v H' S', Same S S' → Rep F [] g [] H' S' → Dn F.c S' v d → Z.rt v H'
  | some (.ex c ks ds g) => GotX F S E c ks ds g
theorem GotS.mono {F : Fx} {S S1 : Hp} {E : XK} {Z : Ends} {m : M Fl} (h : GotS F S E Z m) (sm : Same S S1) : GotS F S1 E Z m := by
  cases m with
  | none => exact h
  | some o => cases o with
    | ok a g => cases a with
      | nx ρ => exact fun b H' S' s R => h b H' S' (sm.trans s) R
      | bk ρ => exact fun b H' S' s R => h b H' S' (sm.trans s) R
      | ct ρ => exact fun b H' S' s R => h b H' S' (sm.trans s) R
      | rt d => exact fun b H' S' s R r => h b H' S' (sm.trans s) R r
    | ex c ks ds g => exact GotX.mono h sm
structure RS (c : DC) (E : XK) (t : TS) (f : FS) : Prop where
  run : ∀ (F : Fx) (ρ : List En) (g : Gh) (σ : St) (H S : Hp) (Z : Ends), F.c = c → Rep F ρ g σ H S → GotS F S E Z (f ρ g) → t Z σ H
def PFS (X : Cx) (ah : Option Addr) (E : XK) (s : Stmt) (f : FS) : Prop := ∃ t, PS X s t ∧ RS (dc X ah) E t f
def PFSs (X : Cx) (ah : Option Addr) (E : XK) (s : List Stmt) (f : FS) : Prop := ∃ t, PSs X s t ∧ RS (dc X ah) E t f
theorem RG.stepS {β α : Type} {rel : Rl β α} {c : DC} {E : XK} {t : TX β} {fa : List En → Gh → M α} (ha : RG rel c (fun _ => E) t fa) {F : Fx} {ρ : List En} {g : Gh} {σ : St} {H S : Hp} {Z : Ends} {k : α → Gh → M Fl} {r : β → Hp → Prop}
    (e : F.c = c) (R : Rep F ρ g σ H S) (G : GotS F S E Z ((fa ρ g).bd k)) (hk : ∀ H1 S1 g1 b a, Same S S1 → Rep F ρ g1 σ H1 S1 → rel c S1 b a → GotS F S1 E Z (k a g1) → r b H1) : t σ H r := by
  refine ha.run F ρ g σ H S _ e R ?_
  cases h : fa ρ g with
  | none => simp only [M.bd, h] at G; exact G
  | some o => cases o with
    | ok a g1 =>
      simp only [M.bd, h] at G
      exact fun b H1 S1 sm R1 rl => hk H1 S1 g1 b a sm R1 (e ▸ rl) (G.mono sm)
    | ex cc ks ds g1 => simp only [M.bd, h] at G; exact G
/-- an expression, then a statement's rest -/
theorem RS.bind {β α : Type} {rel : Rl β α} {c : DC} {ta : TX β} {fa : List En → Gh → M α} (ha : RG rel c (fun _ => E) ta fa) {r : Ends → St → β → Hp → Prop} {k : List En → α → Gh → M Fl}
    (hk : ∀ F ρ g σ H S Z b a, F.c = c → Rep F ρ g σ H S → rel c S b a → GotS F S E Z (k ρ a g) → r Z σ b H) : RS c E (fun Z σ H => ta σ H fun b H1 => r Z σ b H1) (fun ρ g => (fa ρ g).bd (k ρ)) := by
  refine ⟨fun F ρ g σ H S Z e R G => ha.run F ρ g σ H S _ e R ?_⟩
  cases h : fa ρ g with
  | none => simp only [M.bd, h] at G; exact G
  | some o => cases o with
    | ok a g1 =>
      simp only [M.bd, h] at G
      exact fun b H1 S1 sm R1 rl => hk F ρ g1 σ H1 S1 Z b a e R1 (e ▸ rl) (G.mono sm)
    | ex cc ks ds g1 => simp only [M.bd, h] at G; exact G
@[simp] def sNx : FS := fun ρ g => some (.ok (.nx ρ) g)
@[simp] def sBk : FS := fun ρ g => some (.ok (.bk ρ) g)
@[simp] def sCt : FS := fun ρ g => some (.ok (.ct ρ) g)
def sSeq (a b : FS) : FS := fun ρ g => match a ρ g with
  | none => none
  | some (.ok (.nx ρ1) g1) => b ρ1 g1
  | some (.ok (.bk ρ1) g1) => some (.ok (.bk ρ1) g1)
  | some (.ok (.ct ρ1) g1) => some (.ok (.ct ρ1) g1)
  | some (.ok (.rt d) g1) => some (.ok (.rt d) g1)
  | some (.ex c ks ds g1) => some (.ex c ks ds g1)
theorem rs_nx {c : DC} : RS c E tNext sNx := ⟨fun F ρ g σ H S Z e R G => G σ H S (Same.refl S) R⟩
theorem pfss_nil : PFSs X ah E [] sNx := ⟨_, pss_nil, rs_nx⟩
theorem rs_seq {c : DC} {t u : TS} {a b : FS} (ha : RS c E t a) (hb : RS c E u b) : RS c E (tSeq t u) (sSeq a b) := by
  refine ⟨fun F ρ g σ H S Z e R G => ha.run F ρ g σ H S _ e R ?_⟩
  unfold sSeq at G
  cases h : a ρ g with
  | none => rw [h] at G; exact G
  | some o => cases o with
    | ok f g1 => cases f with
      | nx ρ1 => rw [h] at G; exact fun σ' H' S' sm R' => hb.run F ρ1 g1 σ' H' S' Z e R' (G.mono sm)
      | bk ρ1 => rw [h] at G; exact G
      | ct ρ1 => rw [h] at G; exact G
      | rt d => rw [h] at G; exact G
    | ex cc ks ds g1 => rw [h] at G; exact G
theorem pfss_cons {s : Stmt} {rest : List Stmt} {a b : FS} (ha : PFS X ah E s a) (hb : PFSs X ah E rest b) : PFSs X ah E (s :: rest) (sSeq a b) := by
  obtain ⟨t, p, r⟩ := ha
  obtain ⟨u, q, s⟩ := hb
  exact ⟨_, pss_cons p q, rs_seq r s⟩
theorem pfss_one {s : Stmt} {a : FS} (ha : PFS X ah E s a) : PFSs X ah E [s] a := by
  obtain ⟨t, p, r⟩ := ha
  exact ⟨_, pss_one p, r⟩
theorem pfs_pass {pos} : PFS X ah E (.Pass pos) sNx := ⟨_, ps_pass, rs_nx⟩
theorem pfs_doc {x j pos pos'} : PFS X ah E (.Expr (.Constant (.str x) j pos) pos') sNx := ⟨_, ps_doc, rs_nx⟩
theorem pfs_break {pos} : PFS X ah E (.Break pos) sBk := ⟨_, ps_break, ⟨fun F ρ g σ H S Z e R G => G σ H S (Same.refl S) R⟩⟩
theorem pfs_continue {pos} : PFS X ah E (.Continue pos) sCt := ⟨_, ps_continue, ⟨fun F ρ g σ H S Z e R G => G σ H S (Same.refl S) R⟩⟩
@[simp] def sRet (a : FE) : FS := fun ρ g => (a ρ g).bd fun x g1 => some (.ok (.rt x) g1)
theorem pfs_ret {e : Expr} {a : FE} {pos} (ha : PF X ah (fun _ => E) e a) : PFS X ah E (.Return (some e) pos) (sRet a) := by
  obtain ⟨t, p, r⟩ := ha
  refine ⟨_, ps_ret p, ?_⟩
  exact RS.bind (r := fun Z σ x H1 => Z.rt x H1) (k := fun ρ x g1 => some (.ok (.rt x) g1)) r fun F ρ g σ H S Z x d e R hx G => G x H S (Same.refl S) R.bare (e ▸ hx)
@[simp] def sIf (c : FT) (a b : FS) : FS := fun ρ g => (c ρ g).bd fun x g1 => if x = true then a ρ g1 else b ρ g1
theorem pfs_if {c : Expr} {a b : List Stmt} {fc : FT} {fa fb : FS} {pos} (hc : PFT X ah (fun _ => E) c fc) (ha : PFSs X ah E a fa) (hb : PFSs X ah E b fb) : PFS X ah E (.If c a b pos) (sIf fc fa fb) := by
  obtain ⟨t, p, r⟩ := hc
  obtain ⟨u, q, s⟩ := ha
  obtain ⟨v, q', s'⟩ := hb
  refine ⟨_, ps_if p q q', ?_⟩
  refine RS.bind (r := fun Z σ x H1 => if x = true then u Z σ H1 else v Z σ H1) (k := fun ρ (x : Bool) g1 => if x = true then fa ρ g1 else fb ρ g1) r fun F ρ g σ H S Z x d e R hx G => ?_
  cases hx
  cases x with
  | true => exact s.run F ρ g σ H S Z e R G
  | false => exact s'.run F ρ g σ H S Z e R G
/-- an expression whose value is dropped -/
@[simp] def sDrop (a : FE) : FS := fun ρ g => (a ρ g).bd fun _ g1 => some (.ok (.nx ρ) g1)
theorem pfs_expr {e : Expr} {a : FE} {pos} (ha : PF X ah (fun _ => E) e a) (hs : swapsWith e none pos.line X.env = pure false := by rfl) : PFS X ah E (.Expr e pos) (sDrop a) := by
  obtain ⟨t, p, r⟩ := ha
  refine ⟨_, ps_expr p hs, ?_⟩
  exact RS.bind (r := fun Z σ x H1 => Z.nx σ H1) (k := fun ρ x g1 => some (.ok (.nx ρ) g1)) r fun F ρ g σ H S Z x d e R hx G => G σ H S (Same.refl S) R

/-! ### targets -/
abbrev FG := D → List En → Option (List En)
structure RTg (c : DC) (g : TG) (f : FG) : Prop where
  run : ∀ (F : Fx) (ρ : List En) (gh : Gh) (σ : St) (H S : Hp) (v : V) (d : D) (Q : St → Hp → Prop), F.c = c → Rep F ρ gh σ H S → Dn c S v d →
    (match f d ρ with | none => False | some ρ' => ∀ σ', Rep F ρ' gh σ' H S → Q σ' H) → g v σ H Q
structure RTgs (c : DC) (g : TGs) (f : List D → List En → Option (List En)) : Prop where
  run : ∀ (F : Fx) (ρ : List En) (gh : Gh) (σ : St) (H S : Hp) (vs : List V) (ds : List D) (Q : St → Hp → Prop), F.c = c → Rep F ρ gh σ H S → Dns c S vs ds →
    (match f ds ρ with | none => False | some ρ' => ∀ σ', Rep F ρ' gh σ' H S → Q σ' H) → g vs σ H Q
/-- a target touches these slots alone -/
def TGw (t : TG) (vs : List Nat) : Prop := ∀ x σ H Q, t x σ H Q → t x σ H fun σ2 H2 => Q σ2 H2 ∧ wipe σ2 vs = wipe σ vs
def TGsw (t : TGs) (vs : List Nat) : Prop := ∀ x σ H Q, t x σ H Q → t x σ H fun σ2 H2 => Q σ2 H2 ∧ wipe σ2 vs = wipe σ vs
structure TGm (t : TG) : Prop where
  mono : ∀ x σ H (Q Q' : St → Hp → Prop), (∀ σ2 H2, Q σ2 H2 → Q' σ2 H2) → t x σ H Q → t x σ H Q'
structure TGsm (t : TGs) : Prop where
  mono : ∀ x σ H (Q Q' : St → Hp → Prop), (∀ σ2 H2, Q σ2 H2 → Q' σ2 H2) → t x σ H Q → t x σ H Q'
def PFG (X : Cx) (ah : Option Addr) (e : Expr) (f : FG) (vs : List Nat) : Prop := ∃ t, PG X e t ∧ RTg (dc X ah) t f ∧ TGw t vs ∧ TGm t
def PFGs (X : Cx) (ah : Option Addr) (es : List Expr) (f : List D → List En → Option (List En)) (vs : List Nat) : Prop := ∃ t, PGs X es t ∧ RTgs (dc X ah) t f ∧ TGsw t vs ∧ TGsm t
theorem wipe_get (σ : St) (i : Nat) : ∀ vs : List Nat, (wipe σ vs)[i]? = if i ∈ vs then (if i < σ.length then some none else none) else σ[i]?
  | [] => by simp [wipe]
  | v :: vs => by
    unfold wipe
    rw [List.getElem?_set, wipe_length, wipe_get σ i vs]
    by_cases h : v = i
    · subst h; simp
    · have h' : ¬ i = v := fun e => h e.symm
      simp [h, h']
theorem wipe_set {σ : St} {i : Nat} {x : Option V} {vs : List Nat} (h : i ∈ vs) : wipe (σ.set i x) vs = wipe σ vs := by
  apply List.ext_getElem?
  intro j
  rw [wipe_get, wipe_get, List.length_set]
  split
  · rfl
  · rename_i hj
    rw [List.getElem?_set_ne (fun (e : i = j) => hj (e ▸ h))]
theorem wipe_more {σ τ : St} {vs ws : List Nat} (h : wipe σ vs = wipe τ vs) (hs : ∀ i ∈ vs, i ∈ ws) : wipe σ ws = wipe τ ws := by
  have hl : σ.length = τ.length := by have := congrArg List.length h; rwa [wipe_length, wipe_length] at this
  apply List.ext_getElem?
  intro j
  have := congrArg (fun l => l[j]?) h
  simp only [wipe_get] at this
  rw [wipe_get, wipe_get, hl]
  split
  · rfl
  · rename_i hj
    have hj' : j ∉ vs := fun e => hj (hs j e)
    rw [if_neg hj', if_neg hj'] at this
    exact this
@[simp] def gN (i : Nat) : FG := fun d ρ => some (ρ.set i (.dt d))
theorem rt_name {c : DC} (i : Nat) : RTg c (gName i) (gN i) := ⟨fun F ρ gh σ H S v d Q e R hv G => G _ (R.set i (e ▸ hv))⟩
theorem pfg_n (i : Nat) {x : Str} {pos : Pos} (hN : X.N.Nodup) (hi : X.N[i]? = some x := by rfl) (hx : Loc X.env.scope x := by first | exact Or.inl rfl | exact Or.inr rfl) (hf : X.fn x = true ∨ X.env.scope.names.lookup x = some .local := by first | exact .inl rfl | exact .inr rfl) : PFG X ah (.Name x pos) (gN i) [i] :=
  ⟨_, pg_name hN hi hx hf, rt_name i, fun x σ H Q h => ⟨h, wipe_set List.mem_cons_self⟩, ⟨fun x σ H Q Q' hq h => hq _ _ h⟩⟩
@[simp] def gsN : List D → List En → Option (List En) := fun ds ρ => match ds with
  | [] => some ρ
  | _ => none
@[simp] def gsC (a : FG) (b : List D → List En → Option (List En)) : List D → List En → Option (List En) := fun ds ρ => match ds with
  | [] => none
  | d :: r => (a d ρ).bind (b r)
theorem pfgs_nil : PFGs X ah [] gsN [] := by
  refine ⟨_, pgs_nil, ⟨fun F ρ gh σ H S vs ds Q e R hv G => ?_⟩, fun x σ H Q h => ⟨h.1, h.2, rfl⟩, ⟨fun x σ H Q Q' hq h => ⟨h.1, hq _ _ h.2⟩⟩⟩
  cases hv with
  | nil => exact ⟨rfl, G σ R⟩
  | cons _ _ => exact G.elim
theorem pfgs_cons {e : Expr} {es : List Expr} {a : FG} {b : List D → List En → Option (List En)} {va vb : List Nat} (ha : PFG X ah e a va) (hb : PFGs X ah es b vb) (hs : (assignEach (e :: es) X.env).map (·.2) = assign e X.env :: (assignEach es X.env).map (·.2) := by rfl) : PFGs X ah (e :: es) (gsC a b) (va ++ vb) := by
  obtain ⟨t, p, r, w, m⟩ := ha
  obtain ⟨u, q, s, w', m'⟩ := hb
  refine ⟨_, pgs_cons p q hs, ⟨fun F ρ gh σ H S vs ds Q e R hv G => ?_⟩, fun x σ H Q h => ?_, ⟨fun x σ H Q Q' hq h => ?_⟩⟩
  rotate_left
  · obtain ⟨v, rr, e1, h⟩ := h
    refine ⟨v, rr, e1, m.mono _ _ _ _ _ (fun σ1 H1 k => ?_) (w _ _ _ _ h)⟩
    obtain ⟨k1, k2⟩ := k
    refine m'.mono _ _ _ _ _ (fun σ2 H2 k3 => ⟨k3.1, ?_⟩) (w' _ _ _ _ k1)
    exact (wipe_more k3.2 fun i hi => List.mem_append_right _ hi).trans (wipe_more k2 fun i hi => List.mem_append_left _ hi)
  · obtain ⟨v, rr, e1, h⟩ := h
    exact ⟨v, rr, e1, m.mono _ _ _ _ _ (fun σ1 H1 k => m'.mono _ _ _ _ _ hq k) h⟩
  cases hv with
  | nil => exact G.elim
  | cons h hs =>
    rename_i v d vs ds
    refine ⟨v, vs, rfl, r.run F ρ gh σ H S v d _ e R h ?_⟩
    simp only [gsC] at G
    cases ea : a d ρ with
    | none => rw [ea] at G; exact G
    | some ρ1 =>
      rw [ea] at G
      exact fun σ1 R1 => s.run F ρ1 gh σ1 H S vs ds Q e R1 hs G
@[simp] def gT (n : Nat) (f : List D → List En → Option (List En)) : FG := fun d ρ => match d with
  | .tup ds => if ds.length = n then f ds ρ else none
  | _ => none
theorem pfg_tup {es : List Expr} {k : Nat} {n : Nat} {f : List D → List En → Option (List En)} {pos} {vs : List Nat} (hc : X.calm = true) (h : PFGs X ah es f vs)
    (hn : (assignEach es X.env).length = n := by rfl) (hst : (assignEach es X.env).findIdx? (·.1) = none := by rfl) : PFG X ah (.Tuple es k pos) (gT n f) vs := by
  obtain ⟨t, p, r, w, m⟩ := h
  refine ⟨_, pg_tup hc p hn hst, ⟨fun F ρ gh σ H S v d Q e R hv G => ?_⟩, fun x σ H Q h => ?_, ⟨fun x σ H Q Q' hq h => ?_⟩⟩
  rotate_left
  · obtain ⟨a, xs, e1, h1, h2, h3⟩ := h
    exact ⟨a, xs, e1, h1, h2, w _ _ _ _ h3⟩
  · obtain ⟨a, xs, e1, h1, h2, h3⟩ := h
    exact ⟨a, xs, e1, h1, h2, m.mono _ _ _ _ _ hq h3⟩
  cases hv with
  | tup hs hd =>
    rename_i a vs ds
    simp only [gT] at G
    split at G
    · exact G.elim
    · rename_i ρ' hl
      split at hl
      · rename_i hl'
        refine ⟨a, vs, rfl, Same.tup R.sub hs, by rw [hd.length]; exact hl', r.run F ρ gh σ H S vs ds Q e R hd ?_⟩
        rw [hl]; exact G
      · cases hl
  | _ => exact G.elim
@[simp] def sAsg (a : FE) (f : FG) : FS := fun ρ g => (a ρ g).bd fun x g1 => match f x ρ with
  | none => none
  | some ρ' => some (.ok (.nx ρ') g1)
theorem rs_asg {c : DC} {te : TE} {a : FE} {tg : TG} {f : FG} (ha : RE c (fun _ => E) te a) (hg : RTg c tg f) : RS c E (tAsg te tg) (sAsg a f) := by
  refine RS.bind (r := fun Z σ x H1 => tg x σ H1 Z.nx) (k := fun ρ x g1 => match f x ρ with | none => none | some ρ' => some (.ok (.nx ρ') g1)) ha fun F ρ g σ H S Z x d e R hx G => ?_
  refine hg.run F ρ g σ H S x d _ e R hx ?_
  cases h : f d ρ with
  | none => simp only [h] at G; exact G
  | some ρ' => simp only [h] at G; exact fun σ' R' => G σ' H S (Same.refl S) R'
theorem pfs_asg {tg e : Expr} {a : FE} {f : FG} {pos} {vs : List Nat} (ha : PF X ah (fun _ => E) e a) (hg : PFG X ah tg f vs) (hs : swapsWithSole [tg] e pos.line X.env = pure false := by rfl) (hw : swappedStores [tg] e X.env = pure none := by rfl)
    (h1 : (assignEach [tg] X.env).map (·.2) = [assign tg X.env] := by rfl) : PFS X ah E (.Assign [tg] e pos) (sAsg a f) := by
  obtain ⟨t, p, r⟩ := ha
  obtain ⟨u, q, s, _⟩ := hg
  exact ⟨_, ps_asg p q hs hw h1, rs_asg r s⟩
theorem pfs_set (i : Nat) {x : Str} {e : Expr} {a : FE} {pos' pos : Pos} (hN : X.N.Nodup) (ha : PF X ah (fun _ => E) e a) (hi : X.N[i]? = some x := by rfl) (hx : Loc X.env.scope x := by first | exact Or.inl rfl | exact Or.inr rfl) (hs : swapsWith e (some (.Name x pos')) pos.line X.env = pure false := by rfl)
    (hf : X.fn x = true ∨ X.env.scope.names.lookup x = some .local := by first | exact .inl rfl | exact .inr rfl) : PFS X ah E (.Assign [.Name x pos'] e pos) (sAsg a (gN i)) := by
  obtain ⟨t, p, r⟩ := ha
  exact ⟨_, ps_set hN hi hx p hs hf, rs_asg r (rt_name i)⟩
end
end FD
set_option Elab.async false
set_option linter.all false
set_option maxRecDepth 100000
set_option maxHeartbeats 2000000
namespace FD
open PySem L2

/-! ### data without things of the package -/
mutual
def D.py : D → Option PyData
  | .non => some .none
  | .bl b => some (.bool b)
  | .int i => some (.int i)
  | .str x => some (.str x)
  | .tup xs => (D.pys xs).map .tuple
  | .lst xs => (D.pys xs).map .list
  | _ => none
def D.pys : List D → Option (List PyData)
  | [] => some []
  | d :: ds => match D.py d, D.pys ds with
    | some p, some ps => some (p :: ps)
    | _, _ => none
end
mutual
theorem Dn.py {c : DC} {S : Hp} : ∀ {v : V} {d : D} {p : PyData}, Dn c S v d → d.py = some p → Dp c.K S v p
  | _, _, _, .non, e => by simp [D.py] at e; subst e; exact .non
  | _, _, _, .bl b, e => by simp [D.py] at e; subst e; exact .bl b
  | _, _, _, .int b, e => by simp [D.py] at e; subst e; exact .int b
  | _, _, _, .str b, e => by simp [D.py] at e; subst e; exact .str b
  | _, _, _, .tup h hs, e => by
    simp only [D.py, Option.map_eq_some_iff] at e
    obtain ⟨ps, e1, rfl⟩ := e
    exact .tup h (Dns.pys hs e1)
  | _, _, _, .lst h hs, e => by
    simp only [D.py, Option.map_eq_some_iff] at e
    obtain ⟨ps, e1, rfl⟩ := e
    exact .lst (SqL.of h) (Dns.pys hs e1)
  | _, _, _, .emp _, e => by simp [D.py] at e
  | _, _, _, .obj _ _ _ _, e => by simp [D.py] at e
  | _, _, _, .hnd _, e => by simp [D.py] at e
  | _, _, _, .rng _, e => by simp [D.py] at e
  | _, _, _, .scr _, e => by simp [D.py] at e
  | _, _, _, .dct _ _ _, e => by simp [D.py] at e
theorem Dns.pys {c : DC} {S : Hp} : ∀ {vs : List V} {ds : List D} {ps : List PyData}, Dns c S vs ds → D.pys ds = some ps → DpAll c.K S vs ps
  | _, _, _, .nil, e => by simp [D.pys] at e; subst e; exact .nil
  | _, _, _, .cons h hs, e => by
    simp only [D.pys] at e
    split at e
    · rename_i p ps e1 e2
      cases e
      exact .cons (Dn.py h e1) (Dns.pys hs e2)
    · cases e
end
def toV : D → V
  | .non => .non
  | .bl b => .bl b
  | .int i => .int i
  | .str x => .str x
  | _ => .ref 0
def flatD : D → Bool
  | .non => true
  | .bl _ => true
  | .int _ => true
  | .str _ => true
  | _ => false
theorem Dn.flat {c : DC} {S : Hp} {v : V} {d : D} (h : Dn c S v d) (f : flatD d = true) : v = toV d ∧ flatV v = true := by
  cases h <;> first | exact ⟨rfl, rfl⟩ | simp [flatD] at f
theorem Dns.flat {c : DC} {S : Hp} : ∀ {vs : List V} {ds : List D}, Dns c S vs ds → ds.all flatD = true → vs = ds.map toV ∧ vs.all flatV = true
  | _, _, .nil, _ => ⟨rfl, rfl⟩
  | _, _, .cons h hs, f => by
    simp only [List.all_cons, Bool.and_eq_true] at f
    obtain ⟨e1, e2⟩ := Dn.flat h f.1
    obtain ⟨e3, e4⟩ := Dns.flat hs f.2
    exact ⟨by rw [e1, e3]; rfl, by simp [e2, e4]⟩

section
variable {c : DC}
/-! ### the operators -/
def R2.or (r r' : R2) : R2 := fun x y H Q => r x y H Q ∨ r' x y H Q
theorem OpR.or {X : Cx} {f : Value → Value → Sem Value} {r r' : R2} (h : OpR X f r) (h' : OpR X f r') : OpR X f (R2.or r r') := by
  intro pins s σ H x y v u Q I rx ry q
  rcases q with q | q
  · exact h pins s σ H x y v u Q I rx ry q
  · exact h' pins s σ H x y v u Q I rx ry q
def addD : D → D → Option D
  | .int i, .int j => some (.int (i + j))
  | .tup xs, .tup ys => if xs.length + ys.length ≤ 1000 then some (.tup (xs ++ ys)) else none
  | .lst xs, .lst ys => if xs.length + ys.length ≤ 1000 then some (.lst (xs ++ ys)) else none
  | _, _ => none
abbrev rAddD (K : PySem.W.Frag) : R2 := R2.or (rI0 fun i j => .int (i + j)) (R2.or (rCatA K) rCat)
theorem op_addD {X : Cx} : OpR X (binaryOp .Add) (rAddD X.K) := OpR.or op_add (OpR.or op_catA op_cat)
theorem os_add : OpS c (rAddD c.K) addD := by
  intro E F ρ g σ H S Q x y dx dy e R hx hy G
  subst e
  cases hx with
  | int i => cases hy <;> simp only [addD, lift] at G <;> first | exact G.elim | exact .inl ⟨_, _, rfl, rfl, G.ret R (.int _)⟩
  | tup h hs =>
    cases hy <;> simp only [addD, lift] at G <;> try exact G.elim
    rename_i a vs ds b ws es k ks
    by_cases hl : ds.length + es.length ≤ 1000
    · rw [if_pos hl] at G
      have l1 := hs.length
      have l2 := ks.length
      refine .inr (.inl ⟨a, b, vs, ws, rfl, rfl, Same.tup R.sub h, Same.tup R.sub k, line_of (by omega), fun z => ?_, fun _ z => ?_, fun _ _ p hp => ?_⟩)
      · subst z
        have : ds = [] := by cases hs; rfl
        subst this
        exact G.ret R (.tup k ks)
      · subst z
        have : es = [] := by cases ks; rfl
        subst this
        rw [List.append_nil] at G
        exact G.ret R (.tup h hs)
      · exact G.new R hp (.tup (SqT.of upd_same) ((hs.append ks).mono (R.tosame _ hp)))
    · rw [if_neg hl] at G; exact G.elim
  | lst h hs =>
    cases hy <;> simp only [addD, lift] at G <;> try exact G.elim
    rename_i a vs ds b ws es k ks
    by_cases hl : ds.length + es.length ≤ 1000
    · rw [if_pos hl] at G
      have l1 := hs.length
      have l2 := ks.length
      exact .inr (.inr ⟨a, b, vs, ws, rfl, rfl, R.sub _ _ h, R.sub _ _ k, line_of (by omega), fun p hp => G.new R hp (.lst upd_same ((hs.append ks).mono (R.tosame _ hp)))⟩)
    · rw [if_neg hl] at G; exact G.elim
  | _ => simp only [addD, lift] at G; exact G.elim
/-- two ints -/
def intD (f : Int → Int → Option D) : D → D → Option D
  | .int i, .int j => f i j
  | _, _ => none
theorem os_int {r : R2} {f : Int → Int → Option D} (h : ∀ i j d, f i j = some d → ∃ v, (∀ S, Dn c S v d) ∧ ∀ H (Q : VK), Q v H → r (.int i) (.int j) H Q) : OpS c r (intD f) := by
  intro E F ρ g σ H S Q x y dx dy e R hx hy G
  subst e
  cases hx with
  | int i =>
    cases hy <;> simp only [intD, lift] at G <;> try exact G.elim
    rename_i j
    cases q : f i j with
    | none => rw [q] at G; exact G.elim
    | some d =>
      rw [q] at G
      obtain ⟨v, hv, hr⟩ := h i j d q
      exact hr H Q (G.ret R (hv S))
  | _ => simp only [intD, lift] at G; exact G.elim
def subD : D → D → Option D := intD fun i j => some (.int (i - j))
theorem os_sub : OpS c (rI0 fun i j => .int (i - j)) subD := os_int fun i j d e => by cases e; exact ⟨_, fun S => .int _, fun H Q q => ⟨i, j, rfl, rfl, q⟩⟩
abbrev small64 (i : Int) : Prop := -(2 ^ 64) < i ∧ i < 2 ^ 64
def mulD : D → D → Option D
  | .int i, .int j => if small64 i ∨ small64 j then some (.int (i * j)) else none
  | .tup xs, .int k => if xs ≠ [] ∧ 2 ≤ k ∧ k ≤ 1000 ∧ xs.length ≤ 1000 ∧ xs.length * k.toNat ≤ 1000 then some (.tup (List.replicate k.toNat xs).flatten) else none
  | .lst xs, .int k => if -(2 ^ 63) ≤ k ∧ k < 2 ^ 63 ∧ xs.length * k.toNat ≤ 1000 then some (.lst (List.replicate k.toNat xs).flatten) else none
  | _, _ => none
def modD : D → D → Option D := intD fun i j => if j ≠ 0 then some (.int (i.fmod j)) else none
def divD : D → D → Option D := intD fun i j => if j ≠ 0 ∧ j.natAbs < 1073741824 then some (.int (i.fdiv j)) else none
def powD : D → D → Option D := intD fun i j => if 0 ≤ j ∧ j ≤ 1000000 ∧ i.natAbs < 2 ^ 64 then some (.int (i ^ j.toNat)) else none
theorem os_mod : OpS c (rI (fun i j => j ≠ 0) fun i j => .int (i.fmod j)) modD := os_int fun i j d e => by
  split at e
  · rename_i h; cases e; exact ⟨_, fun S => .int _, fun H Q q => ⟨i, j, rfl, rfl, h, q⟩⟩
  · cases e
theorem os_div : OpS c (rI CDivN fun i j => .int (i.fdiv j)) divD := os_int fun i j d e => by
  split at e
  · rename_i h; cases e; exact ⟨_, fun S => .int _, fun H Q q => ⟨i, j, rfl, rfl, h, q⟩⟩
  · cases e
theorem os_pow : OpS c (rI CPow fun i j => .int (i ^ j.toNat)) powD := os_int fun i j d e => by
  split at e
  · rename_i h; cases e; exact ⟨_, fun S => .int _, fun H Q q => ⟨i, j, rfl, rfl, h, q⟩⟩
  · cases e
def ltD : D → D → Option D := intD fun i j => some (.bl (decide (i < j)))
def leD : D → D → Option D := intD fun i j => some (.bl (decide (i ≤ j)))
def gtD : D → D → Option D := intD fun i j => some (.bl (decide (j < i)))
def geD : D → D → Option D := intD fun i j => some (.bl (decide (j ≤ i)))
theorem os_lt : OpS c (rI0 fun i j => .bl (decide (i < j))) ltD := os_int fun i j d e => by cases e; exact ⟨_, fun S => .bl _, fun H Q q => ⟨i, j, rfl, rfl, q⟩⟩
theorem os_le : OpS c (rI0 fun i j => .bl (decide (i ≤ j))) leD := os_int fun i j d e => by cases e; exact ⟨_, fun S => .bl _, fun H Q q => ⟨i, j, rfl, rfl, q⟩⟩
theorem os_gt : OpS c (rI0 fun i j => .bl (decide (j < i))) gtD := os_int fun i j d e => by cases e; exact ⟨_, fun S => .bl _, fun H Q q => ⟨i, j, rfl, rfl, q⟩⟩
theorem os_ge : OpS c (rI0 fun i j => .bl (decide (j ≤ i))) geD := os_int fun i j d e => by cases e; exact ⟨_, fun S => .bl _, fun H Q q => ⟨i, j, rfl, rfl, q⟩⟩
/-- == of data -/
def eqB (a b : D) : Option Bool := match a.py, b.py with
  | some p, some q => if SeqAt.shaped p = true ∧ SeqAt.shaped q = true then some (PyData.eqv p q) else none
  | _, _ => none
def eqD (a b : D) : Option D := (eqB a b).map .bl
def neD (a b : D) : Option D := (eqB a b).map fun k => .bl (!k)
theorem eqB_some {a b : D} {k : Bool} (h : eqB a b = some k) : ∃ p q, a.py = some p ∧ b.py = some q ∧ SeqAt.shaped p = true ∧ SeqAt.shaped q = true ∧ k = PyData.eqv p q := by
  unfold eqB at h
  split at h
  · rename_i p q e1 e2
    split at h
    · rename_i hs; cases h; exact ⟨p, q, e1, e2, hs.1, hs.2, rfl⟩
    · cases h
  · cases h
theorem Dp.mono {K : PySem.W.Frag} {S H : Hp} (sm : Same S H) : ∀ {v : V} {p : PyData}, Dp K S v p → Dp K H v p := by
  intro v p h
  induction h using Dp.rec (motive_2 := fun vs ps _ => DpAll K H vs ps) with
  | non => exact .non
  | bl b => exact .bl b
  | int i => exact .int i
  | str x => exact .str x
  | lst h _ ih => exact .lst (sm.seq h) ih
  | tup h _ ih => exact .tup (Same.tup sm h) ih
  | nil => exact .nil
  | cons _ _ ih1 ih2 => exact .cons ih1 ih2
theorem os_eq : OpS c (rEqD c.K) eqD := by
  intro E F ρ g σ H S Q x y dx dy e R hx hy G
  subst e
  cases h : eqB dx dy with
  | none => simp only [eqD, h, Option.map_none, lift] at G; exact G.elim
  | some k =>
    simp only [eqD, h, Option.map_some, lift] at G
    obtain ⟨p, q, e1, e2, s1, s2, rfl⟩ := eqB_some h
    exact ⟨p, q, Dp.mono R.sub (hx.py e1), Dp.mono R.sub (hy.py e2), s1, s2, G.ret R (.bl _)⟩
theorem os_ne : OpS c (rNeD c.K) neD := by
  intro E F ρ g σ H S Q x y dx dy e R hx hy G
  subst e
  cases h : eqB dx dy with
  | none => simp only [neD, h, Option.map_none, lift] at G; exact G.elim
  | some k =>
    simp only [neD, h, Option.map_some, lift] at G
    obtain ⟨p, q, e1, e2, s1, s2, rfl⟩ := eqB_some h
    exact ⟨p, q, Dp.mono R.sub (hx.py e1), Dp.mono R.sub (hy.py e2), s1, s2, G.ret R (.bl _)⟩
/-! is None, is True, is False -/
def isNonB : D → Bool
  | .non => true
  | _ => false
def isND : D → D → Option D
  | d, .non => some (.bl (isNonB d))
  | _, _ => none
def notND : D → D → Option D
  | d, .non => some (.bl (!isNonB d))
  | _, _ => none
theorem Dn.non_iff {S : Hp} {v : V} {d : D} (h : Dn c S v d) : decide (v = .non) = isNonB d := by cases h <;> simp [isNonB]
theorem os_isN : OpS c (fun x y H Q => y = .non ∧ Q (.bl (decide (x = .non))) H) isND := by
  intro E F ρ g σ H S Q x y dx dy e R hx hy G
  cases hy <;> simp only [isND, lift] at G <;> first | exact G.elim | skip
  exact ⟨rfl, by rw [hx.non_iff]; exact G.ret R (.bl _)⟩
theorem os_notN : OpS c (fun x y H Q => y = .non ∧ Q (.bl (!decide (x = .non))) H) notND := by
  intro E F ρ g σ H S Q x y dx dy e R hx hy G
  cases hy <;> simp only [notND, lift] at G <;> first | exact G.elim | skip
  exact ⟨rfl, by rw [hx.non_iff]; exact G.ret R (.bl _)⟩
/-! in, not in -/
def inB (x y : D) : Option Bool := match y with
  | .tup ys => if flatD x = true ∧ ys.all flatD = true then some (inV (toV x) (ys.map toV)) else none
  | .lst ys => if flatD x = true ∧ ys.all flatD = true then some (inV (toV x) (ys.map toV)) else none
  | _ => none
def inD (x y : D) : Option D := (inB x y).map .bl
def notInD (x y : D) : Option D := (inB x y).map fun k => .bl (!k)
theorem inB_some {F : Fx} {ρ g σ H S} {x y : V} {dx dy : D} {k : Bool} (R : Rep F ρ g σ H S) (hx : Dn F.c S x dx) (hy : Dn F.c S y dy) (h : inB dx dy = some k) :
    ∃ p xs, y = .ref p ∧ (SqL F.c.K H p xs ∨ SqT F.c.K H p xs) ∧ flatV x = true ∧ xs.all flatV = true ∧ k = inV x xs := by
  cases hy with
  | tup ht hs =>
    simp only [inB] at h
    split at h
    · rename_i hf
      cases h
      obtain ⟨e1, e2⟩ := hx.flat hf.1
      obtain ⟨e3, e4⟩ := hs.flat hf.2
      exact ⟨_, _, rfl, .inr (Same.tup R.sub ht), e2, e4, by rw [e1, e3]⟩
    · cases h
  | lst ht hs =>
    simp only [inB] at h
    split at h
    · rename_i hf
      cases h
      obtain ⟨e1, e2⟩ := hx.flat hf.1
      obtain ⟨e3, e4⟩ := hs.flat hf.2
      exact ⟨_, _, rfl, .inl (SqL.of (R.sub _ _ ht)), e2, e4, by rw [e1, e3]⟩
    · cases h
  | _ => simp [inB] at h
theorem os_in : OpS c (rIn c.K false) inD := by
  intro E F ρ g σ H S Q x y dx dy e R hx hy G
  subst e
  cases h : inB dx dy with
  | none => simp only [inD, h, Option.map_none, lift] at G; exact G.elim
  | some k =>
    simp only [inD, h, Option.map_some, lift] at G
    obtain ⟨p, xs, rfl, e1, e2, e3, rfl⟩ := inB_some R hx hy h
    exact ⟨p, xs, rfl, e1, e2, e3, G.ret R (.bl _)⟩
theorem os_notIn : OpS c (rIn c.K true) notInD := by
  intro E F ρ g σ H S Q x y dx dy e R hx hy G
  subst e
  cases h : inB dx dy with
  | none => simp only [notInD, h, Option.map_none, lift] at G; exact G.elim
  | some k =>
    simp only [notInD, h, Option.map_some, lift] at G
    obtain ⟨p, xs, rfl, e1, e2, e3, rfl⟩ := inB_some R hx hy h
    exact ⟨p, xs, rfl, e1, e2, e3, G.ret R (.bl _)⟩
/-! subscripts -/
theorem atI_map {vs : List V} {ds : List D} {S : Hp} (h : Dns c S vs ds) {i : Int} {d : D} (e : atI ds i = some d) : ∃ v, atI vs i = some v ∧ Dn c S v d := by
  unfold atI at e ⊢
  rw [h.length]
  cases q : ixN ds.length i with
  | none => rw [q] at e; cases e
  | some j =>
    rw [q] at e
    exact h.get e
def ixD : D → D → Option D
  | .tup xs, .int i => atI xs i
  | .lst xs, .int i => atI xs i
  | _, _ => none
abbrev rIxD (K : PySem.W.Frag) : R2 := fun x y H Q => rIxL K x y H Q ∨ rIxT K x y H Q
theorem ix_D {X : Cx} : IxR X (rIxD X.K) := ix_list.or ix_tup
theorem os_ix : OpS c (rIxD c.K) ixD := by
  intro E F ρ g σ H S Q x y dx dy e R hx hy G
  subst e
  cases hy with
  | int i =>
    cases hx <;> simp only [ixD, lift] at G <;> try exact G.elim
    · rename_i a vs ds h hs
      cases q : atI ds i with
      | none => rw [q] at G; exact G.elim
      | some d =>
        rw [q] at G
        obtain ⟨v, h1, h2⟩ := atI_map hs q
        exact .inr ⟨a, vs, i, v, rfl, rfl, Same.tup R.sub h, h1, G.ret R h2⟩
    · rename_i a vs ds h hs
      cases q : atI ds i with
      | none => rw [q] at G; exact G.elim
      | some d =>
        rw [q] at G
        obtain ⟨v, h1, h2⟩ := atI_map hs q
        exact .inl ⟨a, vs, i, v, rfl, rfl, SqL.of (R.sub _ _ h), h1, G.ret R h2⟩
  | _ => cases dx <;> simp only [ixD, lift] at G <;> exact G.elim
end

/-! ### slices -/
section
variable {X : Cx} {ah : Option Addr} {E : St → XK} {c : DC}
abbrev FO := List En → Gh → M (Option Int)
abbrev rO : Rl (Option Int) (Option Int) := fun _ _ b a => b = a
def PFO (X : Cx) (ah : Option Addr) (E : St → XK) (e : Option Expr) (f : FO) : Prop := ∃ t, PO X e t ∧ @RG (Option Int) (Option Int) rO (dc X ah) E t f
@[simp] def oN : FO := fun _ g => some (.ok none g)
@[simp] def toI : D → Option Int
  | .int i => some i
  | _ => none
@[simp] def oS (a : FE) : FO := fun ρ g => (a ρ g).bd fun x g1 => match toI x with
  | some i => some (.ok (some i) g1)
  | none => none
theorem pfo_none : PFO X ah E none oN := ⟨_, po_none, ⟨fun F ρ g σ H S Q e R G => G.ret (b := none) R rfl⟩⟩
theorem pfo_some {e : Expr} {a : FE} (ha : PF X ah E e a) : PFO X ah E (some e) (oS a) := by
  obtain ⟨t, p, r⟩ := ha
  refine ⟨_, po_some p, ?_⟩
  refine RG.bind (r := fun σ x H1 (Q : Option Int → Hp → Prop) => ∃ i, x = .int i ∧ Q (some i) H1) (k := fun ρ x g1 => match toI x with
  | some i => some (.ok (some i) g1)
  | none => none) r fun F ρ g σ H S Q x d e R hx G => ?_
  cases hx <;> simp only [toI] at G <;> first | exact G.elim | exact ⟨_, rfl, G.ret R rfl⟩
def cutD (xs : List D) (lo hi : Option Int) : List D := (xs.drop (HT.sIx xs.length 0 lo)).take (HT.sIx xs.length xs.length hi - HT.sIx xs.length 0 lo)
theorem Dns.ints {c : DC} {S : Hp} : ∀ ns : List Int, Dns c S (ns.map V.int) (ns.map D.int)
  | [] => .nil
  | n :: ns => .cons (.int n) (Dns.ints ns)
theorem Dns.cut {S : Hp} {vs : List V} {ds : List D} (h : Dns c S vs ds) (lo hi : Option Int) : Dns c S (cutV vs lo hi) (cutD ds lo hi) := by
  unfold cutV cutD
  rw [h.length]
  exact (h.drop _).take _
def slD (x : D) (lo hi : Option Int) : Option D := match x with
  | .tup xs => some (.tup (cutD xs lo hi))
  | .lst xs => some (.lst (cutD xs lo hi))
  | .scr ns => some (.lst (cutD (ns.map .int) lo hi))
  | _ => none
@[simp] def cSl (a : FE) (lo hi : FO) : FE := fun ρ g => (a ρ g).bd fun x g1 => (lo ρ g1).bd fun l g2 => (hi ρ g2).bd fun h g3 => lift (slD x l h) g3
theorem cutD_whole {xs : List D} {lo hi : Option Int} (h : HT.sIx xs.length 0 lo = 0 ∧ HT.sIx xs.length xs.length hi = xs.length) : cutD xs lo hi = xs := by
  unfold cutD
  rw [h.1, h.2]
  simp
theorem pf_sl {e : Expr} {lo hi : Option Expr} {a : FE} {l h : FO} {p2 pos : Pos} (ha : PF X ah E e a) (hl : PFO X ah E lo l) (hh : PFO X ah E hi h) : PF X ah E (.Subscript e (.Slice lo hi none p2) pos) (cSl a l h) := by
  obtain ⟨t, p, r⟩ := ha
  obtain ⟨tl, q, r2⟩ := hl
  obtain ⟨th, q', r3⟩ := hh
  refine ⟨_, pe_slice (SlR.or sl_tupA sl_list) p q q', ?_⟩
  refine RG.bind (r := fun σ x H1 (Q : VK) => tl σ H1 fun l' H2 => th σ H2 fun u H3 => (rSlA X.K x l' u H3 Q ∨ rSlL X.K x l' u H3 Q)) (k := fun ρ x g1 => (l ρ g1).bd fun l g2 => (h ρ g2).bd fun h g3 => lift (slD x l h) g3) r fun F ρ g σ H S Q x d e R hx G => ?_
  refine r2.step e R G fun H1 S1 g1 lo' l' sm R1 hlo G => ?_
  cases hlo
  refine r3.step e R1 G fun H2 S2 g2 hi' h' sm2 R2 hhi G => ?_
  cases hhi
  have hx := hx.mono (sm.trans sm2)
  have eK : F.c.K = X.K := by rw [e]
  cases hx with
  | tup h1 hs =>
    simp only [slD, lift] at G
    refine .inl ⟨_, _, rfl, Same.tup R2.sub h1, fun z => ?_, fun _ p hp => ?_⟩
    · rw [hs.length] at z
      rw [cutD_whole z] at G
      exact G.ret R2 (e ▸ .tup h1 hs)
    · exact G.new R2 hp (e ▸ .tup (SqT.of upd_same) ((hs.cut _ _).mono (R2.tosame _ hp)))
  | lst h1 hs =>
    simp only [slD, lift] at G
    exact .inr ⟨_, _, rfl, SqL.of (R2.sub _ _ h1), fun p hp => G.new R2 hp (e ▸ .lst upd_same ((hs.cut _ _).mono (R2.tosame _ hp)))⟩
  | @scr a ns h1 =>
    simp only [slD, lift] at G
    have h2 := Same.sql R2.sub h1

    exact .inr ⟨_, _, rfl, h2, fun p hp => G.new R2 hp (Dn.lst upd_same ((Dns.ints ns).cut _ _))⟩
  | _ => simp only [slD, lift] at G; exact G.elim
end
end FD
set_option Elab.async false
set_option linter.all false
set_option maxRecDepth 100000
set_option maxHeartbeats 2000000
namespace FD
open PySem L2

/-! ### what is walked -/
structure WalkOf (c : DC) (J : It) (ds : List D) (S : Hp) : Prop where
  stop : ∀ F ρ g σ H S1, F.c = c → Same S S1 → Rep F ρ g σ H S1 → J.stop ds.length H
  go : ∀ F ρ g σ H S1 i d, F.c = c → Same S S1 → Rep F ρ g σ H S1 → ds[i]? = some d → J.go i H ∧ ∀ x H', J.yld i H x H' → ∃ S', Same S1 S' ∧ Rep F ρ g σ H' S' ∧ Dn c S' x d
abbrev rI : Rl It (List D) := fun c S J ds => WalkOf c J ds S
abbrev FI := List En → Gh → M (List D)
section
variable {X : Cx} {ah : Option Addr} {E : St → XK} {c : DC}
def PFI (X : Cx) (ah : Option Addr) (E : St → XK) (tg iter : Expr) (f : FI) : Prop := ∃ wi, PI X tg iter wi ∧ @RG It (List D) rI (dc X ah) E wi f

def iSeq (K : PySem.W.Frag) (tl : TE) : TI := fun σ H R => tl σ H fun x H1 => ∃ a, x = .ref a ∧ (((∃ xs, SqL K H1 a xs) ∧ R (Itl K a) H1) ∨ ((∃ xs, SqT K H1 a xs) ∧ R (Itt K a) H1))
theorem pi_seq {tg l : Expr} {tl : TE} (hl : PE X l tl) : PI X tg l (iSeq X.K tl) := by
  refine ⟨fun pins s σ H R I h => ?_⟩
  refine thn (hl.run pins s σ H _ I h) fun v s1 ⟨x, H1, I1, r1, q1⟩ => ?_
  obtain ⟨a, e, q⟩ := q1
  subst e
  cases r1
  rcases q with ⟨⟨xs, hq⟩, q⟩ | ⟨⟨xs, hq⟩, q⟩
  · obtain ⟨its, rv, p, hz⟩ := I1.list hq
    refine wpAny_pyIter_list p.isList ?_
    refine ⟨s1.heap.objs.size, [s1.heap.objs.size], _, _, H1, rfl, I1.kept (t' := s1.toks) fun b o e => Heap.get?_push_of_some _ e, turn_list a _, ⟨_, Heap.get?_push_size _ rfl, rfl, rfl⟩, fun b hb => ?_, q⟩
    have e : b = s1.heap.objs.size := by simpa using hb
    subst e
    exact I1.fpOk (Nat.le_refl _) (I1.hok.fresh (Nat.le_refl _))
  · obtain ⟨its, rv, p, hz⟩ := I1.tuple hq
    refine wpAny_pyIter_tuple (show s1.heap.IsTuple a its.toArray from p) ?_
    refine ⟨s1.heap.objs.size, [s1.heap.objs.size], _, _, H1, rfl, I1.kept (t' := s1.toks) fun b o e => Heap.get?_push_of_some _ e, turn_tuple a _, ⟨_, Heap.get?_push_size _ rfl, rfl, rfl⟩, fun b hb => ?_, q⟩
    have e : b = s1.heap.objs.size := by simpa using hb
    subst e
    exact I1.fpOk (Nat.le_refl _) (I1.hok.fresh (Nat.le_refl _))
def seqOf : D → Option (List D)
  | .tup ds => some ds
  | .lst ds => some ds
  | _ => none
@[simp] def iS (a : FE) : FI := fun ρ g => (a ρ g).bd fun x g1 => lift (seqOf x) g1
/-- a list, a tuple: one tracked or written list has one content -/
theorem walk_tup {S : Hp} {a : Addr} {vs : List V} {ds : List D} (h : SqT c.K S a vs) (hs : Dns c S vs ds) : WalkOf c (Itt c.K a) ds S where
  stop := fun F ρ g σ H S1 e sm R => ⟨vs, Same.tup R.sub (Same.tup sm h), by rw [hs.length]; exact Nat.le_refl _⟩
  go := fun F ρ g σ H S1 i d e sm R hd => by
    obtain ⟨v, hv, hn⟩ := hs.get hd
    have hT : SqT c.K H a vs := Same.tup R.sub (Same.tup sm h)
    refine ⟨⟨vs, v, hT, hv⟩, fun x H' y => ?_⟩
    obtain ⟨e1, y⟩ := y
    subst e1
    have : vs[i]? = some x := y vs hT
    rw [hv] at this; cases this
    exact ⟨S1, Same.refl _, R, hn.mono sm⟩
theorem walk_lst {S : Hp} {a : Addr} {vs : List V} {ds : List D} (h : S a = some (.lst vs)) (hs : Dns c S vs ds) : WalkOf c (Itl c.K a) ds S where
  stop := fun F ρ g σ H S1 e sm R => ⟨vs, SqL.of (R.sub _ _ (sm _ _ h)), by rw [hs.length]; exact Nat.le_refl _⟩
  go := fun F ρ g σ H S1 i d e sm R hd => by
    obtain ⟨v, hv, hn⟩ := hs.get hd
    have hT : SqL c.K H a vs := SqL.of (R.sub _ _ (sm _ _ h))
    refine ⟨⟨vs, v, hT, hv⟩, fun x H' y => ?_⟩
    obtain ⟨e1, y⟩ := y
    subst e1
    have : vs[i]? = some x := y vs hT
    rw [hv] at this; cases this
    exact ⟨S1, Same.refl _, R, hn.mono sm⟩
theorem pfi_seq {tg e : Expr} {a : FE} (ha : PF X ah E e a) : PFI X ah E tg e (iS a) := by
  obtain ⟨t, p, r⟩ := ha
  refine ⟨_, pi_seq p, ?_⟩
  refine RG.bind (r := fun σ x H1 (R : It → Hp → Prop) => ∃ a, x = .ref a ∧ (((∃ xs, SqL X.K H1 a xs) ∧ R (Itl X.K a) H1) ∨ ((∃ xs, SqT X.K H1 a xs) ∧ R (Itt X.K a) H1))) (k := fun ρ x g1 => lift (seqOf x) g1) r fun F ρ g σ H S Q x d e R hx G => ?_
  cases hx with
  | tup h hs =>
    refine ⟨_, rfl, .inr ⟨⟨_, Same.tup R.sub h⟩, G.ret R ?_⟩⟩
    show WalkOf F.c _ _ _
    rw [e]
    exact walk_tup h hs
  | lst h hs =>
    refine ⟨_, rfl, .inl ⟨⟨_, SqL.of (R.sub _ _ h)⟩, G.ret R ?_⟩⟩
    show WalkOf F.c _ _ _
    rw [e]
    exact walk_lst h hs
  | _ => simp only [seqOf, lift] at G; exact G.elim
/-- range(n), range(a, b) -/
def rngD (lo : Int) (n : Nat) : List D := (List.range n).map fun (k : Nat) => D.int (lo + (k : Int))
theorem walk_rng {S : Hp} (lo : Int) (n : Nat) : WalkOf c (Itr lo n) (rngD lo n) S where
  stop := fun F ρ g σ H S1 e sm R => by show n ≤ (rngD lo n).length; simp [rngD]
  go := fun F ρ g σ H S1 i d e sm R hd => by
    have hi : i < n := by
      have := (List.getElem?_eq_some_iff.mp hd).1
      simpa [rngD] using this
    have hd' : d = .int (lo + i) := by
      simp [rngD, hi] at hd
      exact hd.symm
    subst hd'
    refine ⟨hi, fun x H' y => ?_⟩
    obtain ⟨e1, rfl⟩ := y
    subst e1
    exact ⟨S1, Same.refl _, R, .int _⟩
/-- a test that is never reckoned -/
noncomputable def ck (p : Prop) : Bool := @decide p (Classical.propDecidable p)
theorem ck_of {p : Prop} (h : p) : ck p = true := @decide_eq_true p (Classical.propDecidable p) h
theorem of_ck {p : Prop} (h : ck p = true) : p := @of_decide_eq_true p (Classical.propDecidable p) h
noncomputable def rng1 : List D → Option (List D)
  | [.int j] => if ck (-(2 ^ 62) ≤ j ∧ j < 2 ^ 62) = true then some (rngD 0 j.toNat) else none
  | _ => none
noncomputable def rng2 : List D → Option (List D)
  | [.int i, .int j] => if ck (-(2 ^ 62) ≤ i ∧ i < 2 ^ 62 ∧ -(2 ^ 62) ≤ j ∧ j < 2 ^ 62) = true then some (rngD i (j - i).toNat) else none
  | _ => none
@[simp] noncomputable def iR1 (a : FA) : FI := fun ρ g => (a ρ g).bd fun xs g1 => lift (rng1 xs) g1
@[simp] noncomputable def iR2 (a : FA) : FI := fun ρ g => (a ρ g).bd fun xs g1 => lift (rng2 xs) g1
theorem Dns.one {c : DC} {S : Hp} {vs : List V} {d : D} (h : Dns c S vs [d]) : ∃ v, vs = [v] ∧ Dn c S v d := by
  cases h with | cons h hs => cases hs; exact ⟨_, rfl, h⟩
theorem Dns.two {c : DC} {S : Hp} {vs : List V} {d e : D} (h : Dns c S vs [d, e]) : ∃ v w, vs = [v, w] ∧ Dn c S v d ∧ Dn c S w e := by
  cases h with | cons h hs => cases hs with | cons k ks => cases ks; exact ⟨_, _, rfl, h, k⟩
theorem Dns.three {c : DC} {S : Hp} {vs : List V} {d e f : D} (h : Dns c S vs [d, e, f]) : ∃ v w u, vs = [v, w, u] ∧ Dn c S v d ∧ Dn c S w e ∧ Dn c S u f := by
  cases h with | cons h hs => obtain ⟨w, u, rfl, h1, h2⟩ := hs.two; exact ⟨_, _, _, rfl, h, h1, h2⟩
theorem Dn.intE {c : DC} {S : Hp} {v : V} {i : Int} (h : Dn c S v (.int i)) : v = .int i := by cases h; rfl
theorem Dn.blE {c : DC} {S : Hp} {v : V} {i : Bool} (h : Dn c S v (.bl i)) : v = .bl i := by cases h; rfl
theorem Dn.strE {c : DC} {S : Hp} {v : V} {i : Str} (h : Dn c S v (.str i)) : v = .str i := by cases h; rfl
theorem pfi_rng1 {tg a : Expr} {f : FA} {p pos : Pos} (hm : X.mg "range" = none) (ha : PFA X ah E [a] f) (hg : Gl X "range" := by rfl) (hs : starEach [a] X.env = [(false, eval a X.env)] := by rfl) : PFI X ah E tg (.Call (.Name "range" p) [a] [] pos) (iR1 f) := by
  obtain ⟨t, q, r⟩ := ha
  refine ⟨_, pi_range1 hg hm q hs, ?_⟩
  refine RG.bind (r := fun σ vs H1 (R : It → Hp → Prop) => ∃ j : Int, vs = [.int j] ∧ -(2 ^ 62) ≤ j ∧ j < 2 ^ 62 ∧ R (Itr 0 j.toNat) H1) (k := fun ρ xs g1 => lift (rng1 xs) g1) r fun F ρ g σ H S Q x d e R hx G => ?_
  unfold rng1 at G
  split at G
  · rename_i j
    obtain ⟨v, rfl, hv⟩ := hx.one
    cases hv.intE
    by_cases hb : ck (-(2 ^ 62) ≤ j ∧ j < 2 ^ 62) = true
    · rw [if_pos hb] at G
      have hb := of_ck hb
      exact ⟨j, rfl, hb.1, hb.2, G.ret R (walk_rng 0 j.toNat)⟩
    · rw [if_neg hb] at G; exact G.elim
  · exact G.elim
theorem pfi_rng2 {tg a b : Expr} {f : FA} {p pos : Pos} (hm : X.mg "range" = none) (ha : PFA X ah E [a, b] f) (hg : Gl X "range" := by rfl) (hs : starEach [a, b] X.env = [(false, eval a X.env), (false, eval b X.env)] := by rfl) (hs2 : starEach [b] X.env = [(false, eval b X.env)] := by rfl) : PFI X ah E tg (.Call (.Name "range" p) [a, b] [] pos) (iR2 f) := by
  obtain ⟨t, q, r⟩ := ha
  refine ⟨_, pi_range2 hg hm q hs hs2, ?_⟩
  refine RG.bind (r := fun σ vs H1 (R : It → Hp → Prop) => ∃ i j : Int, vs = [.int i, .int j] ∧ (-(2 ^ 62) ≤ i ∧ i < 2 ^ 62 ∧ -(2 ^ 62) ≤ j ∧ j < 2 ^ 62) ∧ R (Itr i (j - i).toNat) H1) (k := fun ρ xs g1 => lift (rng2 xs) g1) r fun F ρ g σ H S Q x d e R hx G => ?_
  unfold rng2 at G
  split at G
  · rename_i i j
    obtain ⟨v, w, rfl, hv, hw⟩ := hx.two
    cases hv.intE
    cases hw.intE
    by_cases hb : ck (-(2 ^ 62) ≤ i ∧ i < 2 ^ 62 ∧ -(2 ^ 62) ≤ j ∧ j < 2 ^ 62) = true
    · rw [if_pos hb] at G
      have hb := of_ck hb
      exact ⟨i, j, rfl, hb, G.ret R (walk_rng i _)⟩
    · rw [if_neg hb] at G; exact G.elim
  · exact G.elim

end
section
variable {X : Cx} {ah : Option Addr} {E : XK} {c : DC}
/-! ### for -/
def loopD (gs : FG) (fb : FS) : List D → List En → Gh → M Fl
  | [], ρ, g => some (.ok (.nx ρ) g)
  | d :: ds, ρ, g => match gs d ρ with
    | none => none
    | some ρ1 => match fb ρ1 g with
      | none => none
      | some (.ok (.nx ρ2) g2) => loopD gs fb ds ρ2 g2
      | some (.ok (.ct ρ2) g2) => loopD gs fb ds ρ2 g2
      | some (.ok (.bk ρ2) g2) => some (.ok (.nx ρ2) g2)
      | some (.ok (.rt d) g2) => some (.ok (.rt d) g2)
      | some (.ex c ks es g2) => some (.ex c ks es g2)
@[simp] def sFor (fi : FI) (gs : FG) (fb : FS) : FS := fun ρ g => (fi ρ g).bd fun ds g1 => loopD gs fb ds ρ g1
theorem drop_of {α : Type} {ds : List α} {i : Nat} (h : i < ds.length) : ds.drop i = ds[i] :: ds.drop (i + 1) := List.drop_eq_getElem_cons h
theorem rs_for {wi : TI} {fi : FI} {tg : TG} {gs : FG} {tb : TS} {fb : FS} (hi : @RG It (List D) rI c (fun _ => E) wi fi) (hg : RTg c tg gs) (hb : RS c E tb fb) : RS c E (tFor wi tg tb) (sFor fi gs fb) := by
  refine RS.bind (rel := rI) (r := fun Z σ J H1 => ∃ W : Nat → Nat → St → Hp → Prop, (∃ m, W 0 m σ H1) ∧ ∀ i m σ H, W i m σ H →
    (J.stop i H ∧ Z.nx σ H) ∨ (J.go i H ∧ ∃ N : St → Hp → Prop, (∀ σ' H', N σ' H' → ∃ m', m' < m ∧ W (i + 1) m' σ' H') ∧ ∀ x H', J.yld i H x H' → tg x σ H' fun σ2 H2 => tb { Z with nx := N, ct := N, bk := Z.nx } σ2 H2)) (k := fun ρ ds g1 => loopD gs fb ds ρ g1) hi fun F ρ g σ H S Z J ds e R hJ G => ?_
  let Pv : Nat → St → Hp → Prop := fun i σ H => ∃ ρ g S1, Same S S1 ∧ Rep F ρ g σ H S1 ∧ GotS F S1 E Z (loopD gs fb (ds.drop i) ρ g)
  refine ⟨fun i m σ H => m = ds.length - i ∧ i ≤ ds.length ∧ Pv i σ H, ⟨ds.length, by simp, Nat.zero_le _, ρ, g, S, Same.refl S, R, G⟩, ?_⟩
  rintro i m σ H ⟨rfl, hi, ρ, g, S1, sm, R, G⟩
  by_cases hlt : i < ds.length
  · refine .inr ?_
    obtain ⟨go, yl⟩ := hJ.go F ρ g σ H S1 i ds[i] e sm R (List.getElem?_eq_getElem hlt)
    refine ⟨go, Pv (i + 1), fun σ' H' p' => ⟨ds.length - (i + 1), by omega, rfl, hlt, p'⟩, fun x H' y => ?_⟩
    obtain ⟨S', sm', R', hx⟩ := yl x H' y
    rw [drop_of hlt] at G
    unfold loopD at G
    refine hg.run F ρ g σ H' S' x _ _ e R' hx ?_
    cases h1 : gs ds[i] ρ with
    | none => rw [h1] at G; exact G
    | some ρ1 =>
      rw [h1] at G
      intro σ2 R2
      refine hb.run F ρ1 g σ2 H' S' _ e R2 ?_
      have G := G.mono sm'
      simp only at G
      cases h2 : fb ρ1 g with
      | none => rw [h2] at G; exact G
      | some o =>
        rw [h2] at G
        cases o with
        | ex _ _ _ _ => exact G
        | ok f g2 =>
          cases f with
          | nx ρ2 => exact fun σ3 H3 S3 s3 R3 => ⟨ρ2, g2, S3, sm.trans (sm'.trans s3), R3, G.mono s3⟩
          | ct ρ2 => exact fun σ3 H3 S3 s3 R3 => ⟨ρ2, g2, S3, sm.trans (sm'.trans s3), R3, G.mono s3⟩
          | bk ρ2 => exact G
          | rt d => exact G
  · have e1 : i = ds.length := by omega
    subst e1
    rw [List.drop_length] at G
    exact .inl ⟨hJ.stop F ρ g σ H S1 e sm R, G σ H S1 (Same.refl _) R⟩
theorem pfs_for {tg iter : Expr} {body : List Stmt} {fi : FI} {gs : FG} {fb : FS} {vs : List Nat} {pos : Pos} (hp : PassesOwn (model X.prog X.w) X.A X.env X.xe) (hc : X.calm = true) (hi : PFI X ah (fun _ => E) tg iter fi) (hg : PFG X ah tg gs vs) (hb : PFSs X ah E body fb)
    (hs : ∀ x, foldedSetIterable iter X.env x = pure x := by intro _; rfl) : PFS X ah E (.For tg iter body [] pos) (sFor fi gs fb) := by
  obtain ⟨t, p, r⟩ := hi
  obtain ⟨u, q, s, _⟩ := hg
  obtain ⟨v, q', s'⟩ := hb
  exact ⟨_, ps_for hp hc p q q' hs, rs_for r s s'⟩

end
section
variable {X : Cx} {ah : Option Addr} {E : St → XK} {c : DC}
/-! ### comprehensions -/
/-- the slots of a block's own names -/
def wipeE (ρ : List En) : List Nat → List En
  | [] => ρ
  | v :: vs => (wipeE ρ vs).set v .un
theorem wipeE_get (ρ : List En) (i : Nat) : ∀ vs : List Nat, (wipeE ρ vs)[i]? = if i ∈ vs then (if i < ρ.length then some En.un else none) else ρ[i]?
  | [] => by simp [wipeE]
  | v :: vs => by
    have hl : ∀ ws : List Nat, (wipeE ρ ws).length = ρ.length := by
      intro ws
      induction ws with
      | nil => rfl
      | cons w ws ih => simp [wipeE, ih]
    unfold wipeE
    rw [List.getElem?_set, hl, wipeE_get ρ i vs]
    by_cases h : v = i
    · subst h; simp
    · have h' : ¬ i = v := fun e => h e.symm
      simp [h, h']
theorem Rep.wipe {F : Fx} {ρ g σ H S} (R : Rep F ρ g σ H S) (vs : List Nat) : Rep F (wipeE ρ vs) g (wipe σ vs) H S := by
  refine R.forget (fun i en h => ?_) fun i j p xs ys h1 h2 h3 h4 => ?_
  · rw [wipeE_get] at h
    split at h
    · rename_i hi
      split at h
      · rename_i hl
        cases h
        obtain ⟨so, h1, _⟩ := R.slots i _ (List.getElem?_eq_getElem hl)
        have := (List.getElem?_eq_some_iff.mp h1).1
        exact ⟨none, by rw [wipe_get, if_pos hi, if_pos this], trivial⟩
      · cases h
    · rename_i hi
      obtain ⟨so, h1, h2⟩ := R.slots i en h
      exact ⟨so, by rw [wipe_get, if_neg hi]; exact h1, h2⟩
  · rw [wipeE_get] at h1 h2
    split at h1
    · split at h1 <;> cases h1
    split at h2
    · split at h2 <;> cases h2
    rename_i n1 n2
    rw [wipe_get, if_neg n1] at h3
    rw [wipe_get, if_neg n2] at h4
    exact R.apart i j p xs ys h1 h2 h3 h4
def hideE : En → En
  | .hold _ _ => .un
  | e => e
def blkE (ρ : List En) (vs : List Nat) : List En := (wipeE ρ vs).map hideE
theorem Rep.sub_frame {F : Fx} {ρ g σ H S} (R : Rep F ρ g σ H S) : Rep ⟨F.c, H, S⟩ [] g [] H S :=
  ⟨R.sub, R.hand, fun b o e _ => e, fun b _ h => h, fun i e h => by simp at h, fun i j p xs ys h => by simp at h⟩
/-- within a block: the names of good standing, in a frame of their own -/
theorem Rep.inner {F F' : Fx} {ρ g g' σ H H' S S'} (R : Rep F ρ g σ H S) (vs : List Nat) (sm : Same S S') (e : F'.c = F.c) (R' : Rep F' [] g' [] H' S') : Rep ⟨F'.c, H', S'⟩ (blkE ρ vs) g' (L2.wipe σ vs) H' S' := by
  have W := R.wipe vs
  have B := R'.sub_frame
  refine ⟨B.sub, B.hand, B.keep, B.stay, fun i en h => ?_, fun i j p xs ys h1 h2 h3 h4 => ?_⟩
  · unfold blkE at h
    rw [List.getElem?_map, Option.map_eq_some_iff] at h
    obtain ⟨e0, h1, h2⟩ := h
    obtain ⟨so, k1, k2⟩ := W.slots i e0 h1
    refine ⟨so, k1, ?_⟩
    subst h2
    cases e0 with
    | un => trivial
    | hold ks xs => trivial
    | dt d => obtain ⟨v, q1, q2⟩ := k2; exact ⟨v, q1, by show Dn F'.c S' v d; rw [e]; exact q2.mono sm⟩
  · unfold blkE at h1
    rw [List.getElem?_map, Option.map_eq_some_iff] at h1
    obtain ⟨e0, _, h2⟩ := h1
    cases e0 <;> simp [hideE] at h2
def compD (gs : FG) (ft : FT) (fe : FE) : List D → List En → Gh → M (List D)
  | [], ρ, g => some (.ok [] g)
  | d :: ds, ρ, g => match gs d ρ with
    | none => none
    | some ρ1 => match ft ρ1 g with
      | some (.ok true g1) => match fe ρ1 g1 with
        | some (.ok y g2) => match compD gs ft fe ds ρ g2 with
          | some (.ok ys g3) => some (.ok (y :: ys) g3)
          | _ => none
        | _ => none
      | some (.ok false g1) => compD gs ft fe ds ρ g1
      | _ => none
@[simp] def tY : FT := fun _ g => some (.ok true g)
/-- the list of the block's values, a new one -/
@[simp] def cLc (fi : FI) (vs : List Nat) (gs : FG) (ft : FT) (fe : FE) : FE := fun ρ g => (fi ρ g).bd fun ds g1 => (compD gs ft fe ds (blkE ρ vs) g1).bd fun ys g2 => if ys.length ≤ 1000 then some (.ok (.lst ys) g2) else none
theorem Rep.write1 {F : Fx} {g H S} (R : Rep F [] g [] H S) {p : Addr} {o : HO} (h1 : S p = none) (h2 : F.HE p = none) (h3 : F.c.ah ≠ some p) : Rep F [] g [] (upd H p o) S :=
  ⟨fun b u e => by rw [upd_ne (ne_of_none e h1)]; exact R.sub _ _ e, R.hand.up1 h3, fun b u e h => by rw [upd_ne (ne_of_none e h2)]; exact R.keep b u e h, R.stay, fun i e h => by simp at h, fun i j p xs ys h => by simp at h⟩
theorem Rep.freeze1 {F : Fx} {g H S} (R : Rep F [] g [] H S) {p : Addr} {vs : List V} (h0 : H p = some (.lst vs)) (h1 : S p = none) (h2 : F.HE p = none) (h3 : F.c.ah ≠ some p) : Rep F [] g [] H (upd S p (.lst vs)) := by
  have sm : Same S (upd S p (.lst vs)) := Same.upd_new h1
  refine ⟨fun b o e => ?_, ?_, R.keep, fun b e h => ?_, fun i e h => by simp at h, fun i j p xs ys h => by simp at h⟩
  · by_cases hb : b = p
    · subst hb; rw [upd_same] at e; cases e; exact h0
    · rw [upd_ne hb] at e; exact R.sub _ _ e
  · have h := R.hand
    unfold HandAt at h ⊢
    cases ea : F.c.ah with
    | none => trivial
    | some a =>
      rw [ea] at h
      obtain ⟨k1, q, k2, k3⟩ := h
      have ne : a ≠ p := fun z => h3 (by rw [ea, z])
      exact ⟨by rw [upd_ne ne]; exact k1, q, k2, sm _ _ k3⟩
  · have ne : b ≠ p := fun z => e (by rw [z]; exact h2)
    rw [upd_ne ne]; exact R.stay b e h
/-- behind something that was run within the frame ⟨H, S⟩ -/
theorem Rep.behind {F : Fx} {g g' H H' S S'} (R : Rep F [] g [] H S) (sm : Same S S') (B : Rep ⟨F.c, H, S⟩ [] g' [] H' S') : Rep F [] g' [] H' S' := R.back sm B
theorem compD_cons {gs : FG} {ft : FT} {fe : FE} {d : D} {ds : List D} {ρ : List En} {g : Gh} {ys : List D} {g' : Gh} (h : compD gs ft fe (d :: ds) ρ g = some (.ok ys g')) :
    ∃ ρ1 b g1, gs d ρ = some ρ1 ∧ ft ρ1 g = some (.ok b g1) ∧ ((b = true ∧ ∃ y g2 zs, fe ρ1 g1 = some (.ok y g2) ∧ compD gs ft fe ds ρ g2 = some (.ok zs g') ∧ ys = y :: zs) ∨ (b = false ∧ compD gs ft fe ds ρ g1 = some (.ok ys g'))) := by
  unfold compD at h
  split at h
  · cases h
  rename_i ρ1 e1
  split at h
  · rename_i g1 e2
    split at h
    · rename_i y g2 e3
      split at h
      · rename_i zs g3 e4
        cases h
        exact ⟨ρ1, true, g1, e1, e2, .inl ⟨rfl, y, g2, zs, e3, e4, rfl⟩⟩
      · cases h
    · cases h
  · rename_i g1 e2
    exact ⟨ρ1, false, g1, e1, e2, .inr ⟨rfl, h⟩⟩
  · cases h
theorem compD_ok {gs : FG} {ft : FT} {fe : FE} : ∀ {ds : List D} {ρ : List En} {g : Gh} {o : Out (List D)}, compD gs ft fe ds ρ g = some o → ∃ ys g', o = .ok ys g'
  | [], ρ, g, o, h => by simp [compD] at h; exact ⟨_, _, h.symm⟩
  | d :: ds, ρ, g, o, h => by
    unfold compD at h
    split at h
    · cases h
    split at h
    · split at h
      · split at h
        · cases h; exact ⟨_, _, rfl⟩
        · cases h
      · cases h
    · exact compD_ok h
    · cases h
theorem re_lc {wi : TI} {fi : FI} {tg : TG} {gs : FG} {tt : TT} {ft : FT} {te : TE} {fe : FE} {vs : List Nat} (hi : @RG It (List D) rI c E wi fi) (hg : RTg c tg gs) (hw : TGw tg vs) (hm : TGm tg) (ht : RT c (fun _ => E0) tt ft) (he : RE c (fun _ => E0) te fe) : RE c E (tLc wi tg tt te vs) (cLc fi vs gs ft fe) := by
  refine RG.bind (rel := rI) (rel' := Dn) (r := fun σ J H1 (Q : VK) => ∀ D, H1 D = none → ∃ W : Nat → Nat → Hp → Prop, (∃ m, W 0 m (upd H1 D (.lst []))) ∧ ∀ i m H, W i m H →
    (J.stop i H ∧ Q (.ref D) H) ∨ (J.go i H ∧ ∃ Nx : Hp → Prop, (∀ H', Nx H' → ∃ m', m' < m ∧ W (i + 1) m' H') ∧ ∀ x H', J.yld i H x H' → tg x (wipe σ vs) H' fun σ2 H2 => wipe σ2 vs = wipe σ vs ∧ tt σ2 H2 fun b H3 =>
      if b = true then te σ2 H3 fun y H4 => ∃ acc, H4 D = some (.lst acc) ∧ acc.length < sizeLine ∧ Nx (upd H4 D (.lst (acc ++ [y]))) else Nx H3))
    (k := fun ρ ds g1 => (compD gs ft fe ds (blkE ρ vs) g1).bd fun ys g2 => if ys.length ≤ 1000 then some (.ok (.lst ys) g2) else none) hi fun F ρ g σ H S Q J ds e R hJ G => ?_
  intro p hp
  cases hc : compD gs ft fe ds (blkE ρ vs) g with
  | none => rw [hc] at G; exact G.elim
  | some o =>
  obtain ⟨ys, gE, rfl⟩ := compD_ok hc
  rw [hc] at G
  simp only [M.bd] at G
  by_cases hl : ys.length ≤ 1000
  case neg => rw [if_neg hl] at G; exact G.elim
  rw [if_pos hl] at G
  have pah : F.c.ah ≠ some p := R.new_ah hp
  have R0 := R.sub_frame
  let Pv : Nat → Hp → Prop := fun i H' => ∃ g' S' us zs rest, Same S S' ∧ Rep ⟨F.c, H, S⟩ [] g' [] H' S' ∧ H' p = some (.lst us) ∧ S' p = none ∧ Dns F.c S' us zs ∧ compD gs ft fe (ds.drop i) (blkE ρ vs) g' = some (.ok rest gE) ∧ zs ++ rest = ys
  refine ⟨fun i m H' => m = ds.length - i ∧ i ≤ ds.length ∧ Pv i H', ⟨ds.length, by simp, Nat.zero_le _, g, S, [], [], ys, Same.refl S, R0.write1 (R.sub.free hp) hp pah, upd_same, R.sub.free hp, .nil, hc, rfl⟩, ?_⟩
  rintro i m H' ⟨rfl, hi', g', S', us, zs, rest, sm, R', hD, hS, hz, hcr, hy⟩
  by_cases hlt : i < ds.length
  · refine .inr ?_
    rw [drop_of hlt] at hcr
    obtain ⟨ρ1, b, g1, e1, e2, alt⟩ := compD_cons hcr
    have RI := Rep.inner (F' := ⟨F.c, H, S⟩) R vs sm rfl R'
    obtain ⟨go, yl⟩ := hJ.go ⟨F.c, H', S'⟩ _ g' (wipe σ vs) H' S' i ds[i] e sm RI (List.getElem?_eq_getElem hlt)
    refine ⟨go, Pv (i + 1), fun H2 p' => ⟨ds.length - (i + 1), by omega, rfl, hlt, p'⟩, fun x H1 y => ?_⟩
    obtain ⟨S1, sm1, R1, hx⟩ := yl x H1 y
    have hgw := hw x (wipe σ vs) H1 (fun σ2 H2 => tt σ2 H2 fun b H3 =>
      if b = true then te σ2 H3 fun y H4 => ∃ acc, H4 p = some (.lst acc) ∧ acc.length < sizeLine ∧ Pv (i + 1) (upd H4 p (.lst (acc ++ [y]))) else Pv (i + 1) H3)
    have ww : wipe (wipe σ vs) vs = wipe σ vs := by
      apply List.ext_getElem?
      intro j
      rw [wipe_get, wipe_get, wipe_length]
      split <;> rfl
    refine hm.mono _ _ _ _ _ (fun σ2 H2 q => ⟨q.2.trans ww, q.1⟩) (hgw ?_)
    refine hg.run ⟨F.c, H', S'⟩ _ g' (wipe σ vs) H1 S1 x _ _ e R1 hx ?_
    rw [e1]
    intro σ2 R2
    refine ht.run ⟨F.c, H', S'⟩ _ g' σ2 H1 S1 _ e R2 ?_
    rw [e2]
    intro b' H3 S3 sm3 R3 hb
    have hb : b' = b := hb
    subst hb
    have keep : ∀ {ρx gx σx Hx Sx}, Rep ⟨F.c, H', S'⟩ ρx gx σx Hx Sx → Hx p = some (.lst us) ∧ Sx p = none := fun {ρx gx σx Hx Sx} Rx => ⟨Rx.keep p _ hD pah, Rx.stay p (by show H' p ≠ none; rw [hD]; simp) hS⟩
    rcases alt with ⟨rfl, y, g2, zs', e3, e4, rfl⟩ | ⟨rfl, e4⟩
    · rw [if_pos rfl]
      refine he.run ⟨F.c, H', S'⟩ _ g1 σ2 H3 S3 _ e R3 ?_
      rw [e3]
      intro y' H4 S4 sm4 R4 hy4
      obtain ⟨k1, k2⟩ := keep R4
      have sm' : Same S' S4 := sm1.trans (sm3.trans sm4)
      refine ⟨us, k1, ?_, g2, S4, us ++ [y'], zs ++ [y], zs', sm.trans sm', (Rep.behind R' sm' R4.bare).write1 k2 hp pah, upd_same, k2, (hz.mono sm').append (.cons hy4 .nil), e4, by rw [← hy]; simp⟩
      have : us.length ≤ ys.length := by rw [hz.length, ← hy]; simp
      exact small1000 (Nat.le_trans this hl)
    · rw [if_neg (by simp)]
      obtain ⟨k1, k2⟩ := keep R3
      have sm' : Same S' S3 := sm1.trans sm3
      exact ⟨g1, S3, us, zs, rest, sm.trans sm', Rep.behind R' sm' R3.bare, k1, k2, hz.mono sm', e4, hy⟩
  · have e1 : i = ds.length := by omega
    subst e1
    rw [List.drop_length] at hcr
    simp only [compD] at hcr
    cases hcr
    rw [List.append_nil] at hy
    subst hy
    refine .inl ⟨?_, ?_⟩
    · exact hJ.stop ⟨F.c, H, S⟩ _ _ [] H' S' e sm R'
    · have R2 := R'.freeze1 hD hS hp pah
      refine G (.ref p) H' _ (sm.trans (Same.upd_new hS)) (R.back (sm.trans (Same.upd_new hS)) R2) ?_
      exact .lst upd_same (hz.mono (Same.upd_new hS))
end
end FD
set_option Elab.async false
set_option linter.all false
set_option maxRecDepth 100000
set_option maxHeartbeats 2000000
namespace FD
open PySem L2
section
variable {X : Cx} {ah : Option Addr} {E : St → XK} {c : DC}
/-! ### one reading for all contexts of a block -/
theorem all_PE {ι : Type} {Y : ι → Cx} {e : Expr} {f : FE} (hc : ∀ i, dc (Y i) ah = c) (h : ∀ i, PF (Y i) ah E e f) : ∃ t, (∀ i, PE (Y i) e t) ∧ RE c E t f := by
  have h' : ∀ i, ∃ t, PE (Y i) e t ∧ RE c E t f := fun i => by
    obtain ⟨t, p, r⟩ := h i
    exact ⟨t, p, hc i ▸ r⟩
  by_cases hn : Nonempty ι
  · obtain ⟨i0⟩ := hn
    refine ⟨fun σ H Q => ∀ i, (h' i).choose σ H Q, fun i => ⟨fun pins s σ H Q I hw => (h' i).choose_spec.1.run pins s σ H Q I (hw i)⟩, ⟨fun F ρ g σ H S Q e R G i => ?_⟩⟩
    exact (h' i).choose_spec.2.run F ρ g σ H S Q e R G
  · exact ⟨fun _ _ _ => True, fun i => absurd ⟨i⟩ hn, ⟨fun _ _ _ _ _ _ _ _ _ _ => trivial⟩⟩
theorem all_PG {ι : Type} {Y : ι → Cx} {e : Expr} {f : FG} {vs : List Nat} (hc : ∀ i, dc (Y i) ah = c) (h : ∀ i, PFG (Y i) ah e f vs) : ∃ t, (∀ i, PG (Y i) e t) ∧ RTg c t f ∧ TGw t vs ∧ TGm t := by
  have h' : ∀ i, ∃ t, PG (Y i) e t ∧ RTg c t f ∧ TGw t vs ∧ TGm t := fun i => by
    obtain ⟨t, p, r, w, m⟩ := h i
    exact ⟨t, p, hc i ▸ r, w, m⟩
  refine ⟨fun v σ H Q => ∀ i, (h' i).choose v σ H Q, fun i => ⟨fun pins s σ H v u Q I r hw => (h' i).choose_spec.1.run pins s σ H v u Q I r (hw i)⟩, ⟨fun F ρ gh σ H S v d Q e R hv G i => ?_⟩, fun x σ H Q hw i => ?_, ⟨fun x σ H Q Q' hq hw i => ?_⟩⟩
  · exact (h' i).choose_spec.2.1.run F ρ gh σ H S v d Q e R hv G
  · exact (h' i).choose_spec.2.2.1 x σ H Q (hw i)
  · exact (h' i).choose_spec.2.2.2.mono x σ H Q Q' hq (hw i)
/-- a block's tests -/
def PFTs (X : Cx) (ah : Option Addr) (ifs : List Expr) (f : FT) : Prop := ∃ t, PTs X ifs t ∧ RT (dc X ah) (fun _ => E0) t f
theorem pfts_nil : PFTs X ah [] tY := ⟨_, pts_nil, ⟨fun F ρ g σ H S Q e R G => G.ret (b := true) R rfl⟩⟩
theorem pfts_one {e : Expr} {f : FT} (h : PFT X ah (fun _ => E0) e f) : PFTs X ah [e] f := by
  obtain ⟨t, p, r⟩ := h
  exact ⟨_, pts_one p, r⟩
theorem all_PTs {ι : Type} {Y : ι → Cx} {es : List Expr} {f : FT} (hc : ∀ i, dc (Y i) ah = c) (h : ∀ i, PFTs (Y i) ah es f) : ∃ t, (∀ i, PTs (Y i) es t) ∧ RT c (fun _ => E0) t f := by
  have h' : ∀ i, ∃ t, PTs (Y i) es t ∧ RT c (fun _ => E0) t f := fun i => by
    obtain ⟨t, p, r⟩ := h i
    exact ⟨t, p, hc i ▸ r⟩
  refine ⟨fun σ H Q => ∀ i, (h' i).choose σ H Q, fun i => ⟨fun pins s σ H Q I hw => (h' i).choose_spec.1.run pins s σ H Q I (hw i)⟩, ⟨fun F ρ g σ H S Q e R G i => ?_⟩⟩
  exact (h' i).choose_spec.2.run F ρ g σ H S Q e R G
abbrev BI := Shared × Hp × Addr × List (Str × Addr) × List Addr
abbrev bx (X : Cx) (scope : Scope) (i : BI) : Cx := X.blk i.1 i.2.1 scope (compEnvC scope i.2.2.2.1 i.2.2.1 X.env) i.2.2.2.2
/-- [e for x in xs if t] as a value -/
theorem pf_lc {elt tg iter : Expr} {ifs : List Expr} {scope : Scope} (own : List (Str × Nat)) {pos : Pos} {fi : FI} {gs : FG} {ft : FT} {fe : FE} (hN : X.N.Nodup) (hi : PFI X ah E tg iter fi)
    (hg : ∀ i : BI, PFG (bx X scope i) ah tg gs (own.map (·.2))) (ht : ∀ i : BI, PFTs (bx X scope i) ah ifs ft) (he : ∀ i : BI, PF (bx X scope i) ah (fun _ => E0) elt fe)
    (ok : BlkOk X.N X.env.scope scope own) (hc : X.calm = true := by rfl) (hs : ∀ x, foldedSetIterable iter X.env x = pure x := by intro _; rfl) :
    PF X ah E (.ListComp elt [⟨tg, iter, ifs, 0⟩] scope pos) (cLc fi (own.map (·.2)) gs ft fe) := by
  obtain ⟨t, p, r⟩ := hi
  obtain ⟨tg', pg, rg, wg, mg⟩ := all_PG (Y := bx X scope) (c := dc X ah) (fun _ => rfl) hg
  obtain ⟨tt, pt, rt⟩ := all_PTs (Y := bx X scope) (c := dc X ah) (fun _ => rfl) ht
  obtain ⟨te, pe, re⟩ := all_PE (Y := bx X scope) (c := dc X ah) (fun _ => rfl) he
  exact ⟨_, pe_lc hc hN p ok (fun s H C cl fp => pg (s, H, C, cl, fp)) (fun s H C cl fp => pt (s, H, C, cl, fp)) (fun s H C cl fp => pe (s, H, C, cl, fp)) hs, re_lc r rg wg mg rt re⟩
/-- y = [..] -/
theorem pfs_lc {E' : XK} (i : Nat) {y : Str} {py : Pos} {elt tg iter : Expr} {ifs : List Expr} {scope : Scope} (own : List (Str × Nat)) {pos spos : Pos} {fi : FI} {gs : FG} {ft : FT} {fe : FE} (hN : X.N.Nodup) (hi : PFI X ah (fun _ => E') tg iter fi)
    (hg : ∀ i : BI, PFG (bx X scope i) ah tg gs (own.map (·.2))) (ht : ∀ i : BI, PFTs (bx X scope i) ah ifs ft) (he : ∀ i : BI, PF (bx X scope i) ah (fun _ => E0) elt fe)
    (ok : BlkOk X.N X.env.scope scope own) (hsw : swapsWith (.ListComp elt [⟨tg, iter, ifs, 0⟩] scope pos) (some (.Name y py)) spos.line X.env = pure true)
    (hy : X.N[i]? = some y := by rfl) (hyl : X.env.scope.names.lookup y = some .local := by rfl) (hc : X.calm = true := by rfl) (hs : ∀ x, foldedSetIterable iter X.env x = pure x := by intro _; rfl) :
    PFS X ah E' (.Assign [.Name y py] (.ListComp elt [⟨tg, iter, ifs, 0⟩] scope pos) spos) (sAsg (cLc fi (own.map (·.2)) gs ft fe) (gN i)) := by
  obtain ⟨t, p, r⟩ := hi
  obtain ⟨tg', pg, rg, wg, mg⟩ := all_PG (Y := bx X scope) (c := dc X ah) (fun _ => rfl) hg
  obtain ⟨tt, pt, rt⟩ := all_PTs (Y := bx X scope) (c := dc X ah) (fun _ => rfl) ht
  obtain ⟨te, pe, re⟩ := all_PE (Y := bx X scope) (c := dc X ah) (fun _ => rfl) he
  exact ⟨_, ps_setLc hc hN hy hyl hsw p ok (fun s H C cl fp => pg (s, H, C, cl, fp)) (fun s H C cl fp => pt (s, H, C, cl, fp)) (fun s H C cl fp => pe (s, H, C, cl, fp)) hs, rs_asg (re_lc r rg wg mg rt re) (rt_name i)⟩

/-! ### calls of built-in things -/
def CallS (c : DC) (r : List V → Hp → VK → Prop) (op : List D → Option D) : Prop :=
  ∀ (E : XK) F ρ g σ H S Q vs ds, F.c = c → Rep F ρ g σ H S → Dns c S vs ds → Got Dn F ρ σ S E Q (lift (op ds) g) → r vs H Q
@[simp] def cCall (op : List D → Option D) (a : FA) : FE := fun ρ g => (a ρ g).bd fun xs g1 => lift (op xs) g1
theorem re_callB {r : List V → Hp → VK → Prop} {op : List D → Option D} {t : TA} {a : FA} (ho : CallS c r op) (ha : RA c E t a) : RE c E (tCB r t) (cCall op a) := by
  refine RG.bind (r := fun σ vs H1 (Q : VK) => r vs H1 Q) (k := fun ρ xs g1 => lift (op xs) g1) ha fun F ρ g σ H S Q x d e R hx G => ?_
  exact ho (E σ) F ρ g σ H S Q x d e R hx G
theorem pf_callB {x : Str} {id : String} {r : List V → Hp → VK → Prop} {op : List D → Option D} {e : Expr} {es : List Expr} {a : FA} {p pos : Pos} (hr : CallR X (.builtin id) r) (ho : CallS (dc X ah) r op) (hm : X.mg x = none) (hv : bootBuiltins x = some (.builtin id)) (ha : PFA X ah E (e :: es) a)
    (hg : Gl X x := by rfl) (hn : x ≠ "__name__" := by decide) (hdb : (x == ("__debug__" : Str)) = false := by decide)
    (he : starEach (e :: es) X.env = (false, eval e X.env) :: starEach es X.env := by rfl) (hpl : (backTo pos (starEach es X.env)).any (·.1) = false := by rfl) : PF X ah E (.Call (.Name x p) (e :: es) [] pos) (cCall op a) := by
  obtain ⟨t, q, s⟩ := ha
  exact ⟨_, pe_callB hr hg hm hv q hn hdb he hpl, re_callB ho s⟩
theorem pf_callTy {x : Str} {T : String} {r : List V → Hp → VK → Prop} {op : List D → Option D} {e : Expr} {es : List Expr} {a : FA} {p pos : Pos} (hr : CallR X (.type T) r) (ho : CallS (dc X ah) r op) (hm : X.mg x = none) (hv : bootBuiltins x = some (.type T)) (ha : PFA X ah E (e :: es) a)
    (hg : Gl X x := by rfl) (hn : x ≠ "__name__" := by decide) (hdb : (x == ("__debug__" : Str)) = false := by decide)
    (he : starEach (e :: es) X.env = (false, eval e X.env) :: starEach es X.env := by rfl) (hpl : (backTo pos (starEach es X.env)).any (·.1) = false := by rfl) : PF X ah E (.Call (.Name x p) (e :: es) [] pos) (cCall op a) := by
  obtain ⟨t, q, s⟩ := ha
  exact ⟨_, pe_callTy hr hg hm hv q hn hdb he hpl, re_callB ho s⟩

def lenD : List D → Option D
  | [.tup xs] => some (.int xs.length)
  | [.lst xs] => some (.int xs.length)
  | _ => none
abbrev rLenD (K : PySem.W.Frag) : List V → Hp → VK → Prop := fun xs H Q => ∃ p ys, xs = [.ref p] ∧ (SqL K H p ys ∨ SqT K H p ys) ∧ Q (.int ys.length) H
theorem cs_len : CallS c (rLenD c.K) lenD := by
  intro E F ρ g σ H S Q vs ds e R hx G
  subst e
  unfold lenD at G
  split at G
  · obtain ⟨v, rfl, hv⟩ := hx.one
    cases hv with
    | tup h hs => exact ⟨_, _, rfl, .inr (Same.tup R.sub h), by rw [hs.length]; exact G.ret R (.int _)⟩
  · obtain ⟨v, rfl, hv⟩ := hx.one
    cases hv with
    | lst h hs => exact ⟨_, _, rfl, .inl (SqL.of (R.sub _ _ h)), by rw [hs.length]; exact G.ret R (.int _)⟩
  · exact G.elim
theorem pf_len {e : Expr} {a : FA} {p pos : Pos} (hm : X.mg "len" = none) (ha : PFA X ah E [e] a) (hg : Gl X "len" := by rfl)
    (he : starEach [e] X.env = (false, eval e X.env) :: starEach [] X.env := by rfl) (hpl : (backTo pos (starEach [] X.env)).any (·.1) = false := by rfl) : PF X ah E (.Call (.Name "len" p) [e] [] pos) (cCall lenD a) := pf_callB call_len_seq cs_len hm PySem.boot_len ha hg (by decide) (by decide) he hpl
def tupleD : List D → Option D
  | [.tup xs] => some (.tup xs)
  | [.lst xs] => some (.tup xs)
  | _ => none
abbrev rTupleD (K : PySem.W.Frag) : List V → Hp → VK → Prop := fun xs H Q => ∃ p ys, xs = [.ref p] ∧ ((SqL K H p ys ∧ ∀ l, H l = none → Q (.ref l) (upd H l (.tup ys))) ∨ (SqT K H p ys ∧ Q (.ref p) H))
theorem cs_tuple : CallS c (rTupleD c.K) tupleD := by
  intro E F ρ g σ H S Q vs ds e R hx G
  subst e
  unfold tupleD at G
  split at G
  · obtain ⟨v, rfl, hv⟩ := hx.one
    cases hv with
    | tup h hs => exact ⟨_, _, rfl, .inr ⟨Same.tup R.sub h, G.ret R (.tup h hs)⟩⟩
  · obtain ⟨v, rfl, hv⟩ := hx.one
    cases hv with
    | lst h hs => exact ⟨_, _, rfl, .inl ⟨SqL.of (R.sub _ _ h), fun l hl => G.new R hl (.tup (SqT.of upd_same) (hs.mono (R.tosame _ hl)))⟩⟩
  · exact G.elim
def listD : List D → Option D
  | [.tup xs] => some (.lst xs)
  | [.lst xs] => some (.lst xs)
  | _ => none
abbrev rListD (K : PySem.W.Frag) : List V → Hp → VK → Prop := fun xs H Q => ∃ p ys, xs = [.ref p] ∧ (SqL K H p ys ∨ SqT K H p ys) ∧ ∀ l, H l = none → Q (.ref l) (upd H l (.lst ys))
theorem cs_list : CallS c (rListD c.K) listD := by
  intro E F ρ g σ H S Q vs ds e R hx G
  subst e
  unfold listD at G
  split at G
  · obtain ⟨v, rfl, hv⟩ := hx.one
    cases hv with
    | tup h hs => exact ⟨_, _, rfl, .inr (Same.tup R.sub h), fun l hl => G.new R hl (.lst upd_same (hs.mono (R.tosame _ hl)))⟩
  · obtain ⟨v, rfl, hv⟩ := hx.one
    cases hv with
    | lst h hs => exact ⟨_, _, rfl, .inl (SqL.of (R.sub _ _ h)), fun l hl => G.new R hl (.lst upd_same (hs.mono (R.tosame _ hl)))⟩
  · exact G.elim
def intOf : List D → Option D
  | [.int i] => some (.int i)
  | [.bl k] => some (.int (if k then 1 else 0))
  | _ => none
theorem cs_int : CallS c (fun xs H Q => (∃ i, xs = [.int i] ∧ Q (.int i) H) ∨ ∃ k, xs = [.bl k] ∧ Q (.int (if k then 1 else 0)) H) intOf := by
  intro E F ρ g σ H S Q vs ds e R hx G
  unfold intOf at G
  split at G
  · obtain ⟨v, rfl, hv⟩ := hx.one
    cases hv.intE
    exact .inl ⟨_, rfl, G.ret R (.int _)⟩
  · obtain ⟨v, rfl, hv⟩ := hx.one
    cases hv.blE
    exact .inr ⟨_, rfl, G.ret R (.int _)⟩
  · exact G.elim
/-- all of a list of flags -/
def flags : List D → Option (List Bool)
  | [] => some []
  | .bl b :: ds => (flags ds).map (b :: ·)
  | _ => none
theorem flags_of {S : Hp} : ∀ {vs : List V} {ds : List D} {bs : List Bool}, Dns c S vs ds → flags ds = some bs → vs = bs.map V.bl
  | _, _, _, .nil, e => by simp [flags] at e; subst e; rfl
  | _, _, _, .cons h hs, e => by
    cases h <;> simp only [flags] at e <;> try cases e
    rw [Option.map_eq_some_iff] at e
    obtain ⟨bs, e1, rfl⟩ := e
    rw [flags_of hs e1]; rfl
def allD : List D → Option D
  | [.lst ds] => (flags ds).map fun bs => .bl (bs.all id)
  | _ => none
/-- the greater of two numbers -/
def max2D : List D → Option D
  | [.int i, .int j] => some (.int (if j > i then j else i))
  | _ => none
abbrev rMax2 : List V → Hp → VK → Prop := fun vs H Q => ∃ i j, vs = [.int i, .int j] ∧ Q (.int (if j > i then j else i)) H
theorem cr_max2 {X : Cx} (hc : X.calm = true) : CallR X (.builtin "max") rMax2 := by
  intro pins s σ H vs us Q I r h
  obtain ⟨i, j, rfl, q⟩ := h
  cases r with
  | cons r1 r =>
  cases r with
  | cons r2 r =>
  cases r
  obtain ⟨t, rfl⟩ := r1
  obtain ⟨u, rfl⟩ := r2
  exact max_two_ints (I.ok.hd hc) fun h' tk hk => ⟨.int (if j > i then j else i), H, I.kept hk, by split <;> exact ⟨_, rfl⟩, q⟩
theorem cs_max2 : CallS c rMax2 max2D := by
  intro E F ρ g σ H S Q vs ds e R hx G
  unfold max2D at G
  split at G
  · obtain ⟨v, w, rfl, hv, hw⟩ := hx.two
    cases hv.intE
    cases hw.intE
    exact ⟨_, _, rfl, G.ret R (.int _)⟩
  · exact G.elim
def anyD : List D → Option D
  | [.lst ds] => (flags ds).map fun bs => .bl (bs.any id)
  | _ => none
theorem cs_all : CallS c (rAll c.K) allD := by
  intro E F ρ g σ H S Q vs ds e R hx G
  subst e
  unfold allD at G
  split at G
  · rename_i ds
    obtain ⟨v, rfl, hv⟩ := hx.one
    cases hv with
    | lst h hs =>
      cases q : flags ds with
      | none => rw [q] at G; exact G.elim
      | some bs =>
        rw [q] at G
        have := flags_of hs q
        subst this
        exact ⟨_, bs, rfl, SqL.of (R.sub _ _ h), G.ret R (.bl _)⟩
  · exact G.elim
theorem cs_any : CallS c (rAny c.K) anyD := by
  intro E F ρ g σ H S Q vs ds e R hx G
  subst e
  unfold anyD at G
  split at G
  · rename_i ds
    obtain ⟨v, rfl, hv⟩ := hx.one
    cases hv with
    | lst h hs =>
      cases q : flags ds with
      | none => rw [q] at G; exact G.elim
      | some bs =>
        rw [q] at G
        have := flags_of hs q
        subst this
        exact ⟨_, bs, rfl, SqL.of (R.sub _ _ h), G.ret R (.bl _)⟩
  · exact G.elim

/-! ### isinstance of a built-in type -/
/-- what is known of an own class whose things are told apart from the built-in ones -/
structure ClsI (K : PySem.W.Frag) (C : Addr) : Prop where
  cl : Cls K C
  ha : PySem.W.findIn K (.ref C) "__class__" = some (some (.builtin "object.__class__"))
  hn : PySem.W.specialIn K (.builtin "object.__class__") "__get__" = some (some (.builtin "getset_descriptor.__get__"))
  htk : PySem.W.takesIn K (.builtin "object.__class__") = some true
  hm : PySem.W.mroIn K C (.type "object") = some true
  no : ∀ t : String, (t = "int" ∨ t = "bool" ∨ t = "str" ∨ t = "tuple" ∨ t = "list") → PySem.W.kitOne K (.ref C) (.type t) = some false
def isTyB (t : String) : D → Bool
  | .non => false
  | .bl _ => t == "bool" || t == "int"
  | .int _ => t == "int"
  | .str _ => t == "str"
  | .tup _ => t == "tuple"
  | .lst _ => t == "list"
  | _ => false
def isTyD (t : String) : D → Option D
  | .hnd => none
  | .rng _ _ => none
  | .scr _ => none
  | .dct _ _ => none
  | .obj c _ _ => if c = "Play" then some (.bl false) else none
  | d => some (.bl (isTyB t d))
theorem kitB_all (t : String) (h : t = "int" ∨ t = "bool" ∨ t = "str" ∨ t = "tuple" ∨ t = "list") :
    kitB "NoneType" t = some false ∧ kitB "bool" t = some (t == "bool" || t == "int") ∧ kitB "int" t = some (t == "int") ∧ kitB "str" t = some (t == "str") ∧ kitB "tuple" t = some (t == "tuple") ∧ kitB "list" t = some (t == "list") ∧ kitB "dict" t = some false := by
  rcases h with rfl | rfl | rfl | rfl | rfl <;> decide +kernel
@[simp] def cIs (t : String) (a : FE) : FE := c1 (isTyD t) a
theorem re_isTy {t : String} {te : TE} {a : FE} (ht : t = "int" ∨ t = "bool" ∨ t = "str" ∨ t = "tuple" ∨ t = "list") (ho : ∀ C, c.mg "Play" = some (.ref C) → ClsI c.K C)
    (ha : RE c E te a) : RE c E (tCB (rIsi c.K) (tCons te (tCons (tC (.ty t)) tNil))) (cIs t a) := by
  refine RG.bind (r := fun σ x H1 (Q : VK) => rIsi c.K [x, .ty t] H1 Q) (k := fun ρ x g1 => lift (isTyD t x) g1) ha fun F ρ g σ H S Q x d e R hx G => ?_
  obtain ⟨k0, k1, k2, k3, k4, k5, k6⟩ := kitB_all t ht
  cases hx with
  | non => exact ⟨_, _, _, _, _, rfl, .ty t, .base .non, kit_ty k0, G.ret R (.bl _)⟩
  | bl b => exact ⟨_, _, _, _, _, rfl, .ty t, .base (.bl b), kit_ty k1, G.ret R (.bl _)⟩
  | int b => exact ⟨_, _, _, _, _, rfl, .ty t, .base (.int b), kit_ty k2, G.ret R (.bl _)⟩
  | str b => exact ⟨_, _, _, _, _, rfl, .ty t, .base (.str b), kit_ty k3, G.ret R (.bl _)⟩
  | tup h hs =>
    refine ⟨_, _, .type "tuple", _, _, rfl, .ty t, ?_, kit_ty k4, G.ret R (.bl _)⟩
    rcases Same.tup R.sub h with (h | ⟨o, h⟩) | ⟨o, its, n, h, hc, _⟩
    · exact .base (.tup h)
    · exact .fTuple h
    · exact .kTuple h hc
  | lst h hs => exact ⟨_, _, _, _, _, rfl, .ty t, .base (.lst (R.sub _ _ h)), kit_ty k5, G.ret R (.bl _)⟩
  | emp h => exact ⟨_, _, _, _, _, rfl, .ty t, .base (.dK (R.sub _ _ h)), kit_ty k6, G.ret R (.bl _)⟩
  | obj m h k hs =>
    simp only [isTyD] at G
    rename_i cn _ _ _
    by_cases hc : cn = "Play"
    case neg => rw [if_neg hc] at G; exact G.elim
    rw [if_pos hc] at G
    subst hc
    have ci := ho _ m
    exact ⟨_, _, _, _, _, rfl, .ty t, .base (.ins (R.sub _ _ h) ci.cl ci.ha ci.hn ci.htk ci.hm), ci.no t ht, G.ret R (.bl _)⟩
  | hnd h => exact G.elim
  | rng h => exact G.elim
  | scr h => exact G.elim
  | dct h l hs => exact G.elim
end
end FD
set_option Elab.async false
set_option linter.all false
set_option maxRecDepth 100000
set_option maxHeartbeats 2000000
namespace FD
open PySem L2 PyProof.Rows
section
variable {X : Cx} {ah : Option Addr} {E : L2.St → XK} {c : DC}
/-! ### isinstance(x, T) -/
theorem pf_is {t : String} {e : Expr} {a : FE} {p p2 pos : Pos} (ht : t = "int" ∨ t = "bool" ∨ t = "str" ∨ t = "tuple" ∨ t = "list") (ho : ∀ C, X.mg "Play" = some (.ref C) → ClsI X.K C) (hm : X.mg "isinstance" = none) (hm2 : X.mg (Str.ofString t) = none)
    (hv2 : bootBuiltins (Str.ofString t) = some (.type t)) (ha : PF X ah E e a) (hg : Gl X "isinstance" := by rfl) (hg2 : Gl X (Str.ofString t) := by rfl) (hn2 : Str.ofString t ≠ "__name__" := by decide +kernel) (hd2 : (Str.ofString t == ("__debug__" : Str)) = false := by decide +kernel)
    (he : starEach [e, .Name (Str.ofString t) p2] X.env = (false, eval e X.env) :: starEach [.Name (Str.ofString t) p2] X.env := by rfl) (he2 : starEach [.Name (Str.ofString t) p2] X.env = (false, eval (.Name (Str.ofString t) p2) X.env) :: starEach [] X.env := by rfl) (hpl : (backTo pos (starEach [.Name (Str.ofString t) p2] X.env)).any (·.1) = false := by rfl) :
    PF X ah E (.Call (.Name "isinstance" p) [e, .Name (Str.ofString t) p2] [] pos) (cIs t a) := by
  obtain ⟨u, q, s⟩ := ha
  refine ⟨_, pe_callB call_isi hg hm (by decide +kernel) (pa_cons q (pa_cons (pe_bltn (v := .ty t) hg2 hm2 hv2 rfl hn2 hd2) pa_nil he2) he) (by decide) (by decide) he hpl, ?_⟩
  exact re_isTy (c := dc X ah) ht ho s

/-! ### what a def promises: its value is Fn's -/
def spF (K : PySem.W.Frag) (mg : Str → Option Value) (n : Nat) (Fn : List D → Gh → M D) : Sp := fun vs H Q E => ∃ ah S g ds, ds.length = n ∧ Rep ⟨⟨K, mg, ah⟩, H, S⟩ [] g [] H S ∧ Dns ⟨K, mg, ah⟩ S vs ds ∧ Got Dn ⟨⟨K, mg, ah⟩, H, S⟩ [] [] S E Q (Fn ds g)
def DefOk (P : Program) (w : World) (K : PySem.W.Frag) (mg : Str → Option Value) (base : Heap) (CX : CXT) (x : Str) (k n : Nat) (Fn : List D → Gh → M D) : Prop :=
  ∃ f fd ps, FnOk P w K mg base CX k f fd ps (spF K mg n Fn) ∧ mg x = some (.ref f) ∧ PySem.W.keepIn K (.ref f) = true ∧ Binds K fd ps []
@[simp] def noX {α : Type} : M α → M α
  | some (.ok a g) => some (.ok a g)
  | _ => none
@[simp] def cFn (n : Nat) (Fn : List D → Gh → M D) (a : FA) : FE := fun ρ g => (a ρ g).bd fun xs g1 => if xs.length = n then noX (Fn xs g1) else none
theorem Got.frame {F : Fx} {ρ g σ H S} {Q : VK} {E : XK} {m : M D} (R : Rep F ρ g σ H S) (G : Got Dn F ρ σ S E Q m) : Got Dn ⟨F.c, H, S⟩ [] [] S E Q m := by
  cases m with
  | none => exact G
  | some o => cases o with
    | ok d g1 => exact fun b H' S' sm B h => G b H' S' sm (R.back sm B) h
    | ex cc ks ds g1 => exact fun A dd H' S' m sm B x => G A dd H' S' m sm (R.bare.back sm B) x
theorem Got.noX {F : Fx} {ρ σ S} {Q : VK} {E : XK} {m : M D} (G : Got Dn F ρ σ S E Q (noX m)) : Got Dn F ρ σ S E0 Q m := by
  cases m with
  | none => exact G
  | some o => cases o with
    | ok d g1 => exact G
    | ex cc ks ds g1 => exact G.elim
theorem re_fn {n : Nat} {Fn : List D → Gh → M D} {t : TA} {a : FA} (ha : RA c E t a) : RE c E (tCall (spF c.K c.mg n Fn) [] E0 t) (cFn n Fn a) := by
  refine RG.bind (r := fun σ vs H1 (Q : VK) => spF c.K c.mg n Fn (vs ++ []) H1 Q E0) (k := fun ρ xs g1 => if xs.length = n then FD.noX (Fn xs g1) else none) ha fun F ρ g σ H S Q vs ds e R hx G => ?_
  by_cases hl : ds.length = n
  case neg => rw [if_neg hl] at G; exact G.elim
  rw [if_pos hl] at G
  subst e
  exact ⟨F.c.ah, S, g, ds, hl, R.sub_frame, by rw [List.append_nil]; exact hx, Got.frame R G.noX⟩
theorem pf_call {x : Str} {k n : Nat} {Fn : List D → Gh → M D} {e : Expr} {es : List Expr} {a : FA} {p pos : Pos} (G : DefOk X.prog X.w X.K X.mg X.base CX0 x k n Fn) (hr : Room k X.A) (ha : PFA X ah E (e :: es) a) (hg : Gl X x := by rfl) (hdb : (x == ("__debug__" : Str)) = false := by decide)
    (he : starEach (e :: es) X.env = (false, eval e X.env) :: starEach es X.env := by rfl) (hpl : (backTo pos (starEach es X.env)).any (·.1) = false := by rfl) : PF X ah E (.Call (.Name x p) (e :: es) [] pos) (cFn n Fn a) := by
  obtain ⟨f, fd, ps, F, hm, hk, hb⟩ := G
  obtain ⟨t, q, s⟩ := ha
  exact ⟨_, pe_call F hr hg hm hk hb .nil pass0 q hdb he hpl, re_fn (c := dc X ah) s⟩
theorem DefOk.mono {P w K mg base CX x j k n Fn} (h : DefOk P w K mg base CX x j n Fn) (l : j ≤ k) : DefOk P w K mg base CX x k n Fn := by
  obtain ⟨f, fd, ps, F, r⟩ := h
  exact ⟨f, fd, ps, F.mono l, r⟩

end
section
variable {X : Cx} {ah : Option Addr} {E : XK} {c : DC}
/-- a body's value -/
def fnOf (N : Nat) (b : FS) (ds : List D) (g : Gh) : M D := match b (ds.map .dt ++ List.replicate (N - ds.length) .un) g with
  | some (.ok (.rt d) g1) => some (.ok d g1)
  | some (.ok (.nx _) g1) => some (.ok .non g1)
  | some (.ex c ks es g1) => some (.ex c ks es g1)
  | _ => none
theorem Rep.start {K : PySem.W.Frag} {mg : Str → Option Value} {ah : Option Addr} {H S : Hp} {g : Gh} {vs : List V} {ds : List D} {N : List Str} (R : Rep ⟨⟨K, mg, ah⟩, H, S⟩ [] g [] H S) (h : Dns ⟨K, mg, ah⟩ S vs ds) (hl : ds.length ≤ N.length) :
    Rep ⟨⟨K, mg, ah⟩, H, S⟩ (ds.map .dt ++ List.replicate (N.length - ds.length) .un) g (start N vs) H S := by
  have len := h.length
  refine R.forget (fun i e hi => ?_) fun i j p xs ys h1 => ?_
  · by_cases hlt : i < ds.length
    · rw [List.getElem?_append_left (by simpa using hlt), List.getElem?_map, Option.map_eq_some_iff] at hi
      obtain ⟨d, h1, rfl⟩ := hi
      obtain ⟨v, h2, h3⟩ := h.get h1
      refine ⟨some v, ?_, v, rfl, h3⟩
      unfold L2.start
      rw [List.getElem?_append_left (by simpa [len] using hlt), List.getElem?_map, h2]
      rfl
    · have hge : ds.length ≤ i := Nat.le_of_not_lt hlt
      rw [List.getElem?_append_right (by simpa using hge), List.length_map, List.getElem?_replicate] at hi
      split at hi
      · rename_i hr
        cases hi
        refine ⟨none, ?_, trivial⟩
        unfold L2.start
        rw [List.getElem?_append_right (by simpa [len] using hge), List.length_map, List.getElem?_replicate, len, if_pos hr]
      · cases hi
  · by_cases hlt : i < ds.length
    · rw [List.getElem?_append_left (by simpa using hlt), List.getElem?_map, Option.map_eq_some_iff] at h1
      obtain ⟨d, _, h2⟩ := h1
      cases h2
    · rw [List.getElem?_append_right (by simpa using Nat.le_of_not_lt hlt), List.getElem?_replicate] at h1
      split at h1 <;> cases h1
/-- a def of the text by its body's function -/
theorem fd_ok {P : Program} {w : World} {K : PySem.W.Frag} {mg : Str → Option Value} {base : Heap} {x qual : Str} {st : Stmt} {f : Addr} {fd : FuncData} {N ps : List Str} {k n : Nat} {b : FS} (F : Fun K x qual st f fd) (Sc : FnScope N ps (defScope st)) (hn : ps.length = n) (hN : n ≤ N.length)
    (hb : ∀ (cdv : Value) (A : Around) (outer : List Env) (s : Shared) (H : Hp) (E : XK) (ah : Option Addr), Room k (A.deeper (envOfC qual (defScope st) s.heap.objs.size f cdv)) → PFSs ((cxOf CX0 P w K mg base N qual (defScope st) f cdv A outer s H E).nox) ah E0 (defBody st) b) :
    FnOk P w K mg base CX0 (k + 1) f fd ps (spF K mg n fun ds g => noX (fnOf N.length b ds g)) := by
  refine F.ok Sc (fun vs H Q E h => ?_) (fun cdv A outer s H vs Q E hr h => ?_)
  · obtain ⟨ah, S, g, ds, hl, R, hv, G⟩ := h
    rw [hv.length, hl, hn]
  · obtain ⟨ah, S, g, ds, hl, R, hv, G⟩ := h
    obtain ⟨t, p, r⟩ := hb cdv A outer s H E ah hr
    refine ⟨t, p, r.run ⟨⟨K, mg, ah⟩, H, S⟩ _ g _ H S _ rfl (Rep.start R hv (by omega)) ?_⟩
    have G : Got Dn ⟨⟨K, mg, ah⟩, H, S⟩ [] [] S E Q (FD.noX (fnOf N.length b ds g)) := G
    unfold fnOf at G
    cases h : b (ds.map .dt ++ List.replicate (N.length - ds.length) .un) g with
    | none => rw [h] at G; exact G
    | some o => cases o with
      | ok fl g1 => cases fl with
        | nx ρ => rw [h] at G; exact fun σ' H' S' sm R' => G .non H' S' sm R'.bare .non
        | rt d => rw [h] at G; exact fun v H' S' sm R' hd => G v H' S' sm R' hd
        | bk ρ => rw [h] at G; exact G.elim
        | ct ρ => rw [h] at G; exact G.elim
      | ex cc ks es g1 => rw [h] at G; exact G.elim

/-! ### lists that a name alone holds -/
/-- x = [] -/
@[simp] def sOwn (i : Nat) : FS := fun ρ g => some (.ok (.nx (ρ.set i (.own []))) g)
theorem pfs_own0 (i : Nat) {x : Str} {pos pos' lpos : Pos} (hN : X.N.Nodup) (hi : X.N[i]? = some x := by rfl) (hx : Loc X.env.scope x := by first | exact Or.inl rfl | exact Or.inr rfl) (hs : swapsWith (.List [] lpos) (some (.Name x pos')) pos.line X.env = pure false := by rfl)
    (hf : X.fn x = true ∨ X.env.scope.names.lookup x = some .local := by first | exact .inl rfl | exact .inr rfl) : PFS X ah E (.Assign [.Name x pos'] (.List [] lpos) pos) (sOwn i) := by
  refine ⟨_, ps_set hN hi hx (pe_lst pa_nil) hs hf, ⟨fun F ρ g σ H S Z e R G => ?_⟩⟩
  exact ⟨Nat.zero_le _, fun p hp => G _ _ S (Same.refl S) (R.setOwn i hp .nil)⟩
/-- x.append(e) -/
@[simp] def sApp (i : Nat) (a : FE) : FS := fun ρ g => match ρ[i]? with
  | some (.hold none xs) => (a ρ g).bd fun y g1 => if xs.length ≤ 1000 then some (.ok (.nx (ρ.set i (.own (xs ++ [y])))) g1) else none
  | _ => none
theorem pfs_app (i : Nat) {x : Str} {e : Expr} {a : FE} {p1 p2 p3 pos : Pos} (ha : PF X ah (fun _ => E) e a) (hN : X.N[i]? = some x := by rfl) (hv : Vis X.env.scope x := by first | exact Or.inl rfl | exact Or.inr (Or.inl rfl) | exact Or.inr (Or.inr rfl)) (hd : (x == ("__debug__" : Str)) = false := by decide)
    (hcd : (x == ("__classdict__" : Str)) = false := by decide)
    (hbase : attributeBase (.Name x p1) "append" X.env (eval (.Name x p1) X.env) = eval (.Name x p1) X.env := by rfl)
    (hfew : ((backTo p3 (starEach [e] X.env)).all (fun x => !x.1) && (backToKw p3 (keywordEach [] X.env)).all (fun x => x.1.isSome)
      && decide ([e].length + ([] : List Keyword).length + (if ([] : List Keyword).isEmpty then 0 else 1) < 30)) = true := by rfl)
    (hline : (p2.endLine == p3.line) = true := by rfl) (hst : starEach [e] X.env = (false, eval e X.env) :: starEach [] X.env := by rfl) (hplain : (backTo p3 (starEach [] X.env)).any (·.1) = false := by rfl)
    (hs : swapsWith (.Call (.Attribute (.Name x p1) "append" p2) [e] [] p3) none pos.line X.env = pure false := by rfl) : PFS X ah E (.Expr (.Call (.Attribute (.Name x p1) "append" p2) [e] [] p3) pos) (sApp i a) := by
  obtain ⟨t, q, r⟩ := ha
  refine ⟨_, ps_expr (pe_bm PySem.F.plainAttrs_list PySem.F.slot_list_append PySem.F.type_list_append mt_append (pe_var hN hv hd hcd) (pa_cons q pa_nil hst) hbase hfew hline hst hplain) hs, ⟨fun F ρ g σ H S Z e R G => ?_⟩⟩
  simp only [sApp] at G
  split at G
  case h_2 => exact G.elim
  rename_i xs hi
  obtain ⟨so, h1, p, vs, rfl, h2, h3, h4, h5, h6⟩ := R.slots i _ hi
  refine ⟨.ref p, h1, .inl ⟨rfl, _, SqL.of h5⟩, ?_⟩
  refine r.stepS e R G fun H1 S1 g1 y d sm R1 hy G => ?_
  obtain ⟨so, k1, p', ws, k0, k2, k3, k4, k5, k6⟩ := R1.slots i _ hi
  rw [h1] at k1; cases k1; cases k0
  by_cases hl : xs.length ≤ 1000
  case neg => rw [if_neg hl] at G; exact G.elim
  rw [if_pos hl] at G
  exact ⟨p, ws, y, rfl, rfl, k5, by rw [k6.length]; exact small1000 hl, G _ _ S1 (Same.refl _) (R1.writeOwn hi h1 (k6.append (.cons (e ▸ hy) .nil)))⟩
/-- the list that slot i alone holds is data from now on -/
@[simp] def sFrz (i : Nat) (b : FS) : FS := fun ρ g => match ρ[i]? with
  | some (.hold none xs) => b (ρ.set i (.dt (.lst xs))) g
  | _ => none
theorem pfss_frz (i : Nat) {s : List Stmt} {b : FS} (h : PFSs X ah E s b) : PFSs X ah E s (sFrz i b) := by
  obtain ⟨t, p, r⟩ := h
  refine ⟨t, p, ⟨fun F ρ g σ H S Z e R G => ?_⟩⟩
  simp only [sFrz] at G
  split at G
  case h_2 => exact G.elim
  rename_i xs hi
  obtain ⟨S', sm, R'⟩ := R.freeze hi
  exact r.run F _ g σ H S' Z e R' (G.mono sm)

end
section
variable {X : Cx} {ah : Option Addr} {E : L2.St → XK} {c : DC}
/-! ### attributes -/
def fldD (f : Str) : D → Option D
  | .obj c ks ds => if c = "Play" then (ks.zip ds).lookup f else none
  | _ => none
theorem lookup_Dn {S : Hp} : ∀ {fs : List (Str × V)} {ks : List Str} {ds : List D} {f : Str} {d : D}, fs.map (·.1) = ks → Dns c S (fs.map (·.2)) ds → (ks.zip ds).lookup f = some d → ∃ v, fs.lookup f = some v ∧ Dn c S v d
  | [], _, _, f, d, rfl, h, e => by cases h; simp [List.lookup] at e
  | (k, v) :: fs, _, _, f, d, rfl, h, e => by
    cases h with
    | cons h hs =>
      simp only [List.map_cons, List.zip_cons_cons, List.lookup_cons] at e ⊢
      split at e
      · cases e
        exact ⟨v, by simp_all, h⟩
      · rename_i hk
        obtain ⟨w, h1, h2⟩ := lookup_Dn rfl hs e
        exact ⟨w, by simp_all, h2⟩
theorem pf_fld {f : Str} {e : Expr} {a : FE} {pos : Pos} (ho : ∀ C, X.mg "Play" = some (.ref C) → Cls X.K C ∧ NoAttr X.K C f) (ha : PF X ah E e a) (hb : attributeBase e f X.env (eval e X.env) = eval e X.env := by rfl) : PF X ah E (.Attribute e f pos) (c1 (fldD f) a) := by
  obtain ⟨t, p, r⟩ := ha
  refine ⟨_, pe_fld p hb, ?_⟩
  refine RG.bind (r := fun σ x H1 (Q : VK) => ∃ a C dx fs v, x = .ref a ∧ H1 a = some (.ins C dx fs) ∧ Cls X.K C ∧ NoAttr X.K C f ∧ fs.lookup f = some v ∧ Q v H1) (k := fun ρ x g1 => lift (fldD f x) g1) r fun F ρ g σ H S Q x d e R hx G => ?_
  cases hx with
  | obj m h k hs =>
    rename_i cn fs ks ds
    simp only [fldD] at G
    by_cases hc : cn = "Play"
    case neg => rw [if_neg hc] at G; exact G.elim
    rw [if_pos hc] at G
    subst hc
    cases q : (ks.zip ds).lookup f with
    | none => rw [q] at G; exact G.elim
    | some d =>
      rw [q] at G
      obtain ⟨v, h1, h2⟩ := lookup_Dn k hs q
      obtain ⟨c1, c2⟩ := ho _ m
      exact ⟨_, _, _, _, v, rfl, R.sub _ _ h, c1, c2, h1, G.ret R (e ▸ h2)⟩
  | _ => simp only [fldD, lift] at G; exact G.elim
end
end FD
set_option Elab.async false
set_option linter.all false
set_option maxRecDepth 100000
set_option maxHeartbeats 2000000
namespace FD
open PySem L2 PyProof.Rows
/-! ### own errors with one field -/
/-- __init__ of such an error, at the class C, keeping the field f -/
def spExI (C : Addr) (f : Str) : Sp := fun vs H Q _ => ∃ (a : Addr) (v : V), vs = [.ref a, v] ∧ H a = some (exo a C none) ∧ ∀ dx, H dx = none → dx ≠ a → Q .non (upd (upd H dx (exd dx [(f, v)])) a (exo a C (some dx)))
def ExcOk (P : Program) (w : World) (K : PySem.W.Frag) (mg : Str → Option Value) (base : Heap) (x f : Str) : Prop :=
  ∃ C fI fd ps, mg x = some (.ref C) ∧ OexC K C ∧ XfC K C ∧ PySem.W.findIn K (.ref C) f = some none ∧ PySem.W.findIn K (.ref C) "__init__" = some (some (.ref fI)) ∧ PySem.W.typeIn K (.ref fI) = some (.type "function") ∧ FnOk P w K mg base CX0 1 fI fd ps (spExI C f) ∧ Binds K fd ps [] ∧ PySem.W.exmOne K (.ref C) (.ref C) = some true
section
variable {X : Cx} {ah : Option Addr} {E : XK} {c : DC}
/-- self.f = p, the whole body -/
theorem exc_init {P : Program} {w : World} {K : PySem.W.Frag} {mg : Str → Option Value} {base : Heap} {qual f p : Str} {st : Stmt} {fI C : Addr} {fd : FuncData} {p1 p2 p3 p4 : Pos} (F : Fun K "__init__" qual st fI fd) (T : OexC K C) (hno : PySem.W.findIn K (.ref C) f = some none)
    (Sc : FnScope ["self", p] ["self", p] (defScope st)) (hb : defBody st = [.Assign [.Attribute (.Name "self" p1) f p2] (.Name p p3) p4]) (h1 : (defScope st).names.lookup ("self" : Str) = some .local) (h2 : (defScope st).names.lookup p = some .local)
    (hd : (p == ("__debug__" : Str)) = false) (hcd : (p == ("__classdict__" : Str)) = false) : FnOk P w K mg base CX0 1 fI fd ["self", p] (spExI C f) := by
  refine F.ok Sc (fun vs H Q E h => ?_) (fun cdv A outer s H vs Q E hr h => ?_)
  · obtain ⟨a, v, rfl, _⟩ := h
    rfl
  · obtain ⟨a, v, rfl, ha, k⟩ := h
    rw [hb]
    refine ⟨_, pss_one (ps_ost (pe_var (i := 0) rfl (.inl h1) (by decide) (by decide)) (pe_var (i := 1) rfl (.inl h2) hd hcd)), ?_⟩
    exact ⟨v, rfl, .ref a, rfl, a, C, rfl, T, hno, .inl ⟨ha, fun dx n ne => k dx n ne⟩⟩
theorem del_eq {H : Hp} {a dx : Addr} {f : Str} {v : V} {C : Addr} (ha : H a = none) (ne : dx ≠ a) : upd (del (upd (upd (upd H a (exo a C none)) dx (exd dx [(f, v)])) a (exo a C (some dx))) a) dx (.xd [(f, v)]) = upd H dx (.xd [(f, v)]) := by
  funext b
  by_cases hb : b = dx
  · subst hb; rw [upd_same, upd_same]
  · rw [upd_ne hb, upd_ne hb]
    by_cases hb2 : b = a
    · subst hb2; rw [del_same, ha]
    · rw [del_ne hb2, upd_ne hb2, upd_ne hb, upd_ne hb2]
/-- raise X(e) -/
@[simp] def sRaise (x f : Str) (a : FE) : FS := fun ρ g => (a ρ g).bd fun y g1 => some (.ex x [f] [y] g1)
theorem pfs_raise {x f : Str} {e : Expr} {a : FE} {p pos rpos : Pos} (hc : X.calm = true) (tk : Takes X (fun cls d _ H => E cls d H)) (G : ExcOk X.prog X.w X.K X.mg X.base x f) (hr : Room 2 X.A) (ha : PF X ah (fun _ => E) e a) (hg : Gl X x := by rfl) (hdb : (x == ("__debug__" : Str)) = false := by decide)
    (he : starEach (e :: []) X.env = (false, eval e X.env) :: starEach [] X.env := by rfl) (hpl : (backTo pos (starEach [] X.env)).any (·.1) = false := by rfl) : PFS X ah E (.Raise (some (.Call (.Name x p) [e] [] pos)) none rpos) (sRaise x f a) := by
  obtain ⟨C, fI, fd, ps, hm, T, _, _, iC, tI, F, hb, _⟩ := G
  obtain ⟨t, q, r⟩ := ha
  refine ⟨_, ps_raise hc tk (pmk_oex (p := p) (CX := CX0) T iC tI F hr hb .nil pass0 hg hm (pa_cons q pa_nil he) hdb he hpl), ⟨fun F ρ g σ H S Z e R G => ?_⟩⟩
  refine (show t σ H fun x H1 => ([x] : List V).length ≤ 1000 ∧ ∀ a, H1 a = none → spExI C f (.ref a :: ([x] ++ [])) (upd H1 a (exo a C none))
    (fun v H2 => v = .non ∧ ∃ (d : Addr) (fs : List (Str × V)), H2 a = some (exo a C (some d)) ∧ H2 d = some (exd d fs) ∧ H1 d = none ∧ E (.ref C) (some d) (upd (del H2 a) d (.xd fs))) (fun _ _ _ => False) from ?_)
  refine r.stepS e R G fun H1 S1 g1 v d sm R1 hv G => ?_
  refine ⟨by simp, fun a na => ⟨a, v, rfl, upd_same, fun dx n ne => ⟨rfl, dx, [(f, v)], ?_, ?_, ?_, ?_⟩⟩⟩
  · exact upd_same
  · rw [upd_ne ne, upd_same]
  · rw [upd_ne ne] at n; exact n
  · rw [upd_ne ne] at n
    rw [del_eq na ne]
    refine G C (some dx) _ (upd S1 dx (.xd [(f, v)])) (by rw [e]; exact hm) (R1.tosame _ n) (R1.bare.up _ n) ⟨[(f, v)], upd_same, rfl, .cons ?_ .nil⟩
    rw [e]
    exact hv.mono (R1.tosame _ n)
/-- a def of the text that may raise -/
theorem fd_okX {P : Program} {w : World} {K : PySem.W.Frag} {mg : Str → Option Value} {base : Heap} {x qual : Str} {st : Stmt} {f : Addr} {fd : FuncData} {N ps : List Str} {k n : Nat} {b : FS} (F : Fun K x qual st f fd) (Sc : FnScope N ps (defScope st)) (hn : ps.length = n) (hN : n ≤ N.length)
    (hb : ∀ (cdv : Value) (A : Around) (outer : List Env) (s : Shared) (H : Hp) (E : XK) (ah : Option Addr), Room k (A.deeper (envOfC qual (defScope st) s.heap.objs.size f cdv)) → PFSs (cxOf (L2.CX P w) P w K mg base N qual (defScope st) f cdv A outer s H E) ah E (defBody st) b) :
    FnOk P w K mg base (L2.CX P w) (k + 1) f fd ps (spF K mg n fun ds g => fnOf N.length b ds g) := by
  refine F.okX Sc (fun vs H Q E h => ?_) (fun cdv A outer s H vs Q E hr h => ?_)
  · obtain ⟨ah, S, g, ds, hl, R, hv, G⟩ := h
    rw [hv.length, hl, hn]
  · obtain ⟨ah, S, g, ds, hl, R, hv, G⟩ := h
    obtain ⟨t, p, r⟩ := hb cdv A outer s H E ah hr
    refine ⟨t, p, r.run ⟨⟨K, mg, ah⟩, H, S⟩ _ g _ H S _ rfl (Rep.start R hv (by omega)) ?_⟩
    have G : Got Dn ⟨⟨K, mg, ah⟩, H, S⟩ [] [] S E Q (fnOf N.length b ds g) := G
    unfold fnOf at G
    cases h : b (ds.map .dt ++ List.replicate (N.length - ds.length) .un) g with
    | none => rw [h] at G; exact G
    | some o => cases o with
      | ok fl g1 => cases fl with
        | nx ρ => rw [h] at G; exact fun σ' H' S' sm R' => G .non H' S' sm R'.bare .non
        | rt d => rw [h] at G; exact fun v H' S' sm R' hd => G v H' S' sm R' hd
        | bk ρ => rw [h] at G; exact G.elim
        | ct ρ => rw [h] at G; exact G.elim
      | ex cc ks es g1 => rw [h] at G; exact G
theorem passes0 {X : Cx} : Passes (L2.CX X.prog X.w) X E0 := fun _ _ _ _ _ _ _ ⟨_, _, _, _, _, _, _, _, _, _, _, _, h⟩ => h.elim
/-- a call of a def that may raise, where it does not -/
theorem pf_callN {E : L2.St → XK} {x : Str} {k n : Nat} {Fn : List D → Gh → M D} {e : Expr} {es : List Expr} {a : FA} {p pos : Pos} (G : DefOk X.prog X.w X.K X.mg X.base (L2.CX X.prog X.w) x k n Fn) (hr : Room k X.A) (ha : PFA X ah E (e :: es) a) (hg : Gl X x := by rfl) (hdb : (x == ("__debug__" : Str)) = false := by decide)
    (he : starEach (e :: es) X.env = (false, eval e X.env) :: starEach es X.env := by rfl) (hpl : (backTo pos (starEach es X.env)).any (·.1) = false := by rfl) : PF X ah E (.Call (.Name x p) (e :: es) [] pos) (cFn n Fn a) := by
  obtain ⟨f, fd, ps, F, hm, hk, hb⟩ := G
  obtain ⟨t, q, s⟩ := ha
  exact ⟨_, pe_call F hr hg hm hk hb .nil passes0 q hdb he hpl, re_fn (c := dc X ah) s⟩

/-! ### things of the class Play -/
/-- what its __init__ promises: Fn tells the thing, or the error -/
def spMk (K : PySem.W.Frag) (mg : Str → Option Value) (C : Addr) (n : Nat) (Fn : List D → Gh → M D) : Sp := fun vs H Q E => ∃ ah S g a dx vs' ds, vs = .ref a :: vs' ∧ ds.length = n ∧ H a = some (.ins C dx []) ∧ S a = none ∧ Rep ⟨⟨K, mg, ah⟩, H, S⟩ [] g [] H S ∧ Dns ⟨K, mg, ah⟩ S vs' ds ∧ ah ≠ some a ∧
  match Fn ds g with
  | none => False
  | some (.ok d g') => ∀ H' S' fs, Same S S' → H' a = some (.ins C dx fs) → S' a = none → Rep ⟨⟨K, mg, ah⟩, (fun b => if b = a then none else H b), S⟩ [] g' [] H' S' → (∃ c ks es, d = .obj c ks es ∧ mg c = some (.ref C) ∧ fs.map (·.1) = ks ∧ Dns ⟨K, mg, ah⟩ S' (fs.map (·.2)) es) → Q .non H'
  | some (.ex c ks es g') => GotX ⟨⟨K, mg, ah⟩, (fun b => if b = a then none else H b), S⟩ S E c ks es g'
def MkOk (P : Program) (w : World) (K : PySem.W.Frag) (mg : Str → Option Value) (base : Heap) (x : Str) (k n : Nat) (Fn : List D → Gh → M D) : Prop :=
  ∃ C f fd ps, FnOk P w K mg base (L2.CX P w) k f fd ps (spMk K mg C n Fn) ∧ mg x = some (.ref C) ∧ Mk K C f ∧ Binds K fd ps []
theorem re_mk {E : L2.St → XK} {C : Addr} {n : Nat} {Fn : List D → Gh → M D} {t : TA} {a : FA} (ha : RA c E t a) : RE c E (tMake C (spMk c.K c.mg C n Fn) [] E0 t) (cFn n Fn a) := by
  refine RG.bind (r := fun σ vs H1 (Q : VK) => ∀ x dx, H1 x = none → H1 dx = none → dx ≠ x →
    spMk c.K c.mg C n Fn (.ref x :: (vs ++ [])) (upd (upd H1 dx (.own x)) x (.ins C dx [])) (fun v H2 => v = .non ∧ Q (.ref x) H2) E0) (k := fun ρ xs g1 => if xs.length = n then FD.noX (Fn xs g1) else none) ha fun F ρ g σ H S Q vs ds e R hx G => ?_
  intro x dx nx ndx ne
  by_cases hl : ds.length = n
  case neg => rw [if_neg hl] at G; exact G.elim
  rw [if_pos hl] at G
  subst e
  have R0 := R.sub_frame
  have sx : S x = none := R.sub.free nx
  have sdx : S dx = none := R.sub.free ndx
  have nxa := R.new_ah nx
  have ndxa := R.new_ah ndx
  -- the heap with the new thing
  have R1 : Rep ⟨F.c, H, S⟩ [] g [] (upd (upd H dx (.own x)) x (.ins C dx [])) S := by
    refine (R0.write1 sdx ndx ndxa).write1 sx ?_ nxa
    exact nx
  refine ⟨F.c.ah, S, g, x, dx, vs, ds, by rw [List.append_nil], hl, upd_same, sx, ?_, hx, nxa, ?_⟩
  · exact R1.sub_frame
  · have back : ∀ {g' H' S'}, Same S S' → Rep ⟨F.c, (fun b => if b = x then none else upd (upd H dx (.own x)) x (.ins C dx []) b), S⟩ [] g' [] H' S' → Rep ⟨F.c, H, S⟩ [] g' [] H' S' := fun {g' H' S'} sm B => by
      refine ⟨B.sub, B.hand, fun b o h1 h2 => B.keep b o ?_ h2, fun b h1 h2 => B.stay b ?_ h2, fun i e h => by simp at h, fun i j p xs ys h => by simp at h⟩
      · have n1 : b ≠ x := ne_of_none h1 nx
        have n2 : b ≠ dx := ne_of_none h1 ndx
        show (if b = x then none else upd (upd H dx (.own x)) x (.ins C dx []) b) = some o
        rw [if_neg n1, upd_ne n1, upd_ne n2]; exact h1
      · have n1 : b ≠ x := fun z => h1 (by rw [z]; exact nx)
        have n2 : b ≠ dx := fun z => h1 (by rw [z]; exact ndx)
        show (if b = x then none else upd (upd H dx (.own x)) x (.ins C dx []) b) ≠ none
        rw [if_neg n1, upd_ne n1, upd_ne n2]; exact h1
    cases h : Fn ds g with
    | none => rw [h] at G; exact G
    | some o => cases o with
      | ex cc ks es g1 => rw [h] at G; exact G.elim
      | ok d g1 =>
        rw [h] at G
        intro H' S' fs sm hx' hs' B ⟨cn, ks, es, ed, hm, hk, hv⟩
        subst ed
        have B' := back sm B
        refine ⟨rfl, ?_⟩
        -- from now on the thing stands
        have B2 : Rep ⟨F.c, H, S⟩ [] g1 [] H' (upd S' x (.ins C dx fs)) := by
          have sm' : Same S' (upd S' x (.ins C dx fs)) := Same.upd_new hs'
          refine ⟨fun b o e => ?_, ?_, B'.keep, fun b e h => ?_, fun i e h => by simp at h, fun i j p xs ys h => by simp at h⟩
          · by_cases hb : b = x
            · subst hb; rw [upd_same] at e; cases e; exact hx'
            · rw [upd_ne hb] at e; exact B'.sub _ _ e
          · have h := B'.hand
            unfold HandAt at h ⊢
            cases ea : F.c.ah with
            | none => trivial
            | some a =>
              simp only [ea] at h
              obtain ⟨k1, q, k2, k3⟩ := h
              have ne : a ≠ x := fun z => nxa (by rw [ea, z])
              exact ⟨by rw [upd_ne ne]; exact k1, q, k2, sm' _ _ k3⟩
          · have n1 : b ≠ x := fun z => e (by rw [z]; exact nx)
            rw [upd_ne n1]; exact B'.stay b e h
        refine G (.ref x) H' _ (sm.trans (Same.upd_new hs')) (R.back (sm.trans (Same.upd_new hs')) B2) ?_
        exact .obj hm upd_same hk (hv.mono (Same.upd_new hs'))
theorem pf_mk {E : L2.St → XK} {x : Str} {k n : Nat} {Fn : List D → Gh → M D} {e : Expr} {es : List Expr} {a : FA} {p pos : Pos} (G : MkOk X.prog X.w X.K X.mg X.base x k n Fn) (hr : Room (k + 1) X.A) (ha : PFA X ah E (e :: es) a) (hg : Gl X x := by rfl) (hdb : (x == ("__debug__" : Str)) = false := by decide)
    (he : starEach (e :: es) X.env = (false, eval e X.env) :: starEach es X.env := by rfl) (hpl : (backTo pos (starEach es X.env)).any (·.1) = false := by rfl) : PF X ah E (.Call (.Name x p) (e :: es) [] pos) (cFn n Fn a) := by
  obtain ⟨C, f, fd, ps, F, hm, M, hb⟩ := G
  obtain ⟨t, q, s⟩ := ha
  exact ⟨_, pe_make M F hr hg hm hb .nil passes0 q hdb he hpl, re_mk (c := dc X ah) s⟩
end
end FD
set_option Elab.async false
set_option linter.all false
set_option maxRecDepth 100000
set_option maxHeartbeats 2000000
namespace FD
open PySem L2 PyProof.Rows
/-! ### the drawing hand -/
def handV (q : Addr) (g : Gh) : List V := [.ref q, .int g.i, .int g.c, .int g.r, .int g.n]
theorem Rep.hand_at {F : Fx} {ρ g σ H S} (R : Rep F ρ g σ H S) {a : Addr} (e : F.c.ah = some a) : ∃ q, H a = some (.lst (handV q g)) ∧ S q = some (.lst (g.xs.map V.int)) ∧ S a = none := by
  have h := R.hand
  unfold HandAt at h
  rw [e] at h
  obtain ⟨h1, q, h2, h3⟩ := h
  exact ⟨q, h2, h3, h1⟩
def handD (k : Int) (g : Gh) : Option D :=
  if k = 0 then some (.lst (g.xs.map .int)) else if k = 1 then some (.int g.i) else if k = 2 then some (.int g.c) else if k = 3 then some (.int g.r) else if k = 4 then some (.int g.n) else none
@[simp] def cH (i : Nat) (k : Int) : FE := fun ρ g => match ρ[i]? with
  | some (.dt .hnd) => lift (handD k g) g
  | _ => none
section
variable {X : Cx} {ah : Option Addr} {c : DC}
theorem pf_h {E : L2.St → XK} (i : Nat) {k : Int} {x : Str} {p1 p2 pos : Pos} {j0} (hN : X.N[i]? = some x := by rfl) (hv : Vis X.env.scope x := by first | exact Or.inl rfl | exact Or.inr (Or.inl rfl) | exact Or.inr (Or.inr rfl)) (hd : (x == ("__debug__" : Str)) = false := by decide)
    (hcd : (x == ("__classdict__" : Str)) = false := by decide) (hs : PlainIx (.Constant (.int k) j0 p2) := by intro _ _; rfl) : PF X ah E (.Subscript (.Name x p1) (.Constant (.int k) j0 p2) pos) (cH i k) := by
  refine ⟨_, pe_ix ix_list (pe_var hN hv hd hcd) pe_int hs, ⟨fun F ρ g σ H S Q e R G => ?_⟩⟩
  simp only [cH] at G
  split at G
  case h_2 => exact G.elim
  rename_i hi
  obtain ⟨so, h1, v, rfl, hv⟩ := R.slots i _ hi
  cases hv with
  | hnd he =>
    rename_i a
    obtain ⟨q, hH, hS, hn⟩ := R.hand_at he
    unfold handD at G
    refine ⟨.ref a, h1, a, handV q g, k, ?_⟩
    by_cases k0 : k = 0
    · subst k0
      exact ⟨_, rfl, rfl, SqL.of hH, rfl, G.ret R (.lst hS (Dns.ints _))⟩
    rw [if_neg k0] at G
    by_cases k1 : k = 1
    · subst k1
      exact ⟨_, rfl, rfl, SqL.of hH, rfl, G.ret R (.int _)⟩
    rw [if_neg k1] at G
    by_cases k2 : k = 2
    · subst k2
      exact ⟨_, rfl, rfl, SqL.of hH, rfl, G.ret R (.int _)⟩
    rw [if_neg k2] at G
    by_cases k3 : k = 3
    · subst k3
      exact ⟨_, rfl, rfl, SqL.of hH, rfl, G.ret R (.int _)⟩
    rw [if_neg k3] at G
    by_cases k4 : k = 4
    · subst k4
      exact ⟨_, rfl, rfl, SqL.of hH, rfl, G.ret R (.int _)⟩
    rw [if_neg k4] at G
    exact G.elim
def handPut (k : Int) (v : Int) (g : Gh) : Option Gh :=
  if k = 1 then some { g with i := v } else if k = 2 then some { g with c := v } else if k = 3 then some { g with r := v } else if k = 4 then some { g with n := v } else none
theorem Rep.handWrite {F : Fx} {ρ g σ H S} (R : Rep F ρ g σ H S) {a q : Addr} {g' : Gh} (e : F.c.ah = some a) (hq : S q = some (.lst (g'.xs.map V.int))) : Rep F ρ g' σ (upd H a (.lst (handV q g'))) S := by
  obtain ⟨_, _, _, hn⟩ := R.hand_at e
  refine ⟨fun b o h => by rw [upd_ne (ne_of_none h hn)]; exact R.sub _ _ h, ?_, fun b o h1 h2 => ?_, R.stay, fun i en h => ?_, R.apart⟩
  · unfold HandAt
    rw [e]
    exact ⟨hn, q, upd_same, hq⟩
  · have ne : b ≠ a := fun z => h2 (by rw [e, z])
    rw [upd_ne ne]; exact R.keep b o h1 h2
  · obtain ⟨so, h1, h2⟩ := R.slots i en h
    refine ⟨so, h1, ?_⟩
    cases en with
    | un => trivial
    | dt d => exact h2
    | hold ks ys =>
      obtain ⟨p, us, c1, c2, c3, c4, c5, c6⟩ := h2
      have ne : p ≠ a := fun z => c4 (by rw [e, z])
      exact ⟨p, us, c1, c2, c3, c4, by rw [upd_ne ne]; exact c5, c6⟩
@[simp] def sH (i : Nat) (k : Int) (a : FE) : FS := fun ρ g => match ρ[i]? with
  | some (.dt .hnd) => (a ρ g).bd fun y g1 => match y with
    | .int v => match handPut k v g1 with
      | some g2 => some (.ok (.nx ρ) g2)
      | none => none
    | _ => none
  | _ => none
theorem pfs_h {E : XK} (i : Nat) {k : Int} {x : Str} {e : Expr} {a : FE} {p1 p2 p3 pos : Pos} {j0} (ha : PF X ah (fun _ => E) e a) (hN : X.N[i]? = some x := by rfl) (hv : Vis X.env.scope x := by first | exact Or.inl rfl | exact Or.inr (Or.inl rfl) | exact Or.inr (Or.inr rfl)) (hd : (x == ("__debug__" : Str)) = false := by decide)
    (hcd : (x == ("__classdict__" : Str)) = false := by decide)
    (hsub : ∀ v, assign (.Subscript (.Name x p1) (.Constant (.int k) j0 p2) p3) X.env v = (do
      let ov ← holding [v] (eval (.Name x p1) X.env)
      let iv ← holding [v, ov] (eval (.Constant (.int k) j0 p2) X.env)
      standAt p3
      holding [v, ov, iv] (setItem ov iv v)
      release [v, ov, iv] []) := by intro _; rfl)
    (hs : swapsWithSole [.Subscript (.Name x p1) (.Constant (.int k) j0 p2) p3] e pos.line X.env = pure false := by rfl) (hw : swappedStores [.Subscript (.Name x p1) (.Constant (.int k) j0 p2) p3] e X.env = pure none := by rfl)
    (h1 : (assignEach [.Subscript (.Name x p1) (.Constant (.int k) j0 p2) p3] X.env).map (·.2) = [assign (.Subscript (.Name x p1) (.Constant (.int k) j0 p2) p3) X.env] := by rfl) :
    PFS X ah E (.Assign [.Subscript (.Name x p1) (.Constant (.int k) j0 p2) p3] e pos) (sH i k a) := by
  obtain ⟨t, q, r⟩ := ha
  refine ⟨_, ps_asg q (pg_sub (pe_var hN hv hd hcd) pe_int set_list hsub) hs hw h1, ⟨fun F ρ g σ H S Z e R G => ?_⟩⟩
  simp only [sH] at G
  split at G
  case h_2 => exact G.elim
  rename_i hi
  refine r.stepS e R G fun H1 S1 g1 y d sm R1 hy G => ?_
  split at G
  case h_2 => exact G.elim
  rename_i v
  cases hy.intE
  obtain ⟨so, h1, w, rfl, hw⟩ := R1.slots i _ hi
  cases hw with
  | hnd he =>
    rename_i a
    obtain ⟨q, hH, hS, hn⟩ := R1.hand_at he
    unfold handPut at G
    refine ⟨.ref a, h1, a, handV q g1, k, ?_⟩
    by_cases k1 : k = 1
    · subst k1
      exact ⟨1, rfl, rfl, hH, rfl, G _ _ S1 (Same.refl _) (R1.handWrite (g' := { g1 with i := v }) he hS)⟩
    rw [if_neg k1] at G
    by_cases k2 : k = 2
    · subst k2
      exact ⟨2, rfl, rfl, hH, rfl, G _ _ S1 (Same.refl _) (R1.handWrite (g' := { g1 with c := v }) he hS)⟩
    rw [if_neg k2] at G
    by_cases k3 : k = 3
    · subst k3
      exact ⟨3, rfl, rfl, hH, rfl, G _ _ S1 (Same.refl _) (R1.handWrite (g' := { g1 with r := v }) he hS)⟩
    rw [if_neg k3] at G
    by_cases k4 : k = 4
    · subst k4
      exact ⟨4, rfl, rfl, hH, rfl, G _ _ S1 (Same.refl _) (R1.handWrite (g' := { g1 with n := v }) he hS)⟩
    rw [if_neg k4] at G
    exact G.elim

/-! ### a list from a list of ints that is not tracked: _law_hand; and the law's first row -/
/-- what _law_hand promises -/
def spHand (K : PySem.W.Frag) : Sp := fun vs H Q _ => ∃ (a : Addr) (xs : List Int), vs = [.ref a] ∧ SqL K H a (xs.map V.int) ∧
  ∀ q, H q = none → ∀ p, upd H q (.lst (xs.map V.int)) p = none → Q (.ref p) (upd (upd H q (.lst (xs.map V.int))) p (.lst [.ref q, .int 0, .int 0, .int 1, .int 0]))
end
end FD
set_option Elab.async false
set_option linter.all false
set_option maxRecDepth 100000
set_option maxHeartbeats 4000000
namespace FD
open PySem L2 PyProof.Rows
section
variable {X : Cx} {ah : Option Addr} {E : L2.St → XK} {c : DC}
/-! ### a < b < c -/
@[simp] def cChain (o1 o2 : D → D → Option D) (a b cc : FE) : FE := fun ρ g => (a ρ g).bd fun x g1 => (b ρ g1).bd fun y g2 => match o1 x y with
  | some (.bl true) => (cc ρ g2).bd fun z g3 => lift (o2 y z) g3
  | some (.bl false) => some (.ok (.bl false) g2)
  | _ => none
/-- a rule whose answer is a flag and leaves all as it is -/
def FlagS (c : DC) (r : R2) (op : D → D → Option D) : Prop := ∀ S H x y dx dy, Same S H → Dn c S x dx → Dn c S y dy → ∀ d, op dx dy = some d → ∃ k, d = .bl k ∧ ∀ Q : VK, Q (.bl k) H → r x y H Q
theorem fs_int {p : Int → Int → Bool} : FlagS c (rI0 fun i j => .bl (p i j)) (intD fun i j => some (.bl (p i j))) := by
  intro S H x y dx dy sm hx hy d e
  cases hx with
  | int i =>
    cases hy with
    | int j =>
      simp only [intD] at e
      cases e
      exact ⟨p i j, rfl, fun Q q => ⟨i, j, rfl, rfl, q⟩⟩
    | _ => simp [intD] at e
  | _ => simp [intD] at e
theorem re_chain {r r' : R2} {o1 o2 : D → D → Option D} {ta tb tc : TE} {a b cc : FE} (h1 : FlagS c r o1) (h2 : OpS c r' o2) (ha : RE c E ta a) (hb : RE c E tb b) (hc : RE c E tc cc) : RE c E (tChain r r' ta tb tc) (cChain o1 o2 a b cc) := by
  refine RG.bind (r := fun σ x H1 (Q : VK) => tb σ H1 fun y H2 => r x y H2 fun z H3 => ∃ k, z = .bl k ∧ (if k = true then tc σ H3 fun w' H4 => r' y w' H4 Q else Q (.bl false) H3)) (k := fun ρ x g1 => (b ρ g1).bd fun y g2 => match o1 x y with
  | some (.bl true) => (cc ρ g2).bd fun z g3 => lift (o2 y z) g3
  | some (.bl false) => some (.ok (.bl false) g2)
  | _ => none) ha fun F ρ g σ H S Q x d e R hx G => ?_
  refine hb.step e R G fun H1 S1 g1 y dy sm R1 hy G => ?_
  split at G
  · rename_i e1
    obtain ⟨k, ek, hr⟩ := h1 S1 H1 x y d dy R1.sub (hx.mono sm) hy _ e1
    cases ek
    refine hr _ ⟨true, rfl, ?_⟩
    rw [if_pos rfl]
    refine hc.step e R1 G fun H2 S2 g2 z dz sm2 R2 hz G => ?_
    exact h2 (E σ) F ρ g2 σ H2 S2 Q y z dy dz e R2 (hy.mono sm2) hz G
  · rename_i e1
    obtain ⟨k, ek, hr⟩ := h1 S1 H1 x y d dy R1.sub (hx.mono sm) hy _ e1
    cases ek
    refine hr _ ⟨false, rfl, ?_⟩
    rw [if_neg (by simp)]
    exact G.ret R1 (.bl false)
  · exact G.elim
theorem pf_chain {op op' : CmpOp} {r r' : R2} {o1 o2 : D → D → Option D} {e1 e2 e3 : Expr} {a b cc : FE} {pos} (ho : OpR X (compareOp op) r) (ho' : OpR X (compareOp op') r') (h1 : FlagS (dc X ah) r o1) (h2 : OpS (dc X ah) r' o2) (ha : PF X ah E e1 a) (hb : PF X ah E e2 b) (hc : PF X ah E e3 cc)
    (hm : lastMarks [op, op'] [e2, e3] = false := by with_unfolding_all rfl) : PF X ah E (.Compare e1 [op, op'] [e2, e3] pos) (cChain o1 o2 a b cc) := by
  obtain ⟨t, p, r1⟩ := ha
  obtain ⟨u, q, r2⟩ := hb
  obtain ⟨v, q', r3⟩ := hc
  exact ⟨_, pe_chain ho ho' p q q' hm, re_chain h1 h2 r1 r2 r3⟩
theorem pft_chain {op op' : CmpOp} {r r' : R2} {o1 o2 : D → D → Option D} {e1 e2 e3 : Expr} {a b cc : FE} {pos} (ho : OpR X (compareOp op) r) (ho' : OpR X (compareOp op') r') (h1 : FlagS (dc X ah) r o1) (h2 : OpS (dc X ah) r' o2) (ha : PF X ah E e1 a) (hb : PF X ah E e2 b) (hc : PF X ah E e3 cc)
    (hm : lastMarks [op, op'] [e2, e3] = false := by with_unfolding_all rfl) : PFT X ah E (.Compare e1 [op, op'] [e2, e3] pos) (cT (cChain o1 o2 a b cc)) := by
  obtain ⟨t, p, r1⟩ := ha
  obtain ⟨u, q, r2⟩ := hb
  obtain ⟨v, q', r3⟩ := hc
  exact ⟨_, pt_chain ho ho' p q q' hm, rt_of (re_chain h1 h2 r1 r2 r3)⟩
/-! ### -a -/
def negD : D → Option D
  | .int i => some (.int (-i))
  | _ => none
theorem pf_neg {e : Expr} {a : FE} {pos} (ha : PF X ah E e a) : PF X ah E (.UnaryOp .USub e pos) (c1 negD a) := by
  obtain ⟨t, p, r⟩ := ha
  refine ⟨_, pe_un un_neg p, ?_⟩
  refine RG.bind (r := fun σ x H1 (Q : VK) => rU (fun i => .int (-i)) x H1 Q) (k := fun ρ x g1 => lift (negD x) g1) r fun F ρ g σ H S Q x d e R hx G => ?_
  cases hx <;> simp only [negD, lift] at G <;> first | exact G.elim | exact ⟨_, rfl, G.ret R (.int _)⟩
/-! ### a * b -/
abbrev rMulD (K : PySem.W.Frag) : R2 := R2.or (L2.rI CMul fun i j => .int (i * j)) (R2.or (rRepT K) rRep)
theorem op_mulD : OpR X (binaryOp .Mult) (rMulD X.K) := OpR.or op_mul (OpR.or op_repT op_rep)
theorem Dns.rep {S : Hp} {vs : List V} {ds : List D} (h : Dns c S vs ds) : ∀ n : Nat, Dns c S (List.replicate n vs).flatten (List.replicate n ds).flatten
  | 0 => .nil
  | n + 1 => by
    rw [List.replicate_succ, List.replicate_succ, List.flatten_cons, List.flatten_cons]
    exact h.append (Dns.rep h n)
theorem os_mul : OpS c (rMulD c.K) mulD := by
  intro E F ρ g σ H S Q x y dx dy e R hx hy G
  subst e
  cases hy with
  | int j =>
    cases hx with
    | int i =>
      simp only [mulD] at G
      by_cases h : small64 i ∨ small64 j
      · rw [if_pos h] at G
        exact .inl ⟨i, j, rfl, rfl, h, G.ret R (.int _)⟩
      · rw [if_neg h] at G; exact G.elim
    | tup h hs =>
      rename_i a vs ds
      simp only [mulD] at G
      by_cases hl : ds ≠ [] ∧ 2 ≤ j ∧ j ≤ 1000 ∧ ds.length ≤ 1000 ∧ ds.length * j.toNat ≤ 1000
      · rw [if_pos hl] at G
        refine .inr (.inl ⟨a, j, vs, rfl, rfl, Same.tup R.sub h, fun z => hl.1 ?_, hl.2.1, hl.2.2.1, by rw [hs.length]; exact hl.2.2.2.1, fun p hp => G.new R hp (.tup (SqT.of upd_same) ((hs.rep _).mono (R.tosame _ hp)))⟩)
        subst z; cases hs; rfl
      · rw [if_neg hl] at G; exact G.elim
    | lst h hs =>
      rename_i a vs ds
      simp only [mulD] at G
      by_cases hl : -(2 ^ 63) ≤ j ∧ j < 2 ^ 63 ∧ ds.length * j.toNat ≤ 1000
      · rw [if_pos hl] at G
        exact .inr (.inr ⟨a, j, vs, rfl, rfl, R.sub _ _ h, hl.1, hl.2.1, by rw [hs.length]; exact line_of hl.2.2, fun p hp => G.new R hp (.lst upd_same ((hs.rep _).mono (R.tosame _ hp)))⟩)
      · rw [if_neg hl] at G; exact G.elim
    | _ => simp only [mulD, lift] at G; exact G.elim
  | _ => cases dx <;> simp only [mulD, lift] at G <;> exact G.elim
/-! ### zip(a, b), both lists or both tuples -/
def zipD : List D → Option (List D)
  | [.lst xs, .lst ys] => some ((xs.zip ys).map fun p => .tup [p.1, p.2])
  | [.tup xs, .tup ys] => some ((xs.zip ys).map fun p => .tup [p.1, p.2])
  | _ => none
@[simp] def iZ (a : FA) : FI := fun ρ g => (a ρ g).bd fun xs g1 => lift (zipD xs) g1
theorem zip_at {xs ys : List D} {i : Nat} {d : D} (h : ((xs.zip ys).map fun p => D.tup [p.1, p.2])[i]? = some d) : ∃ x y, xs[i]? = some x ∧ ys[i]? = some y ∧ d = .tup [x, y] := by
  rw [List.getElem?_map, Option.map_eq_some_iff] at h
  obtain ⟨⟨x, y⟩, h1, rfl⟩ := h
  rw [List.getElem?_zip_eq_some] at h1
  exact ⟨x, y, h1.1, h1.2, rfl⟩
theorem zip_len {xs ys : List D} : ((xs.zip ys).map fun p => D.tup [p.1, p.2]).length = min xs.length ys.length := by simp
theorem pfi_zip {e e2 : Expr} {f : FA} {p pos tpos : Pos} {elts : List Expr} {kk : Nat} (hm : X.mg "zip" = none) (ha : PFA X ah E [e, e2] f) (hg : Gl X "zip" := by rfl)
    (hs : starEach [e, e2] X.env = (false, eval e X.env) :: starEach [e2] X.env := by rfl) (hpl : (backTo pos (starEach [e2] X.env)).any (·.1) = false := by rfl) : PFI X ah E (.Tuple elts kk tpos) (.Call (.Name "zip" p) [e, e2] [] pos) (iZ f) := by
  obtain ⟨t, q, r⟩ := ha
  refine ⟨_, RZ.pi_zipA hg hm q hs hpl, ?_⟩
  refine RG.bind (rel' := rI) (r := fun σ vs H1 (R : It → Hp → Prop) => ∃ a b xs ys, vs = [.ref a, .ref b] ∧ ((SqL X.K H1 a xs ∧ SqL X.K H1 b ys ∧ R (Itz X.K a b) H1) ∨ (SqT X.K H1 a xs ∧ SqT X.K H1 b ys ∧ R (RZ.ItzT X.K a b) H1))) (k := fun ρ xs g1 => lift (zipD xs) g1) r fun F ρ g σ H S Q x d e R hx G => ?_
  unfold zipD at G
  split at G
  · rename_i xs ys
    obtain ⟨v, w, rfl, hv, hw⟩ := hx.two
    cases hv with
    | lst h1 s1 =>
    cases hw with
    | lst h2 s2 =>
    rename_i a vs b ws
    refine ⟨a, b, vs, ws, rfl, .inl ⟨SqL.of (R.sub _ _ h1), SqL.of (R.sub _ _ h2), G.ret R ?_⟩⟩
    show WalkOf F.c _ _ _
    rw [e]
    refine ⟨fun F' ρ g σ H S1 e' sm R => ?_, fun F' ρ g σ H S1 i d e' sm R hd => ?_⟩
    · have a1 : SqL X.K H a vs := SqL.of (R.sub _ _ (sm _ _ h1))
      have a2 : SqL X.K H b ws := SqL.of (R.sub _ _ (sm _ _ h2))
      refine ⟨vs, ws, a1, a2, ?_⟩
      have := zip_len (xs := xs) (ys := ys)
      have l1 := s1.length
      have l2 := s2.length
      omega
    · obtain ⟨dx, dy, g1, g2, rfl⟩ := zip_at hd
      obtain ⟨vx, k1, n1⟩ := s1.get g1
      obtain ⟨vy, k2, n2⟩ := s2.get g2
      have a1 : SqL X.K H a vs := SqL.of (R.sub _ _ (sm _ _ h1))
      have a2 : SqL X.K H b ws := SqL.of (R.sub _ _ (sm _ _ h2))
      refine ⟨⟨vs, ws, vx, vy, a1, a2, k1, k2⟩, fun x H' y => ?_⟩
      obtain ⟨T, x', y', rfl, nT, rfl, f1, f2⟩ := y
      have := f1 vs a1
      rw [k1] at this; cases this
      have := f2 ws a2
      rw [k2] at this; cases this
      have st := R.tosame (.tup [vx, vy]) nT
      exact ⟨_, st, R.up _ nT, .tup (SqT.of upd_same) (.cons ((n1.mono sm).mono st) (.cons ((n2.mono sm).mono st) .nil))⟩
  · rename_i xs ys
    obtain ⟨v, w, rfl, hv, hw⟩ := hx.two
    cases hv with
    | tup h1 s1 =>
    cases hw with
    | tup h2 s2 =>
    rename_i a vs b ws
    refine ⟨a, b, vs, ws, rfl, .inr ⟨Same.tup R.sub h1, Same.tup R.sub h2, G.ret R ?_⟩⟩
    show WalkOf F.c _ _ _
    rw [e]
    refine ⟨fun F' ρ g σ H S1 e' sm R => ?_, fun F' ρ g σ H S1 i d e' sm R hd => ?_⟩
    · have a1 : SqT X.K H a vs := Same.tup R.sub (Same.tup sm h1)
      have a2 : SqT X.K H b ws := Same.tup R.sub (Same.tup sm h2)
      refine ⟨vs, ws, a1, a2, ?_⟩
      have := zip_len (xs := xs) (ys := ys)
      have l1 := s1.length
      have l2 := s2.length
      omega
    · obtain ⟨dx, dy, g1, g2, rfl⟩ := zip_at hd
      obtain ⟨vx, k1, n1⟩ := s1.get g1
      obtain ⟨vy, k2, n2⟩ := s2.get g2
      have a1 : SqT X.K H a vs := Same.tup R.sub (Same.tup sm h1)
      have a2 : SqT X.K H b ws := Same.tup R.sub (Same.tup sm h2)
      refine ⟨⟨vs, ws, vx, vy, a1, a2, k1, k2⟩, fun x H' y => ?_⟩
      obtain ⟨T, x', y', rfl, nT, rfl, f1, f2⟩ := y
      have := f1 vs a1
      rw [k1] at this; cases this
      have := f2 ws a2
      rw [k2] at this; cases this
      have st := R.tosame (.tup [vx, vy]) nT
      exact ⟨_, st, R.up _ nT, .tup (SqT.of upd_same) (.cons ((n1.mono sm).mono st) (.cons ((n2.mono sm).mono st) .nil))⟩
  · exact G.elim

/-! ### zip(a, b), a tuple and a list -/
/-- a tuple at a and a list at b side by side -/
def ItzM (K : PySem.W.Frag) (a b : Addr) : It where
  go i H := ∃ us ws p q, SqT K H a us ∧ SqL K H b ws ∧ us[i]? = some p ∧ ws[i]? = some q
  yld i H v H' := ∃ n p q, v = .ref n ∧ H n = none ∧ H' = upd H n (.tup [p, q]) ∧ (∀ us, SqT K H a us → us[i]? = some p) ∧ ∀ ws, SqL K H b ws → ws[i]? = some q
  stop i H := ∃ us ws, SqT K H a us ∧ SqL K H b ws ∧ i ≤ us.length ∧ i ≤ ws.length ∧ (i = us.length ∨ i = ws.length)
structure MixSep (a b z t o m n : Addr) : Prop where
  s : ZipSep2 z t o m n [m, a] [n, b]
  am : a ≠ m
  bn : b ≠ n
abbrev MixSt (a b z t o m n : Addr) (i : Nat) (h : Heap) : Prop := (IsZip h z t o .none ∧ IsTupOf2 h t (.ref m) (.ref n)) ∧ (∃ p q, IsTupOf2 h o p q) ∧ h.IsTupleIter m a i ∧ h.IsListIter n b i
theorem mix_obj {a b z t o m n : Addr} {i : Nat} {h : Heap} (st : MixSt a b z t o m n i h) : ∀ c ∈ [z, t, o, m, n], ∃ ob, h.get? c = some ob ∧ ∀ v, ob.data ≠ .cell v := by
  obtain ⟨⟨q1, q2⟩, ⟨_, _, q3⟩, ⟨om, q4, _, q5⟩, ⟨on, q6, _, q7⟩⟩ := st
  intro c hc
  simp only [List.mem_cons, List.not_mem_nil, or_false] at hc
  rcases hc with rfl | rfl | rfl | rfl | rfl
  · exact ⟨_, q1, fun v u => nomatch u⟩
  · exact ⟨_, q2, fun v u => nomatch u⟩
  · exact ⟨_, q3, fun v u => nomatch u⟩
  · exact ⟨om, q4, fun v u => nomatch (q5.symm.trans u)⟩
  · exact ⟨on, q6, fun v u => nomatch (q7.symm.trans u)⟩
theorem turn_zipM {P : Program} {w : World} {K : PySem.W.Frag} {es : List Expr} {ct : Nat} {tp : Pos} {a b z t o m n : Addr} (S : MixSep a b z t o m n) : Turn P w K (.Tuple es ct tp) (ItzM K a b) [z, t, o, m, n] z (MixSt a b z t o m n) where
  mem := by simp
  obj := fun i h st => mix_obj st
  keep := by
    rintro i h h' ⟨⟨q1, q2⟩, ⟨p, q, q3⟩, q4, q5⟩ k
    exact ⟨⟨k z (by simp) _ q1, k t (by simp) _ q2⟩, ⟨p, q, k o (by simp) _ q3⟩, q4.at fun ob e => k m (by simp) ob e, q5.at fun ob e => k n (by simp) ob e⟩
  item := by
    rintro X rfl rfl rfl hc i pins s σ H E I hf st ⟨us, ws, p, q, a1, a2, a3, a4⟩
    have lt : ∀ c ∈ [z, t, o, m, n], c < s.heap.objs.size := fun c hcm => by
      obtain ⟨ob, e, _⟩ := mix_obj st c hcm
      exact Heap.lt_size e
    obtain ⟨⟨q1, q2⟩, ⟨p0, q0, q3⟩, q4, q5⟩ := st
    obtain ⟨vs, r1, b1, _⟩ := I.tuple a1
    obtain ⟨xs, r2, b2, _⟩ := I.list a2
    obtain ⟨u, u1, u2⟩ := r1.get a3
    obtain ⟨x, x1, x2⟩ := r2.get a4
    have l1 : i < vs.toArray.size := by have := (List.getElem?_eq_some_iff.mp u1).1; simpa using this
    have l2 : i < xs.toArray.size := by have := (List.getElem?_eq_some_iff.mp x1).1; simpa using this
    have d1 := Draws.tuple (prog := X.prog) (w := X.w) (A := X.A.in1) (I.ok.hd hc) m a (fun e => S.am e) vs.toArray
    have d2 := Draws.list (prog := X.prog) (w := X.w) (A := X.A.in1) (I.ok.hd hc) n b (fun e => S.bn e) xs.toArray
    refine wpAny_pyNext_zipD2_item S.s d1 d2 q1 q2 q3 ⟨q4, b1⟩ ⟨q5, b2.isList⟩ l1 l2 fun y1 y2 h' tk e1 e2 z1 z3 g1 g2 z4 z5 hk => ⟨_, rfl, ?_⟩
    rw [show vs.toArray[i]? = some u by simpa using u1] at e1
    rw [show xs.toArray[i]? = some x by simpa using x1] at e2
    cases e1; cases e2
    refine wpAny_letOwnedTupleGo_zip (s := { s with heap := h', toks := tk }) z1 fun h2 k1 sb => ?_
    have up : ∀ c ob, c ≠ z → h'.get? c = some ob → h2.get? c = some ob := fun c ob ne e => (sb.2 c ne).trans e
    have nz : s.heap.objs.size ≠ z := Nat.ne_of_gt (lt z (by simp))
    have fresh := I.hok.fresh (Nat.le_refl s.heap.objs.size)
    have J : Inv X pins σ (upd H s.heap.objs.size (.tup [p, q])) { s with heap := h2, toks := tk } := by
      refine I.turnedNew (ch := [z, t, o, m, n]) (fun c ob hb e => ?_) hf (Nat.le_refl _) ⟨by show 2 ≤ sizeLine; decide, [u, x], .cons u2 (.cons x2 .nil), ⟨_, up _ _ nz z4, rfl, _, rfl⟩⟩
      simp only [List.mem_cons, List.not_mem_nil, or_false, not_or] at hb
      exact up c ob hb.1 (hk c ob hb.1 hb.2.2.1 hb.2.2.2.1 hb.2.2.2.2 e)
    refine ⟨.ref s.heap.objs.size, _, J, rfl, ⟨_, p, q, rfl, fresh, rfl, fun l hl => (I.tuple_inj hl a1).symm ▸ a3, fun l hl => (I.list_inj hl a2).symm ▸ a4⟩, ⟨⟨k1, up _ _ S.s.TIz (hk _ _ S.s.TIz S.s.TITO S.s.TIi1 S.s.TIi2 q2)⟩, ⟨u, x, up _ _ S.s.TOz z3⟩, g1.1.at fun ob e => up m ob (fun e => S.s.zi1 e.symm) e, g2.1.at fun ob e => up n ob (fun e => S.s.zi2 e.symm) e⟩, fun c hcm => ?_⟩
    rw [upd_ne (Nat.ne_of_lt (lt c hcm))]
    exact (hf c hcm).1
  done := by
    rintro X rfl rfl rfl hc i pins s σ H E I hf ⟨⟨q1, q2⟩, ⟨p0, q0, q3⟩, q4, q5⟩ ⟨us, ws, a1, a2, a3, a4, a5⟩
    obtain ⟨vs, r1, b1, _⟩ := I.tuple a1
    obtain ⟨xs, r2, b2, _⟩ := I.list a2
    have n1 := r1.length
    have n2 := r2.length
    have d1 := Draws.tuple (prog := X.prog) (w := X.w) (A := X.A.in1) (I.ok.hd hc) m a (fun e => S.am e) vs.toArray
    have d2 := Draws.list (prog := X.prog) (w := X.w) (A := X.A.in1) (I.ok.hd hc) n b (fun e => S.bn e) xs.toArray
    refine wpAny_pyNext_zipD2_end S.s d1 d2 q1 q2 q3 ⟨q4, b1⟩ ⟨q5, b2.isList⟩ (by simp; omega) (by simp; omega) (by simp; omega) fun h' tk hk => ⟨rfl, I.turnedL (ch := [z, t, o, m, n]) (fun c ob hb e => ?_) hf⟩
    simp only [List.mem_cons, List.not_mem_nil, or_false, not_or] at hb
    exact hk c ob hb.1 hb.2.2.1 hb.2.2.2.1 hb.2.2.2.2 e
  self := fun A i s Q E st h => wpAny_pyIter_zip st.1.1 h
def iZipM (K : PySem.W.Frag) (ta : TA) : TI := fun σ H R => ta σ H fun vs H1 => ∃ a b us ws, vs = [.ref a, .ref b] ∧ SqT K H1 a us ∧ SqL K H1 b ws ∧ R (ItzM K a b) H1
theorem pi_zipM {X : Cx} {e e2 : Expr} {ta : TA} {p pos tpos : Pos} {es : List Expr} {ct : Nat} (hg : Gl X "zip") (hm : X.mg "zip" = none) (ha : PA X [e, e2] ta)
    (hs : starEach [e, e2] X.env = (false, eval e X.env) :: starEach [e2] X.env := by rfl) (hpl : (backTo pos (starEach [e2] X.env)).any (·.1) = false := by rfl) : PI X (.Tuple es ct tpos) (.Call (.Name "zip" p) [e, e2] [] pos) (iZipM X.K ta) := by
  refine ⟨fun pins s σ H R I h => Call_ (ld_blt I hg hm PyProof.Rows.boot_zip (PyProof.Rows.callWith_type1 (thn (ha.run pos pins s σ H _ I h) fun us s1 ⟨vs, H1, I1, r1, q1⟩ => ?_) hs hpl))⟩
  obtain ⟨a, b, ys, ws, rfl, a1, a2, q⟩ := q1
  cases r1 with
  | cons r r' =>
  cases r' with
  | cons r' rr =>
  cases rr; cases r; cases r'
  obtain ⟨us, r1, b1, _⟩ := I1.tuple a1
  obtain ⟨xs, r2, b2, _⟩ := I1.list a2
  have la : a < s1.heap.objs.size := by obtain ⟨ob, e, _⟩ := id b1; exact Heap.lt_size e
  have lb : b < s1.heap.objs.size := b2.lt
  refine zip_begins2 (begins_tuple a us.toArray) (begins_list b xs.toArray) b1 b2.isList fun h' z1 z2 z3 z4 z5 z6 hk => wpAny_pyIter_zip z1 ?_
  have S : MixSep a b (s1.heap.objs.size + 4) (s1.heap.objs.size + 2) (s1.heap.objs.size + 3) s1.heap.objs.size (s1.heap.objs.size + 1) := ⟨zip_sep2 (by simpa using la) (by simpa using lb), Nat.ne_of_lt la, Nat.ne_of_lt (Nat.lt_succ_of_lt lb)⟩
  refine ⟨_, _, _, ItzM X.K a b, H1, rfl, I1.kept (t' := s1.toks) hk, turn_zipM S, ⟨⟨z1, z2⟩, ⟨_, _, z3⟩, ⟨_, z4, rfl, rfl⟩, ⟨_, z5, rfl, rfl⟩⟩, fun c hc => ?_, q⟩
  have le : s1.heap.objs.size ≤ c := by
    simp only [List.mem_cons, List.not_mem_nil, or_false] at hc
    rcases hc with rfl | rfl | rfl | rfl | rfl
    · exact Nat.le_add_right _ 4
    · exact Nat.le_add_right _ 2
    · exact Nat.le_add_right _ 3
    · exact Nat.le_refl _
    · exact Nat.le_add_right _ 1
  exact I1.fpOk le (I1.hok.fresh le)
def zipMD : List D → Option (List D)
  | [.tup xs, .lst ys] => some ((xs.zip ys).map fun p => .tup [p.1, p.2])
  | _ => none
@[simp] def iZM (a : FA) : FI := fun ρ g => (a ρ g).bd fun xs g1 => lift (zipMD xs) g1
theorem pfi_zipM {e e2 : Expr} {f : FA} {p pos tpos : Pos} {elts : List Expr} {kk : Nat} (hm : X.mg "zip" = none) (ha : PFA X ah E [e, e2] f) (hg : Gl X "zip" := by rfl)
    (hs : starEach [e, e2] X.env = (false, eval e X.env) :: starEach [e2] X.env := by rfl) (hpl : (backTo pos (starEach [e2] X.env)).any (·.1) = false := by rfl) : PFI X ah E (.Tuple elts kk tpos) (.Call (.Name "zip" p) [e, e2] [] pos) (iZM f) := by
  obtain ⟨t, q, r⟩ := ha
  refine ⟨_, pi_zipM hg hm q hs hpl, ?_⟩
  refine RG.bind (rel' := rI) (r := fun σ vs H1 (R : It → Hp → Prop) => ∃ a b xs ys, vs = [.ref a, .ref b] ∧ SqT X.K H1 a xs ∧ SqL X.K H1 b ys ∧ R (ItzM X.K a b) H1) (k := fun ρ xs g1 => lift (zipMD xs) g1) r fun F ρ g σ H S Q x d e R hx G => ?_
  unfold zipMD at G
  split at G
  · rename_i xs ys
    obtain ⟨v, w, rfl, hv, hw⟩ := hx.two
    cases hv with
    | tup h1 s1 =>
    cases hw with
    | lst h2 s2 =>
    rename_i a vs b ws
    refine ⟨a, b, vs, ws, rfl, Same.tup R.sub h1, SqL.of (R.sub _ _ h2), G.ret R ?_⟩
    show WalkOf F.c _ _ _
    rw [e]
    refine ⟨fun F' ρ g σ H S1 e' sm R => ?_, fun F' ρ g σ H S1 i d e' sm R hd => ?_⟩
    · have a1 : SqT X.K H a vs := Same.tup R.sub (Same.tup sm h1)
      have a2 : SqL X.K H b ws := SqL.of (R.sub _ _ (sm _ _ h2))
      have := zip_len (xs := xs) (ys := ys)
      have l1 := s1.length
      have l2 := s2.length
      exact ⟨vs, ws, a1, a2, by omega, by omega, by omega⟩
    · obtain ⟨dx, dy, g1, g2, rfl⟩ := zip_at hd
      obtain ⟨vx, k1, n1⟩ := s1.get g1
      obtain ⟨vy, k2, n2⟩ := s2.get g2
      have a1 : SqT X.K H a vs := Same.tup R.sub (Same.tup sm h1)
      have a2 : SqL X.K H b ws := SqL.of (R.sub _ _ (sm _ _ h2))
      refine ⟨⟨vs, ws, vx, vy, a1, a2, k1, k2⟩, fun x H' y => ?_⟩
      obtain ⟨T, x', y', rfl, nT, rfl, f1, f2⟩ := y
      have := f1 vs a1
      rw [k1] at this; cases this
      have := f2 ws a2
      rw [k2] at this; cases this
      have st := R.tosame (.tup [vx, vy]) nT
      exact ⟨_, st, R.up _ nT, .tup (SqT.of upd_same) (.cons ((n1.mono sm).mono st) (.cons ((n2.mono sm).mono st) .nil))⟩
  · exact G.elim
/-! ### len(set(t)), sorted(set(t)) of a tuple of ints -/
def intsOf : List D → Option (List Int)
  | [] => some []
  | .int i :: ds => (intsOf ds).map (i :: ·)
  | _ => none
theorem intsOf_ok {S : Hp} : ∀ {vs : List V} {ds : List D} {ns : List Int}, Dns c S vs ds → intsOf ds = some ns → vs = ns.map V.int
  | _, _, _, .nil, e => by simp [intsOf] at e; subst e; rfl
  | _, _, _, .cons h hs, e => by
    cases h <;> simp only [intsOf] at e <;> try cases e
    rw [Option.map_eq_some_iff] at e
    obtain ⟨bs, e1, rfl⟩ := e
    rw [intsOf_ok hs e1]; rfl
/-- how many unlike ones -/
def unlike (ns : List Int) : Nat := ns.eraseDups.length
theorem eraseDups_nodup (ns : List Int) : ns.eraseDups.Nodup := by
  induction h : ns.length using Nat.strongRecOn generalizing ns with
  | ind n ih =>
    cases ns with
    | nil => simp
    | cons a as =>
      rw [List.eraseDups_cons, List.nodup_cons]
      refine ⟨fun hm => ?_, ih _ (by rw [← h]; exact Nat.lt_succ_of_le (List.length_filter_le _ _)) _ rfl⟩
      rw [List.mem_eraseDups] at hm
      simp at hm
theorem unlike_of {ns out : List Int} (nd : out.Nodup) (h : ∀ k, k ∈ out ↔ k ∈ ns) : out.length = unlike ns :=
  (List.perm_ext_iff_of_nodup nd (eraseDups_nodup ns)).mpr (fun k => by rw [h k, List.mem_eraseDups]) |>.length_eq
def tLenSetT (K : PySem.W.Frag) (ta : TE) : TE := fun σ H Q => ta σ H fun x H1 => ∃ (l : Addr) (ns : List Int), x = .ref l ∧ SqT K H1 l (ns.map V.int) ∧ ns.length ≤ 1000 ∧ Q (.int (unlike ns : Nat)) H1
theorem pe_lenSetT {a : Expr} {ta : TE} {p p2 q pos : Pos} (hg : Gl X "len") (hm : X.mg "len" = none) (hg2 : Gl X "set") (hm2 : X.mg "set" = none) (ha : PE X a ta) (hc : X.calm = true)
    (na : starEach [a] X.env = (false, eval a X.env) :: starEach [] X.env) : PE X (.Call (.Name "len" p) [.Call (.Name "set" p2) [a] [] q] [] pos) (tLenSetT X.K ta) := by
  refine ⟨fun pins s σ H Q I h => ?_⟩
  refine Call_ (ld_blt I hg hm boot_len ?_)
  refine PyProof.Rows.callWith_builtin1 (PyProof.Rows.args_cons ?_ rfl) rfl rfl
  refine Call_ (ld_blt I hg2 hm2 boot_set ?_)
  refine PyProof.Rows.callWith_type1 (PyProof.Rows.args_cons (thn (ha.run pins s σ H _ I h) fun v s1 ⟨x, H1, I1, r1, q1⟩ => PyProof.Rows.args_nil ?_) na) na rfl
  obtain ⟨l, ns, rfl, hq, hl, q1⟩ := q1
  cases r1
  obtain ⟨its, r, pl, hz⟩ := I1.tuple hq
  have hi : IntsAre its.toArray.toList ns := RZ.intsAre_vals (by simpa using r)
  refine call_set_tupI ns (I1.ok.hd hc) (show s1.heap.IsTuple l its.toArray from pl) hi (by unfold scanBound; omega) fun h' tk c R1 hcn k => ?_
  refine PyProof.Rows.args_nil ?_
  obtain ⟨o, es, ep, t, ho, hex, hd, g, nd, hm3, hb, hf, hn, hr, hl2⟩ := R1
  have I2 : Inv X pins σ H1 { s1 with heap := h', toks := tk } := I1.kept fun b o e => k b o e
  have hu : es.size = unlike ns := by
    have := unlike_of (ns := ns) nd fun j => by rw [← hm3 j, decide_eq_true_eq]
    rw [← this, List.length_map, Array.length_toList]
  exact call_len_set ho hex hd hf (by rw [hn]; omega) ⟨.int (unlike ns : Nat), H1, I2.tok _, ⟨_, by rw [← hu]⟩, q1⟩
def tSortSetT (K : PySem.W.Frag) (ta : TE) : TE := fun σ H Q => ta σ H fun x H1 => ∃ (l : Addr) (ns : List Int), x = .ref l ∧ SqT K H1 l (ns.map V.int) ∧ ns.length ≤ 60 ∧
  ∀ out : List Int, out.Pairwise (· < ·) → (∀ k, k ∈ out ↔ k ∈ ns) → ∀ p, H1 p = none → Q (.ref p) (upd H1 p (.lst (out.map V.int)))
theorem pe_sortSetT {a : Expr} {ta : TE} {p p2 q pos : Pos} (hg : Gl X "sorted") (hm : X.mg "sorted" = none) (hg2 : Gl X "set") (hm2 : X.mg "set" = none) (ha : PE X a ta) (hc : X.calm = true)
    (na : starEach [a] X.env = (false, eval a X.env) :: starEach [] X.env) : PE X (.Call (.Name "sorted" p) [.Call (.Name "set" p2) [a] [] q] [] pos) (tSortSetT X.K ta) := by
  refine ⟨fun pins s σ H Q I h => ?_⟩
  refine Call_ (ld_blt I hg hm (by decide +kernel : bootBuiltins "sorted" = some (.builtin "sorted")) ?_)
  refine PyProof.Rows.callWith_builtin1 (PyProof.Rows.args_cons ?_ rfl) rfl rfl
  refine Call_ (ld_blt I hg2 hm2 boot_set ?_)
  refine PyProof.Rows.callWith_type1 (PyProof.Rows.args_cons (thn (ha.run pins s σ H _ I h) fun v s1 ⟨x, H1, I1, r1, q1⟩ => PyProof.Rows.args_nil ?_) na) na rfl
  obtain ⟨l, ns, rfl, hq, hl, q1⟩ := q1
  cases r1
  obtain ⟨its, r, pl, hz⟩ := I1.tuple hq
  have hi : IntsAre its.toArray.toList ns := RZ.intsAre_vals (by simpa using r)
  refine call_set_tupI ns (I1.ok.hd hc) (show s1.heap.IsTuple l its.toArray from pl) hi (by unfold scanBound; omega) fun h' tk c R1 hcn k => ?_
  refine PyProof.Rows.args_nil ?_
  have I2 : Inv X pins σ H1 { s1 with heap := h', toks := tk } := I1.kept fun b o e => k b o e
  obtain ⟨s2, hs2⟩ : ∃ s2 : Shared, s2 = { s1 with heap := h', toks := tk } := ⟨_, rfl⟩
  have R2 : SetR X.w s2.heap s1.heap.objs.size (fun j => decide (j ∈ ns)) c := by rw [hs2]; exact R1
  rw [← hs2] at I2 ⊢
  refine sorted_set (s := s2) R2 (I1.ok.hd hc) (by omega : c < 64) fun s' p out c' ms k' g o hp hg' hi' hs hm' hl' => ?_
  have hlen : (ms.map V.int).length ≤ sizeLine := by rw [List.length_map, hl', sizeLine_eq]; omega
  have hn : H1 p = none := I2.hok.fresh hp
  have J : Inv X pins σ (upd H1 p (.lst (ms.map V.int))) { s2 with heap := s'.heap, gens := s'.gens, drawn := s'.drawn, toks := s'.toks } :=
    I2.call (ch := []) (Un.laid k' hp hn) (I2.hok.laid k' hp ⟨hlen, out.toList, c', vals_of_ints hi', hg'⟩) (by rw [g]; exact I2.bare) (fun _ z => nomatch z)
  have e : s' = { s2 with heap := s'.heap, gens := s'.gens, drawn := s'.drawn, toks := s'.toks } := by
    cases s'
    cases s2
    cases o
    rfl
  rw [e]
  exact ⟨.ref p, _, J, rfl, q1 ms hs (fun j => by rw [hm' j, decide_eq_true_eq]) p hn⟩
def lenSetD : D → Option D
  | .tup ds => (intsOf ds).bind fun ns => if ns.length ≤ 1000 then some (.int (unlike ns : Nat)) else none
  | _ => none
theorem pf_lenSet {e : Expr} {a : FE} {p p2 q pos : Pos} (hm : X.mg "len" = none) (hm2 : X.mg "set" = none) (ha : PF X ah E e a) (hg : Gl X "len" := by rfl) (hg2 : Gl X "set" := by rfl) (hc : X.calm = true := by rfl)
    (na : starEach [e] X.env = (false, eval e X.env) :: starEach [] X.env := by rfl) : PF X ah E (.Call (.Name "len" p) [.Call (.Name "set" p2) [e] [] q] [] pos) (c1 lenSetD a) := by
  obtain ⟨t, u, r⟩ := ha
  refine ⟨_, pe_lenSetT hg hm hg2 hm2 u hc na, ?_⟩
  refine RG.bind (r := fun σ x H1 (Q : VK) => ∃ (l : Addr) (ns : List Int), x = .ref l ∧ SqT X.K H1 l (ns.map V.int) ∧ ns.length ≤ 1000 ∧ Q (.int (unlike ns : Nat)) H1) (k := fun ρ x g1 => lift (lenSetD x) g1) r fun F ρ g σ H S Q x d e R hx G => ?_
  cases hx with
  | tup h hs =>
    simp only [lenSetD] at G
    rename_i ds
    cases qi : intsOf ds with
    | none => rw [qi] at G; exact G.elim
    | some ns =>
      rw [qi] at G
      have hv := intsOf_ok hs qi
      subst hv
      simp only [Option.bind_some] at G
      by_cases hl : ns.length ≤ 1000
      · rw [if_pos hl] at G
        exact ⟨_, ns, rfl, Same.tup R.sub h, hl, G.ret R (.int _)⟩
      · rw [if_neg hl] at G; exact G.elim
  | _ => simp only [lenSetD, lift] at G; exact G.elim
/-- the unlike ones, ascending -/
def sortSet (ns : List Int) : List Int := ns.eraseDups.mergeSort (fun a b => decide (a ≤ b))
theorem sortSet_of {ns out : List Int} (hs : out.Pairwise (· < ·)) (h : ∀ k, k ∈ out ↔ k ∈ ns) : out = sortSet ns := by
  have hp : out.Perm (sortSet ns) := (List.perm_ext_iff_of_nodup (hs.imp fun {a b} h => (by omega : a ≠ b)) ((eraseDups_nodup ns).perm (List.mergeSort_perm _ _).symm)).mpr fun k => by
    rw [h k]
    exact ((List.mergeSort_perm _ _).mem_iff.trans List.mem_eraseDups).symm
  have h3 := List.pairwise_mergeSort (le := fun a b : Int => decide (a ≤ b)) (fun a b c h1 h2 => by simp at *; omega) (fun a b => by simp; omega) ns.eraseDups
  exact List.Perm.eq_of_pairwise (le := fun a b : Int => a ≤ b) (fun a b _ _ h1 h2 => by omega) (hs.imp fun {a b} h => by omega) (h3.imp fun {a b} h => by simpa using h) hp
def sortSetD : D → Option D
  | .tup ds => (intsOf ds).bind fun ns => if ns.length ≤ 60 then some (.lst ((sortSet ns).map .int)) else none
  | _ => none
theorem pf_sortSet {e : Expr} {a : FE} {p p2 q pos : Pos} (hm : X.mg "sorted" = none) (hm2 : X.mg "set" = none) (ha : PF X ah E e a) (hg : Gl X "sorted" := by rfl) (hg2 : Gl X "set" := by rfl) (hc : X.calm = true := by rfl)
    (na : starEach [e] X.env = (false, eval e X.env) :: starEach [] X.env := by rfl) : PF X ah E (.Call (.Name "sorted" p) [.Call (.Name "set" p2) [e] [] q] [] pos) (c1 sortSetD a) := by
  obtain ⟨t, u, r⟩ := ha
  refine ⟨_, pe_sortSetT hg hm hg2 hm2 u hc na, ?_⟩
  refine RG.bind (r := fun σ x H1 (Q : VK) => ∃ (l : Addr) (ns : List Int), x = .ref l ∧ SqT X.K H1 l (ns.map V.int) ∧ ns.length ≤ 60 ∧
  ∀ out : List Int, out.Pairwise (· < ·) → (∀ k, k ∈ out ↔ k ∈ ns) → ∀ p, H1 p = none → Q (.ref p) (upd H1 p (.lst (out.map V.int)))) (k := fun ρ x g1 => lift (sortSetD x) g1) r fun F ρ g σ H S Q x d e R hx G => ?_
  cases hx with
  | tup h hs =>
    simp only [sortSetD] at G
    rename_i ds
    cases qi : intsOf ds with
    | none => rw [qi] at G; exact G.elim
    | some ns =>
      rw [qi] at G
      have hv := intsOf_ok hs qi
      subst hv
      simp only [Option.bind_some] at G
      by_cases hl : ns.length ≤ 60
      · rw [if_pos hl] at G
        refine ⟨_, ns, rfl, Same.tup R.sub h, hl, fun out h1 h2 p hp => ?_⟩
        have := sortSet_of h1 h2
        subst this
        exact G.new R hp (.lst upd_same (Dns.ints _))
      · rw [if_neg hl] at G; exact G.elim
  | _ => simp only [sortSetD, lift] at G; exact G.elim
end
end FD
set_option Elab.async false
set_option linter.all false
set_option maxRecDepth 100000
set_option maxHeartbeats 4000000
namespace FD
open PySem L2 PyProof.Rows
/-! ### try: .. except X as n: return (c, n.f) -/
/-- a block whose error is wished for at the slots of its start -/
structure RSw (c : DC) (E : L2.St → XK) (t : TS) (f : FS) : Prop where
  run : ∀ (F : Fx) (ρ : List En) (g : Gh) (σ : L2.St) (H S : Hp) (Z : Ends), F.c = c → Rep F ρ g σ H S → GotS F S (E σ) Z (f ρ g) → t Z σ H
def PFw (X : Cx) (ah : Option Addr) (E : L2.St → XK) (s : Stmt) (f : FS) : Prop := ∃ t, PS X s t ∧ RSw (dc X ah) E t f
def PFws (X : Cx) (ah : Option Addr) (E : L2.St → XK) (s : List Stmt) (f : FS) : Prop := ∃ t, PSs X s t ∧ RSw (dc X ah) E t f
section
variable {X : Cx} {ah : Option Addr} {E : L2.St → XK} {c : DC}
theorem GotS.noE {F : Fx} {S : Hp} {E : XK} {Z : Ends} {m : M Fl} (G : GotS F S E Z (noX m)) : GotS F S E0 Z m := by
  cases m with
  | none => exact G
  | some o => cases o with
    | ok fl g => cases fl <;> exact G
    | ex _ _ _ _ => exact G.elim
theorem RG.stepW {β α : Type} {rel : Rl β α} {t : TX β} {fa : List En → Gh → M α} (ha : RG rel c E t fa) {F : Fx} {ρ : List En} {g : Gh} {σ : L2.St} {H S : Hp} {Z : Ends} {k : α → Gh → M Fl} {r : β → Hp → Prop}
    (e : F.c = c) (R : Rep F ρ g σ H S) (G : GotS F S (E σ) Z ((fa ρ g).bd k)) (hk : ∀ H1 S1 g1 b a, Same S S1 → Rep F ρ g1 σ H1 S1 → rel c S1 b a → GotS F S1 (E σ) Z (k a g1) → r b H1) : t σ H r := by
  refine ha.run F ρ g σ H S _ e R ?_
  cases h : fa ρ g with
  | none => simp only [M.bd, h] at G; exact G
  | some o => cases o with
    | ok a g1 =>
      simp only [M.bd, h] at G
      exact fun b H1 S1 sm R1 rl => hk H1 S1 g1 b a sm R1 (e ▸ rl) (G.mono sm)
    | ex cc ks ds g1 => simp only [M.bd, h] at G; exact G
theorem pfw_set (i : Nat) {x : Str} {e : Expr} {a : FE} {pos' pos : Pos} (hN : X.N.Nodup) (ha : PF X ah E e a) (hi : X.N[i]? = some x := by rfl) (hx : Loc X.env.scope x := by first | exact Or.inl rfl | exact Or.inr rfl) (hs : swapsWith e (some (.Name x pos')) pos.line X.env = pure false := by rfl)
    (hf : X.fn x = true ∨ X.env.scope.names.lookup x = some .local := by first | exact .inl rfl | exact .inr rfl) : PFw X ah E (.Assign [.Name x pos'] e pos) (sAsg a (gN i)) := by
  obtain ⟨t, p, r⟩ := ha
  refine ⟨_, ps_set hN hi hx p hs hf, ⟨fun F ρ g σ H S Z e R G => ?_⟩⟩
  exact r.stepW e R G fun H1 S1 g1 y d sm R1 hy G => G _ H1 S1 (Same.refl _) (R1.set i (e ▸ hy))
theorem pfw_ret {e : Expr} {a : FE} {pos : Pos} (ha : PF X ah E e a) : PFw X ah E (.Return (some e) pos) (sRet a) := by
  obtain ⟨t, p, r⟩ := ha
  refine ⟨_, ps_ret p, ⟨fun F ρ g σ H S Z e R G => ?_⟩⟩
  exact r.stepW e R G fun H1 S1 g1 y d sm R1 hy G => G y H1 S1 (Same.refl _) R1.bare (e ▸ hy)
theorem pfw_expr {e : Expr} {a : FE} {pos : Pos} (ha : PF X ah E e a) (hs : swapsWith e none pos.line X.env = pure false := by rfl) : PFw X ah E (.Expr e pos) (sDrop a) := by
  obtain ⟨t, p, r⟩ := ha
  refine ⟨_, ps_expr p hs, ⟨fun F ρ g σ H S Z e R G => ?_⟩⟩
  exact r.stepW e R G fun H1 S1 g1 y d sm R1 hy G => G σ H1 S1 (Same.refl _) R1
@[simp] def sNoX (b : FS) : FS := fun ρ g => noX (b ρ g)
theorem pfws_cons {s : Stmt} {rest : List Stmt} {a b : FS} (ha : PFw X ah E s a) (hb : PFSs X ah E0 rest b) : PFws X ah E (s :: rest) (sSeq a (sNoX b)) := by
  obtain ⟨t, p, r⟩ := ha
  obtain ⟨u, q, s⟩ := hb
  refine ⟨_, pss_cons p q, ⟨fun F ρ g σ H S Z e R G => r.run F ρ g σ H S _ e R ?_⟩⟩
  unfold sSeq at G
  cases h : a ρ g with
  | none => rw [h] at G; exact G
  | some o => cases o with
    | ok f g1 => cases f with
      | nx ρ1 => rw [h] at G; exact fun σ' H' S' sm R' => s.run F ρ1 g1 σ' H' S' Z e R' (GotS.mono (GotS.noE G) sm)
      | bk ρ1 => rw [h] at G; exact G
      | ct ρ1 => rw [h] at G; exact G
      | rt d => rw [h] at G; exact G
    | ex cc ks ds g1 => rw [h] at G; exact G
theorem pfws_one {s : Stmt} {a : FS} (ha : PFw X ah E s a) : PFws X ah E [s] a := by
  obtain ⟨t, p, r⟩ := ha
  exact ⟨_, pss_one p, r⟩
/-- a call of a def that may raise, wished for -/
theorem Got.frameW {F : Fx} {ρ g σ H S} {Q : VK} {E : XK} {m : M D} (R : Rep F ρ g σ H S) (G : Got Dn F ρ σ S E Q m) : Got Dn ⟨F.c, H, S⟩ [] [] S E Q m := Got.frame R G
@[simp] def cFnX (n : Nat) (Fn : List D → Gh → M D) (a : FA) : FE := fun ρ g => (a ρ g).bd fun xs g1 => if xs.length = n then Fn xs g1 else none
theorem pf_callX {W : WX} {x : Str} {k n : Nat} {Fn : List D → Gh → M D} {e : Expr} {es : List Expr} {a : FA} {p pos : Pos} (tk : Takes X W) (G : DefOk X.prog X.w X.K X.mg X.base (L2.CX X.prog X.w) x k n Fn) (hr : Room k X.A) (ha : PFA X ah (WE W) (e :: es) a) (hg : Gl X x := by rfl) (hdb : (x == ("__debug__" : Str)) = false := by decide)
    (he : starEach (e :: es) X.env = (false, eval e X.env) :: starEach es X.env := by rfl) (hpl : (backTo pos (starEach es X.env)).any (·.1) = false := by rfl) : PF X ah (WE W) (.Call (.Name x p) (e :: es) [] pos) (cFnX n Fn a) := by
  obtain ⟨f, fd, ps, F, hm, hk, hb⟩ := G
  obtain ⟨t, q, s⟩ := ha
  refine ⟨_, pe_callS F hr hg hm hk hb (fun σ => passAt tk σ) q hdb he hpl, ?_⟩
  refine RG.bind (r := fun σ vs H1 (Q : VK) => spF X.K X.mg n Fn vs H1 Q (WE W σ)) (k := fun ρ xs g1 => if xs.length = n then Fn xs g1 else none) s fun F ρ g σ H S Q vs ds e R hx G => ?_
  by_cases hl : ds.length = n
  case neg => rw [if_neg hl] at G; exact G.elim
  rw [if_pos hl] at G
  have eK : F.c = dc X ah := e
  refine ⟨ah, S, g, ds, hl, ?_, hx, ?_⟩
  · have := R.sub_frame; rw [eK] at this; exact this
  · have := Got.frame R G; rw [eK] at this; exact this
/-- making a thing by an __init__ that may raise, wished for -/
def tMakeS (C : Addr) (sp : Sp) (E : L2.St → XK) (t : TA) : TE := fun σ H Q => t σ H fun vs H1 => ∀ x dx, H1 x = none → H1 dx = none → dx ≠ x →
  sp (.ref x :: vs) (upd (upd H1 dx (.own x)) x (.ins C dx [])) (fun v H2 => v = .non ∧ Q (.ref x) H2) (E σ)
theorem pe_makeS {CX : CXT} {k : Nat} {f C : Addr} {fd : FuncData} {ps : List Str} {sp : Sp} {x : Str} {p pos : Pos} {e : Expr} {es : List Expr} {t : TA} (M : Mk X.K C f) (F : FnOk X.prog X.w X.K X.mg X.base CX k f fd ps sp) (hr : Room (k + 1) X.A) (hg : Gl X x) (hm : X.mg x = some (.ref C)) (hb : Binds X.K fd ps []) (hx : ∀ σ, PassesAt CX X σ (E σ))
    (ha : PA X (e :: es) t) (hdb : (x == ("__debug__" : Str)) = false := by decide) (he : starEach (e :: es) X.env = (false, eval e X.env) :: starEach es X.env := by rfl) (hpl : (backTo pos (starEach es X.env)).any (·.1) = false := by rfl) :
    PE X (.Call (.Name x p) (e :: es) [] pos) (tMakeS C sp E t) := by
  refine ⟨fun pins s σ H Q I h => ?_⟩
  refine wpAny_Call_Name_kw (ld_glob I hg hm ?_ hdb)
  refine PySem.W.callWith_K (h₀ := X.base) I.ok.mod.kin M.kp (thn (ha.run pos pins s σ H _ I h) fun us s1 ⟨vs, H1, I, r, h⟩ => ⟨I.kIn, ?_⟩) he hpl
  have hq := h (s1.heap.objs.size + 1) s1.heap.objs.size (I.hok.fresh (Nat.le_succ _)) (I.hok.fresh (Nat.le_refl _)) (Nat.ne_of_lt (Nat.lt_succ_self _))
  have I2 := Inv.made (C := C) I
  have r2 : Vals (V.ref (s1.heap.objs.size + 1) :: vs) (Value.ref (s1.heap.objs.size + 1) :: us) := .cons rfl r
  have hl : (Value.ref (s1.heap.objs.size + 1) :: us ++ []).length = ps.length := by
    have e := r2.length
    rw [F.len _ _ _ _ hq] at e
    simpa using e.symm
  have hbb := hb _ (Value.ref (s1.heap.objs.size + 1) :: us) I2.kIn hl
  rw [List.append_nil] at hbb
  refine wpAny_call (make_map (f := f) I.kIn M.makes M.init (beq_iff_eq.mp M.fn) (codeAny_mono (F.run _ X.stack _ _ ⟨Value.ref (s1.heap.objs.size + 1) :: us, []⟩ (Value.ref (s1.heap.objs.size + 1) :: us) _ _ (E σ) (hr.make C us [])
    (I2.env0.make C us []) hbb r2 hq) fun r s' hq' => ?_))
  cases r with
  | error e => exact hx σ pins _ _ e s' I2 hq'
  | ok fl =>
    cases fl with
    | ret u =>
      obtain ⟨v, H', I3, rv, ev, q3⟩ := I2.after hq'
      subst ev
      exact ⟨rv, ⟨V.ref (s1.heap.objs.size + 1), H', I3, rfl, q3⟩⟩
    | next => exact False.elim hq'
    | brk => exact False.elim hq'
    | cont => exact False.elim hq'
theorem re_mkW {C : Addr} {n : Nat} {Fn : List D → Gh → M D} {t : TA} {a : FA} (ha : RA c E t a) : RE c E (tMakeS C (spMk c.K c.mg C n Fn) E t) (cFnX n Fn a) := by
  refine RG.bind (r := fun σ vs H1 (Q : VK) => ∀ x dx, H1 x = none → H1 dx = none → dx ≠ x →
    spMk c.K c.mg C n Fn (.ref x :: vs) (upd (upd H1 dx (.own x)) x (.ins C dx [])) (fun v H2 => v = .non ∧ Q (.ref x) H2) (E σ)) (k := fun ρ xs g1 => if xs.length = n then Fn xs g1 else none) ha fun F ρ g σ H S Q vs ds e R hx G => ?_
  intro x dx nx ndx ne
  by_cases hl : ds.length = n
  case neg => rw [if_neg hl] at G; exact G.elim
  rw [if_pos hl] at G
  subst e
  have R0 := R.sub_frame
  have sx : S x = none := R.sub.free nx
  have sdx : S dx = none := R.sub.free ndx
  have nxa := R.new_ah nx
  have ndxa := R.new_ah ndx
  -- the heap with the new thing
  have R1 : Rep ⟨F.c, H, S⟩ [] g [] (upd (upd H dx (.own x)) x (.ins C dx [])) S := by
    refine (R0.write1 sdx ndx ndxa).write1 sx ?_ nxa
    exact nx
  refine ⟨F.c.ah, S, g, x, dx, vs, ds, rfl, hl, upd_same, sx, ?_, hx, nxa, ?_⟩
  · exact R1.sub_frame
  · have back : ∀ {g' H' S'}, Same S S' → Rep ⟨F.c, (fun b => if b = x then none else upd (upd H dx (.own x)) x (.ins C dx []) b), S⟩ [] g' [] H' S' → Rep ⟨F.c, H, S⟩ [] g' [] H' S' := fun {g' H' S'} sm B => by
      refine ⟨B.sub, B.hand, fun b o h1 h2 => B.keep b o ?_ h2, fun b h1 h2 => B.stay b ?_ h2, fun i e h => by simp at h, fun i j p xs ys h => by simp at h⟩
      · have n1 : b ≠ x := ne_of_none h1 nx
        have n2 : b ≠ dx := ne_of_none h1 ndx
        show (if b = x then none else upd (upd H dx (.own x)) x (.ins C dx []) b) = some o
        rw [if_neg n1, upd_ne n1, upd_ne n2]; exact h1
      · have n1 : b ≠ x := fun z => h1 (by rw [z]; exact nx)
        have n2 : b ≠ dx := fun z => h1 (by rw [z]; exact ndx)
        show (if b = x then none else upd (upd H dx (.own x)) x (.ins C dx []) b) ≠ none
        rw [if_neg n1, upd_ne n1, upd_ne n2]; exact h1
    cases h : Fn ds g with
    | none => rw [h] at G; exact G
    | some o => cases o with
      | ex cc ks es g1 => rw [h] at G; exact fun A dd H' S' m sm B z => G A dd H' S' m sm (R.bare.back sm (back sm B)) z
      | ok d g1 =>
        rw [h] at G
        intro H' S' fs sm hx' hs' B ⟨cn, ks, es, ed, hm, hk, hv⟩
        subst ed
        have B' := back sm B
        refine ⟨rfl, ?_⟩
        -- from now on the thing stands
        have B2 : Rep ⟨F.c, H, S⟩ [] g1 [] H' (upd S' x (.ins C dx fs)) := by
          have sm' : Same S' (upd S' x (.ins C dx fs)) := Same.upd_new hs'
          refine ⟨fun b o e => ?_, ?_, B'.keep, fun b e h => ?_, fun i e h => by simp at h, fun i j p xs ys h => by simp at h⟩
          · by_cases hb : b = x
            · subst hb; rw [upd_same] at e; cases e; exact hx'
            · rw [upd_ne hb] at e; exact B'.sub _ _ e
          · have h := B'.hand
            unfold HandAt at h ⊢
            cases ea : F.c.ah with
            | none => trivial
            | some a =>
              simp only [ea] at h
              obtain ⟨k1, q, k2, k3⟩ := h
              have ne : a ≠ x := fun z => nxa (by rw [ea, z])
              exact ⟨by rw [upd_ne ne]; exact k1, q, k2, sm' _ _ k3⟩
          · have n1 : b ≠ x := fun z => e (by rw [z]; exact nx)
            rw [upd_ne n1]; exact B'.stay b e h
        refine G (.ref x) H' _ (sm.trans (Same.upd_new hs')) (R.back (sm.trans (Same.upd_new hs')) B2) ?_
        exact .obj hm upd_same hk (hv.mono (Same.upd_new hs'))
theorem pf_mkX {W : WX} {x : Str} {k n : Nat} {Fn : List D → Gh → M D} {e : Expr} {es : List Expr} {a : FA} {p pos : Pos} (tk : Takes X W) (G : MkOk X.prog X.w X.K X.mg X.base x k n Fn) (hr : Room (k + 1) X.A) (ha : PFA X ah (WE W) (e :: es) a) (hg : Gl X x := by rfl) (hdb : (x == ("__debug__" : Str)) = false := by decide)
    (he : starEach (e :: es) X.env = (false, eval e X.env) :: starEach es X.env := by rfl) (hpl : (backTo pos (starEach es X.env)).any (·.1) = false := by rfl) : PF X ah (WE W) (.Call (.Name x p) (e :: es) [] pos) (cFnX n Fn a) := by
  obtain ⟨C, f, fd, ps, F, hm, M, hb⟩ := G
  obtain ⟨t, q, s⟩ := ha
  exact ⟨_, pe_makeS M F hr hg hm hb (fun σ => passAt tk σ) q hdb he hpl, re_mkW (c := dc X ah) s⟩

/-- the suite: return (c, n.f) -/
theorem choose_ws {W : WX} {body : List Stmt} {fb : FS} (h : ∀ (pn : List (Addr × Obj)) (xe : Value → Shared → Prop), Takes (X.tr pn xe) W → PassesOwn (model X.prog X.w) X.A X.env xe → PFws (X.tr pn xe) ah (WE W) body fb) :
    ∃ tb : TS, (∀ pn xe, Takes (X.tr pn xe) W → PassesOwn (model X.prog X.w) X.A X.env xe → PSs (X.tr pn xe) body tb) ∧ RSw (dc X ah) (WE W) tb fb := by
  refine ⟨fun Z σ H => ∀ pn xe (h1 : Takes (X.tr pn xe) W) (h2 : PassesOwn (model X.prog X.w) X.A X.env xe), (h pn xe h1 h2).choose Z σ H, fun pn xe h1 h2 => ⟨fun pins s σ H Z I hw => (h pn xe h1 h2).choose_spec.1.run pins s σ H Z I (hw pn xe h1 h2)⟩, ⟨fun F ρ g σ H S Z e R G pn xe h1 h2 => ?_⟩⟩
  exact (h pn xe h1 h2).choose_spec.2.run F ρ g σ H S Z e R G
@[simp] def sTry1 (fb : FS) (x f : Str) (i : Nat) (e0 : D) : FS := fun ρ g => match fb ρ g with
  | some (.ex c ks ds g1) => if c = x ∧ (ρ[i]?).isSome = true then match (ks.zip ds).lookup f with
    | some d => some (.ok (.rt (.tup [e0, d])) g1)
    | none => none
    else none
  | m => m
theorem pfs_try1 {E : XK} (i : Nat) {x n f : Str} {body : List Stmt} {fb : FS} {s0 : Str} {j0 : _} {np pn1 pa pt pr p0 pos pos' : Pos} {kk : Nat} (hN : X.N.Nodup) (G : ExcOk X.prog X.w X.K X.mg X.base x f)
    (hbody : ∀ (W : WX) (pn : List (Addr × Obj)) (xe : Value → Shared → Prop), Takes (X.tr pn xe) W → PassesOwn (model X.prog X.w) X.A X.env xe → PFws (X.tr pn xe) ah (WE W) body fb)
    (hs : X.stack = X.env :: X.outer := by rfl) (hf : X.env.frame = some X.env.locals := by rfl) (hi : X.N[i]? = some n := by rfl) (hln : X.env.kindOf n = some .local := by rfl) (hg : Gl X x := by rfl) (hdb : (x == ("__debug__" : Str)) = false := by decide)
    (hd : (n == ("__debug__" : Str)) = false := by decide) (hcd : (n == ("__classdict__" : Str)) = false := by decide) (hv : Vis X.env.scope n := by first | exact Or.inl rfl | exact Or.inr (Or.inl rfl) | exact Or.inr (Or.inr rfl))
    (hat : attributeBase (.Name n pn1) f X.env (eval (.Name n pn1) X.env) = eval (.Name n pn1) X.env := by rfl)
    (he1 : starEach [.Constant (.str s0) j0 p0, .Attribute (.Name n pn1) f pa] X.env = (false, eval (.Constant (.str s0) j0 p0) X.env) :: starEach [.Attribute (.Name n pn1) f pa] X.env := by rfl)
    (he2 : starEach [.Attribute (.Name n pn1) f pa] X.env = (false, eval (.Attribute (.Name n pn1) f pa) X.env) :: starEach [] X.env := by rfl) :
    PFS X ah E (.Try body [.ExceptHandler (some (.Name x np)) (some n) [.Return (some (.Tuple [.Constant (.str s0) j0 p0, .Attribute (.Name n pn1) f pa] kk pt)) pr] pos'] [] [] pos) (sTry1 fb x f i (.str s0)) := by
  obtain ⟨C, fI, fd, ps, hm, T, xf, hno, iC, tI, FI, hb, te⟩ := G
  have ch := fun W => choose_ws (X := X) (ah := ah) (W := W) (hbody W)
  refine ⟨_, ps_try_as (i := i) (c := .ref C) (tb := fun W => (ch W).choose) (ts := fun a cls d => tRet (tTup (tCons (tC (.str s0)) (tCons (tXf a cls d C f (tVar i)) tNil)))) (Wout := fun _ _ _ _ => False) hs hf hN hi hln ⟨hg, hdb, .inl hm⟩ takes0 (fun W pn xe tk hp => (ch W).choose_spec.1 pn xe tk hp)
    (fun a oe cls d pn hz hof => pss_one (ps_ret (pe_tup (pa_cons pe_str (pa_cons (pe_xf xf hno hz hof (pe_var hi hv hd hcd) hat) pa_nil he2) he1)))), ⟨fun F ρ g σ H S Z e R G => ?_⟩⟩
  refine (ch _).choose_spec.2.run F ρ g σ H S Z e R ?_
  simp only [sTry1] at G
  cases h : fb ρ g with
  | none => rw [h] at G; exact G
  | some o => cases o with
    | ok fl g1 => rw [h] at G; cases fl <;> exact G
    | ex cc ks ds g1 =>
      rw [h] at G
      dsimp only at G
      by_cases hc : cc = x ∧ (ρ[i]?).isSome = true
      case neg => rw [if_neg hc] at G; exact G.elim
      rw [if_pos hc] at G
      obtain ⟨rfl, hsome⟩ := hc
      cases q : (ks.zip ds).lookup f with
      | none => rw [q] at G; exact G.elim
      | some d =>
        rw [q] at G
        intro A dd H' S' hA sm R' hx
        have hA' : A = C := by
          rw [e] at hA
          have : some (Value.ref A) = some (Value.ref C) := hA.symm.trans hm
          injection this with this
          injection this
        subst hA'
        refine ⟨true, te, fun _ a na => ?_, fun z => by cases z⟩
        obtain ⟨fs, h1, h2, h3⟩ := hx
        have hne : fs ≠ [] := fun z => by
          subst z
          cases h3
          subst h2
          simp at q
        cases dd with
        | none => exact absurd h1 hne
        | some dx =>
          obtain ⟨v, k1, k2⟩ := lookup_Dn h2 h3 q
          have hi' : i < σ.length := by
            obtain ⟨en, hen⟩ := Option.isSome_iff_exists.mp hsome
            obtain ⟨so, k, _⟩ := R.slots i en hen
            exact (List.getElem?_eq_some_iff.mp k).1
          refine ⟨.ref a, by rw [List.getElem?_set_self hi'], rfl, rfl, dx, fs, v, rfl, R'.sub _ _ h1, k1, ?_⟩
          refine ⟨line_of (by simp), fun p hp => ?_⟩
          refine G (.ref p) _ (upd S' p (.tup [.str s0, v])) (sm.trans (R'.tosame _ hp)) (R'.up _ hp) ?_
          exact .tup (SqT.of upd_same) (.cons (.str s0) (.cons (k2.mono (R'.tosame _ hp)) .nil))
end
end FD
set_option Elab.async false
set_option linter.all false
set_option maxRecDepth 100000
set_option maxHeartbeats 4000000
namespace FD
open PySem L2 PyProof.Rows
section
variable {X : Cx} {ah : Option Addr} {E : L2.St → XK} {c : DC}
/-! ### is True, is False -/
theorem is_bool_gen {M : Model} {A : Around} {E : Value → Shared → Prop} {s : Shared} {Q : Value → Shared → Prop} {v : Value} {b : Bool} (hn : ∀ x, v ≠ .builtin x) (h : Q (.bool (v == .bool b)) s) : wpAny M A (compareOp .Is v (.bool b)) Q E s := by
  refine wpAny_is_plain ?_ h
  cases v <;> first | rfl | exact absurd rfl (hn _)
theorem isnot_bool_gen {M : Model} {A : Around} {E : Value → Shared → Prop} {s : Shared} {Q : Value → Shared → Prop} {v : Value} {b : Bool} (hn : ∀ x, v ≠ .builtin x) (h : Q (.bool (!(v == .bool b))) s) : wpAny M A (compareOp .IsNot v (.bool b)) Q E s := by
  refine wpAny_isNot_plain ?_ h
  cases v <;> first | rfl | exact absurd rfl (hn _)
theorem RelV.bool_iff {x : V} {v : Value} (r : RelV x v) (b : Bool) : (v == Value.bool b) = decide (x = .bl b) ∧ ∀ y, v ≠ .builtin y := by
  cases x with
  | non => cases r; exact ⟨rfl, fun y z => by cases z⟩
  | bl a => cases r; exact ⟨by cases a <;> cases b <;> rfl, fun y z => by cases z⟩
  | int _ => obtain ⟨t, rfl⟩ := r; exact ⟨rfl, fun y z => by cases z⟩
  | str _ => obtain ⟨t, rfl⟩ := r; exact ⟨rfl, fun y z => by cases z⟩
  | byt _ => obtain ⟨t, rfl⟩ := r; exact ⟨rfl, fun y z => by cases z⟩
  | flt _ => obtain ⟨t, rfl⟩ := r; exact ⟨rfl, fun y z => by cases z⟩
  | ref _ => cases r; exact ⟨rfl, fun y z => by cases z⟩
  | ty _ => cases r; exact ⟨rfl, fun y z => by cases z⟩
abbrev rIsBl : R2 := fun x y H Q => ∃ b, y = .bl b ∧ Q (.bl (decide (x = .bl b))) H
abbrev rNotBl : R2 := fun x y H Q => ∃ b, y = .bl b ∧ Q (.bl (!decide (x = .bl b))) H
theorem op_isBlA : OpR X (compareOp .Is) rIsBl := by
  intro pins s σ H x y v u Q I rx ry h
  obtain ⟨b, rfl, q⟩ := h
  cases ry
  obtain ⟨h1, h2⟩ := RelV.bool_iff rx b
  exact is_bool_gen h2 ⟨.bl _, H, I, by rw [h1]; rfl, q⟩
theorem op_notBlA : OpR X (compareOp .IsNot) rNotBl := by
  intro pins s σ H x y v u Q I rx ry h
  obtain ⟨b, rfl, q⟩ := h
  cases ry
  obtain ⟨h1, h2⟩ := RelV.bool_iff rx b
  exact isnot_bool_gen h2 ⟨.bl _, H, I, by rw [h1]; rfl, q⟩
def isBlB (b : Bool) : D → Bool
  | .bl k => k == b
  | _ => false
def isBlD : D → D → Option D
  | d, .bl b => some (.bl (isBlB b d))
  | _, _ => none
theorem Dn.bl_iff {S : Hp} {v : V} {d : D} (h : Dn c S v d) (b : Bool) : decide (v = .bl b) = isBlB b d := by
  cases h <;> simp [isBlB]
  rename_i k
  cases k <;> cases b <;> rfl
theorem os_isBl : OpS c rIsBl isBlD := by
  intro E F ρ g σ H S Q x y dx dy e R hx hy G
  cases hy <;> simp only [isBlD, lift] at G <;> first | exact G.elim | skip
  exact ⟨_, rfl, by rw [hx.bl_iff]; exact G.ret R (.bl _)⟩

/-! ### constants of the module -/
def ConstOk (K : PySem.W.Frag) (mg : Str → Option Value) (x : Str) (d : D) : Prop := ∃ v u, mg x = some u ∧ RelV v u ∧ ∀ ah S, Dn ⟨K, mg, ah⟩ S v d
theorem pf_const {x : Str} {d : D} {pos : Pos} (h : ConstOk X.K X.mg x d) (hg : Gl X x := by rfl) (hd : (x == ("__debug__" : Str)) = false := by decide) : PF X ah E (.Name x pos) (cD d) := by
  obtain ⟨v, u, h1, h2, h3⟩ := h
  exact ⟨_, pe_glob hg h1 h2 hd, re_c fun S => h3 ah S⟩
def strsV (zs : List Str) : List V := zs.map .str
def strsD (zs : List Str) : List D := zs.map .str
theorem Dns.strs {c : DC} {S : Hp} : ∀ zs : List Str, Dns c S (strsV zs) (strsD zs)
  | [] => .nil
  | z :: zs => .cons (.str z) (Dns.strs zs)

/-! ### == of things of the class Play, by its own __eq__ -/
/-- type(a) is type(b) -/
def tyEqD : D → D → Option D
  | .obj c _ _, .obj c' _ _ => if c = "Play" ∧ c' = "Play" then some (.bl true) else none
  | .obj c _ _, .tup _ => if c = "Play" then some (.bl false) else none
  | _, _ => none
/-- what type(x) gives -/
def rType (K : PySem.W.Frag) : List V → Hp → VK → Prop := fun xs H Q => (∃ a C dx fs, xs = [V.ref a] ∧ H a = some (.ins C dx fs) ∧ Q (.ref C) H) ∨ (∃ a vs, xs = [V.ref a] ∧ SqT K H a vs ∧ Q (.ty "tuple") H)
theorem call_typeD : CallR X (.type "type") (rType X.K) := by
  intro pins s σ H xs us Q I r h
  rcases h with h | ⟨a, vs, rfl, ht, q⟩
  · exact cr_type pins s σ H xs us Q I r h
  · obtain ⟨u, rfl, rx⟩ := vals1 r
    cases rx
    obtain ⟨its, rv, p, _⟩ := I.tuple ht
    exact call_type_of p.typeIs (by decide +kernel) ⟨.ty "tuple", H, I, rfl, q⟩
abbrev rIsTy (K : PySem.W.Frag) : R2 := fun x y H Q => (∃ a b, x = V.ref a ∧ y = V.ref b ∧ (a = b ∨ (PySem.W.makesIn K a = true ∧ PySem.W.makesIn K b = true)) ∧ Q (.bl (decide (a = b))) H) ∨ (∃ a n, x = V.ref a ∧ y = .ty n ∧ Q (.bl false) H)
theorem op_isTyD : OpR X (compareOp .Is) (rIsTy X.K) := by
  intro pins s σ H x y v u Q I rx ry h
  rcases h with h | ⟨a, n, rfl, rfl, q⟩
  · exact op_is_cls pins s σ H x y v u Q I rx ry h
  · cases rx; cases ry
    exact wpAny_is_plain rfl ⟨.bl false, H, I, rfl, q⟩
def isPlay : D → Bool
  | .obj c _ _ => c == "Play"
  | _ => false
@[simp] def cTyEq (a b : FE) : FE := fun ρ g => (a ρ g).bd fun x g1 => if isPlay x = true then (b ρ g1).bd fun y g2 => lift (tyEqD x y) g2 else none
theorem pf_tyEq {e1 e2 : Expr} {a b : FE} {p1 p2 q1 q2 pos : Pos} (hm : X.mg "type" = none) (ha : PF X ah E e1 a) (hb : PF X ah E e2 b) (hg : Gl X "type" := by rfl)
    (h1 : starEach [e1] X.env = (false, eval e1 X.env) :: starEach [] X.env := by rfl) (h2 : starEach [e2] X.env = (false, eval e2 X.env) :: starEach [] X.env := by rfl)
    (k1 : (backTo q1 (starEach [] X.env)).any (·.1) = false := by rfl) (k2 : (backTo q2 (starEach [] X.env)).any (·.1) = false := by rfl) :
    PF X ah E (.Compare (.Call (.Name "type" p1) [e1] [] q1) [.Is] [.Call (.Name "type" p2) [e2] [] q2] pos) (cTyEq a b) := by
  obtain ⟨t, p, r1⟩ := ha
  obtain ⟨u, q, r2⟩ := hb
  refine ⟨_, pe_cmpR op_isTyD (pe_callTy call_typeD hg hm (by decide +kernel) (pa_cons p pa_nil h1) (by decide) (by decide) h1 k1) (pe_callTy call_typeD hg hm (by decide +kernel) (pa_cons q pa_nil h2) (by decide) (by decide) h2 k2) (nomark _), ?_⟩
  refine RG.bind (r := fun σ x H1 (Q : VK) => rType X.K [x] H1 fun tx H2 => u σ H2 fun y H3 => rType X.K [y] H3 fun ty H4 => rIsTy X.K tx ty H4 Q) (k := fun ρ x g1 => if isPlay x = true then (b ρ g1).bd fun y g2 => lift (tyEqD x y) g2 else none) r1 fun F ρ g σ H S Q x d e R hx G => ?_
  by_cases hp : isPlay d = true
  case neg => rw [if_neg hp] at G; exact G.elim
  rw [if_pos hp] at G
  cases hx with
  | obj m h k hs =>
    rename_i cn fs ks ds
    have hc : cn = "Play" := by simpa [isPlay] using hp
    subst hc
    refine .inl ⟨_, _, _, _, rfl, R.sub _ _ h, ?_⟩
    refine r2.step e R G fun H1 S1 g1 y dy sm R1 hy G => ?_
    cases hy with
    | obj m' h' k' hs' =>
      rename_i cn' fs' ks' ds'
      dsimp only [tyEqD] at G
      by_cases hc' : cn' = "Play"
      · subst hc'
        rw [if_pos ⟨rfl, rfl⟩] at G
        have : some (Value.ref _) = some (Value.ref _) := m.symm.trans m'
        injection this with this
        injection this with this
        subst this
        exact .inl ⟨_, _, _, _, rfl, R1.sub _ _ h', .inl ⟨_, _, rfl, rfl, .inl rfl, by rw [decide_eq_true rfl]; exact G.ret R1 (.bl true)⟩⟩
      · rw [if_neg (fun z => hc' z.2)] at G; exact G.elim
    | tup h' hs' =>
      dsimp only [tyEqD] at G
      rw [if_pos rfl] at G
      exact .inr ⟨_, _, rfl, Same.tup R1.sub h', .inr ⟨_, _, rfl, rfl, G.ret R1 (.bl false)⟩⟩
    | _ => simp only [tyEqD, lift] at G; exact G.elim
  | _ => simp [isPlay] at hp
/-- a == b, a of the class Play -/
def EqOk (P : Program) (w : World) (K : PySem.W.Frag) (mg : Str → Option Value) (base : Heap) (k : Nat) (Fn : List D → Gh → M D) : Prop :=
  ∃ C f fd ps, mg "Play" = some (.ref C) ∧ FnOk P w K mg base CX0 k f fd ps (spF K mg 2 Fn) ∧ Binds K fd ps [] ∧ PySem.W.findIn K (.ref C) "__eq__" = some (some (.ref f)) ∧ PySem.W.isFn K (.ref f) = true ∧ PySem.W.subIn K (.type "tuple") (.ref C) = some false
def rEqP (K : PySem.W.Frag) (mg : Str → Option Value) (Fn : List D → Gh → M D) : R2 := fun x y H Q => ∃ a C dx fs b, x = .ref a ∧ mg "Play" = some (.ref C) ∧ H a = some (.ins C dx fs) ∧ y = .ref b ∧ ((∃ dy gs, H b = some (.ins C dy gs)) ∨ ∃ vs, SqT K H b vs) ∧
  spF K mg 2 Fn [x, y] H (fun v H' => ∃ k, v = .bl k ∧ Q (.bl k) H') E0
theorem op_eqP {k : Nat} {Fn : List D → Gh → M D} (hr : Room k X.A) (G : EqOk X.prog X.w X.K X.mg X.base k Fn) : OpR X (compareOp .Eq) (rEqP X.K X.mg Fn) := by
  intro pins s σ H x y v u Q I rx ry h
  obtain ⟨C, f, fd, ps, hmP, F, hb, hs, hf, hsub⟩ := G
  obtain ⟨a, C', dx, fs, b, rfl, hm', ha, rfl, hy, hsp⟩ := h
  have : C' = C := by
    have : some (Value.ref C') = some (Value.ref C) := hm'.symm.trans hmP
    injection this with this
    injection this
  subst this
  cases rx
  cases ry
  show wpAny (model X.prog X.w) X.A (richCompare .Eq (.ref a) (.ref b)) (EP X pins σ Q) X.xe s
  obtain ⟨mA, J, _⟩ := ins_get I.hok ha
  obtain ⟨od, J, _⟩ := J.look
  obtain ⟨m, hF⟩ := I.fr
  have main : ∀ tb, PySem.W.Looks (model X.prog X.w) s.heap (typeOf (.ref b)) tb → PySem.W.notFirst X.K C' tb = true → wpAny (model X.prog X.w) X.A (richCompare .Eq (.ref a) (.ref b)) (EP X pins σ Q) X.xe s := fun tb htb hn => by
    refine PySem.W.cmp_K (op := .Eq) (tb := tb) hr.units0 hF I.ok.mod.kin J htb hn hs hf ?_
    have hl := F.len _ _ _ _ hsp
    have r2 : Vals [V.ref a, V.ref b] [Value.ref a, Value.ref b] := .cons rfl (.cons rfl .nil)
    refine wpAny_call (codeAny_mono (F.run X.A X.stack s H ⟨[.ref a, .ref b], []⟩ [.ref a, .ref b] [.ref a, .ref b] _ E0 hr I.env0 (by
      have := hb s [.ref a, .ref b] I.kIn (by simpa using hl)
      simpa using this) r2 hsp) fun r s' hq => ?_)
    cases r with
    | error e => exact False.elim hq
    | ok fl =>
      cases fl with
      | ret w =>
        obtain ⟨z, H', I', rz, k, ez, q⟩ := I.after hq
        subst ez
        cases rz
        exact ⟨.bl k, H', I', rfl, q⟩
      | next => exact False.elim hq
      | brk => exact False.elim hq
      | cont => exact False.elim hq
  rcases hy with ⟨dy, gs, hb'⟩ | ⟨vs, ht⟩
  · obtain ⟨mB, J', _⟩ := ins_get I.hok hb'
    obtain ⟨od', J', _⟩ := J'.look
    exact main (.ref C') J'.type (by simp [PySem.W.notFirst])
  · obtain ⟨its, rv, p, _⟩ := I.tuple ht
    obtain ⟨o, ho, hc, _⟩ := p
    exact main (.type "tuple") (fun A Q E s' kk q => wpAny_typeOf ⟨o, kk _ _ ho, hc⟩ q) (by simp [PySem.W.notFirst, hsub])
@[simp] def cEqP (Fn : List D → Gh → M D) (a b : FE) : FE := fun ρ g => (a ρ g).bd fun x g1 => (b ρ g1).bd fun y g2 => if isPlay x = true ∧ (isPlay y || isTyB "tuple" y) = true then match noX (Fn [x, y] g2) with
  | some (.ok (.bl k) g3) => some (.ok (.bl k) g3)
  | _ => none
  else none
theorem re_eqP {Fn : List D → Gh → M D} {ta tb : TE} {a b : FE} (ha : RE c E ta a) (hb : RE c E tb b) : RE c E (tOp (rEqP c.K c.mg Fn) ta tb) (cEqP Fn a b) := by
  refine RG.bind (r := fun σ x H1 (Q : VK) => tb σ H1 fun y H2 => rEqP c.K c.mg Fn x y H2 Q) (k := fun ρ x g1 => (b ρ g1).bd fun y g2 => if isPlay x = true ∧ (isPlay y || isTyB "tuple" y) = true then match FD.noX (Fn [x, y] g2) with
  | some (.ok (.bl k) g3) => some (.ok (D.bl k) g3)
  | _ => none
  else none) ha fun F ρ g σ H S Q x dx e R hx G => ?_
  refine hb.step e R G fun H1 S1 g1 y dy sm R1 hy G2 => ?_
  clear G
  have hx := hx.mono sm
  by_cases hp : isPlay dx = true ∧ (isPlay dy || isTyB "tuple" dy) = true
  case neg => rw [if_neg hp] at G2; exact G2.elim
  rw [if_pos hp] at G2
  obtain ⟨hp, hpy⟩ := hp
  cases h : Fn [dx, dy] g1 with
  | none => rw [h] at G2; exact G2.elim
  | some o => cases o with
    | ex _ _ _ _ => rw [h] at G2; exact G2.elim
    | ok d g3 =>
      rw [h] at G2
      simp only [FD.noX] at G2
      cases d <;> try exact G2.elim
      rename_i k
      cases hx with
      | obj m hh kk hs =>
        rename_i cn fs ks ds
        have hc : cn = "Play" := by simpa [isPlay] using hp
        subst hc
        have hxx : Dn c S1 (.ref _) (.obj "Play" ks ds) := .obj m hh kk hs
        subst e
        rename_i a0 C0 dx0
        have fin : ∀ b, y = .ref b → ((∃ dy gs, H1 b = some (.ins C0 dy gs)) ∨ ∃ vs, SqT F.c.K H1 b vs) → rEqP F.c.K F.c.mg Fn (.ref a0) y H1 Q := fun b hyb hkind => by
          refine ⟨_, _, _, _, b, rfl, m, R1.sub _ _ hh, hyb, hkind, F.c.ah, S1, g1, [.obj "Play" ks ds, dy], rfl, R1.sub_frame, .cons hxx (.cons hy .nil), ?_⟩
          refine Got.frame (ρ := ρ) (σ := σ) R1 ?_
          rw [h]
          exact fun v H' S' sm R' hv => ⟨k, hv.blE, G2 (.bl k) H' S' sm R' (.bl k)⟩
        cases hy with
        | obj m' h' k' hs' => 
          rename_i cn' fs' ks' ds'
          have hc' : cn' = "Play" := by simpa [isPlay, isTyB] using hpy
          subst hc'
          have e2 := m.symm.trans m'
          injection e2 with e2
          injection e2 with e2
          subst e2
          exact fin _ rfl (.inl ⟨_, _, R1.sub _ _ h'⟩)
        | tup h' hs' => exact fin _ rfl (.inr ⟨_, Same.tup R1.sub h'⟩)
        | _ => simp [isPlay, isTyB] at hpy
      | _ => simp [isPlay] at hp
theorem pf_eqP {k : Nat} {Fn : List D → Gh → M D} {e1 e2 : Expr} {a b : FE} {pos} (hr : Room k X.A) (G : EqOk X.prog X.w X.K X.mg X.base k Fn) (ha : PF X ah E e1 a) (hb : PF X ah E e2 b) : PF X ah E (.Compare e1 [.Eq] [e2] pos) (cEqP Fn a b) := by
  obtain ⟨t, p, r1⟩ := ha
  obtain ⟨u, q, r2⟩ := hb
  exact ⟨_, pe_cmpR (op_eqP hr G) p q (nomark _), re_eqP (c := dc X ah) r1 r2⟩
end
end FD
set_option Elab.async false
set_option linter.all false
set_option maxRecDepth 100000
set_option maxHeartbeats 4000000
namespace FD
open PySem L2 PyProof.Rows
theorem hu64 {k : Nat} {A : Around} (hr : Room k A) : A.units + 64 < cLine := by have := hr.un; omega
section
variable {X : Cx} {ah : Option Addr} {E : L2.St → XK} {c : DC}
theorem pft_eqP {k : Nat} {Fn : List D → Gh → M D} {e1 e2 : Expr} {a b : FE} {pos} (hr : Room k X.A) (G : EqOk X.prog X.w X.K X.mg X.base k Fn) (ha : PF X ah E e1 a) (hb : PF X ah E e2 b) : PFT X ah E (.Compare e1 [.Eq] [e2] pos) (cT (cEqP Fn a b)) := by
  obtain ⟨t, p, r1⟩ := ha
  obtain ⟨u, q, r2⟩ := hb
  exact ⟨_, pt_cmpR (op_eqP hr G) p q (nomark _), rt_of (re_eqP (c := dc X ah) r1 r2)⟩
end
/-- a def of the text, where it stands -/
def DefAt (K : PySem.W.Frag) (mg : Str → Option Value) (x : Str) (st : Stmt) (ps : List Str) : Prop := ∃ f fd, Fun K x x st f fd ∧ mg x = some (.ref f) ∧ Binds K fd ps []
theorem DefAt.ok {P : Program} {w : World} {K : PySem.W.Frag} {mg : Str → Option Value} {base : Heap} {x : Str} {st : Stmt} {N ps : List Str} {k n : Nat} {b : FS} (A : DefAt K mg x st ps) (Sc : FnScope N ps (defScope st)) (hn : ps.length = n) (hN : n ≤ N.length)
    (hb : ∀ (f : Addr) (cdv : Value) (A : Around) (outer : List Env) (s : Shared) (H : Hp) (E : XK) (ah : Option Addr), Room k (A.deeper (envOfC x (defScope st) s.heap.objs.size f cdv)) → PFSs ((cxOf CX0 P w K mg base N x (defScope st) f cdv A outer s H E).nox) ah E0 (defBody st) b) :
    DefOk P w K mg base CX0 x (k + 1) n fun ds g => noX (fnOf N.length b ds g) := by
  obtain ⟨f, fd, F, m, bn⟩ := A
  exact ⟨f, fd, ps, fd_ok F Sc hn hN (fun cdv A outer s H E ah hr => hb f cdv A outer s H E ah hr), m, F.kp, bn⟩
theorem DefAt.okX {P : Program} {w : World} {K : PySem.W.Frag} {mg : Str → Option Value} {base : Heap} {x : Str} {st : Stmt} {N ps : List Str} {k n : Nat} {b : FS} (A : DefAt K mg x st ps) (Sc : FnScope N ps (defScope st)) (hn : ps.length = n) (hN : n ≤ N.length)
    (hb : ∀ (f : Addr) (cdv : Value) (A : Around) (outer : List Env) (s : Shared) (H : Hp) (E : XK) (ah : Option Addr), Room k (A.deeper (envOfC x (defScope st) s.heap.objs.size f cdv)) → PFSs (cxOf (L2.CX P w) P w K mg base N x (defScope st) f cdv A outer s H E) ah E (defBody st) b) :
    DefOk P w K mg base (L2.CX P w) x (k + 1) n fun ds g => fnOf N.length b ds g := by
  obtain ⟨f, fd, F, m, bn⟩ := A
  exact ⟨f, fd, ps, fd_okX F Sc hn hN (fun cdv A outer s H E ah hr => hb f cdv A outer s H E ah hr), m, F.kp, bn⟩

/-! ### an __init__ that refuses twice and keeps two things -/
def exOf (m : M Fl) : M D := match m with
  | some (.ex c ks ds g) => some (.ex c ks ds g)
  | _ => none
def mkF2 (cn x1 x2 : Str) (q1 : FT) (r1 : FS) (q2 : FT) (r2 : FS) (N : Nat) (ds : List D) (g : Gh) : M D :=
  let ρ := En.un :: ds.map .dt ++ List.replicate (N - 3) .un
  (q1 ρ g).bd fun k g1 => if k = true then exOf (r1 ρ g1) else (q2 ρ g1).bd fun k2 g2 => if k2 = true then exOf (r2 ρ g2) else some (.ok (.obj cn [x1, x2] ds) g2)
theorem GotS.exOf {F F' : Fx} {S : Hp} {E : XK} {Z : Ends} {m : M Fl} {R : D → Gh → Prop} (w : ∀ {cc ks es g'}, GotX F' S E cc ks es g' → GotX F S E cc ks es g') (G : match FD.exOf m with
    | none => False
    | some (.ok d g) => R d g
    | some (.ex c ks ds g) => GotX F' S E c ks ds g) : GotS F S E Z m := by
  cases m with
  | none => exact G
  | some o => cases o with
    | ok fl g => exact G.elim
    | ex _ _ _ _ => exact w G
theorem mk_ok2 {P : Program} {w : World} {K : PySem.W.Frag} {mg : Str → Option Value} {base : Heap} {qual cn x1 x2 : Str} {st : Stmt} {f C : Addr} {fd : FuncData} {N : List Str} {k : Nat} {t1 t2 : Expr} {b1 b2 : Stmt} {i1 i2 a1 a2 a3 a4 a5 a6 a7 a8 : Pos} {q1 q2 : FT} {r1 r2 : FS}
    (F : Fun K "__init__" qual st f fd) (Sc : FnScope N [("self" : Str), x1, x2] (defScope st)) (hN : N = ("self" : Str) :: x1 :: x2 :: N.drop 3) (hcl : Cls K C) (hn1 : NoAttr K C x1) (hn2 : NoAttr K C x2) (hx : x1 ≠ x2) (hm : mg cn = some (.ref C))
    (hbody : defBody st = [.If t1 [b1] [] i1, .If t2 [b2] [] i2, .Assign [.Attribute (.Name "self" a1) x1 a2] (.Name x1 a3) a4, .Assign [.Attribute (.Name "self" a5) x2 a6] (.Name x2 a7) a8])
    (hl0 : (defScope st).names.lookup ("self" : Str) = some .local) (hl1 : (defScope st).names.lookup x1 = some .local) (hl2 : (defScope st).names.lookup x2 = some .local)
    (hd1 : (x1 == ("__debug__" : Str)) = false) (hc1 : (x1 == ("__classdict__" : Str)) = false) (hd2 : (x2 == ("__debug__" : Str)) = false) (hc2 : (x2 == ("__classdict__" : Str)) = false)
    (hb : ∀ (cdv : Value) (A : Around) (outer : List Env) (s : Shared) (H : Hp) (E : XK) (ah : Option Addr), Room k (A.deeper (envOfC qual (defScope st) s.heap.objs.size f cdv)) →
      PFT (cxOf (L2.CX P w) P w K mg base N qual (defScope st) f cdv A outer s H E) ah (fun _ => E) t1 q1 ∧ PFS (cxOf (L2.CX P w) P w K mg base N qual (defScope st) f cdv A outer s H E) ah E b1 r1 ∧
      PFT (cxOf (L2.CX P w) P w K mg base N qual (defScope st) f cdv A outer s H E) ah (fun _ => E) t2 q2 ∧ PFS (cxOf (L2.CX P w) P w K mg base N qual (defScope st) f cdv A outer s H E) ah E b2 r2) :
    FnOk P w K mg base (L2.CX P w) (k + 1) f fd [("self" : Str), x1, x2] (spMk K mg C 2 (mkF2 cn x1 x2 q1 r1 q2 r2 N.length)) := by
  refine F.okX Sc (fun vs H Q E h => ?_) (fun cdv A outer s H vs Q E hr h => ?_)
  · obtain ⟨ah, S, g, a, dx, vs', ds, rfl, hl, _, _, _, hv, _⟩ := h
    simp [hv.length, hl]
  · obtain ⟨ah, S, g, a, dx, vs', ds, rfl, hl, ha, hsa, R, hv, hah, G⟩ := h
    obtain ⟨⟨u1, p1, z1⟩, ⟨v1, p2, z2⟩, ⟨u2, p3, z3⟩, ⟨v2, p4, z4⟩⟩ := hb cdv A outer s H E ah hr
    rw [hbody]
    refine ⟨_, pss_cons (ps_if p1 (pss_one p2) pss_nil) (pss_cons (ps_if p3 (pss_one p4) pss_nil)
      (pss_cons (ps_fld (pe_var (i := 0) (by rw [show (cxOf (L2.CX P w) P w K mg base N qual (defScope st) f cdv A outer s H E).N = N from rfl, hN]; rfl) (.inl hl0) (by decide) (by decide)) (pe_var (i := 1) (by rw [show (cxOf (L2.CX P w) P w K mg base N qual (defScope st) f cdv A outer s H E).N = N from rfl, hN]; rfl) (.inl hl1) hd1 hc1) rfl)
      (pss_one (ps_fld (pe_var (i := 0) (by rw [show (cxOf (L2.CX P w) P w K mg base N qual (defScope st) f cdv A outer s H E).N = N from rfl, hN]; rfl) (.inl hl0) (by decide) (by decide)) (pe_var (i := 2) (by rw [show (cxOf (L2.CX P w) P w K mg base N qual (defScope st) f cdv A outer s H E).N = N from rfl, hN]; rfl) (.inl hl2) hd2 hc2) rfl)))), ?_⟩
    have hds : ∃ d1 d2, ds = [d1, d2] := by
      match ds, hl with
      | [d1, d2], _ => exact ⟨d1, d2, rfl⟩
    obtain ⟨d1, d2, rfl⟩ := hds
    obtain ⟨w1, w2, rfl, h1, h2⟩ := hv.two
    let Fr : Fx := ⟨⟨K, mg, ah⟩, H, S⟩
    let Fw : Fx := ⟨⟨K, mg, ah⟩, (fun b => if b = a then none else H b), S⟩
    have weak : ∀ {g' H' S'}, Rep Fr [] g' [] H' S' → Rep Fw [] g' [] H' S' := fun {g' H' S'} B => by
      refine ⟨B.sub, B.hand, fun b o h1 h2 => B.keep b o ?_ h2, fun b h1 h2 => B.stay b ?_ h2, fun i e h => by simp at h, fun i j p xs ys h => by simp at h⟩
      · show H b = some o
        have e : (if b = a then none else H b) = some o := h1
        split at e
        · cases e
        · exact e
      · intro e0
        apply h1
        have e0 : H b = none := e0
        show (if b = a then none else H b) = none
        rw [e0]; split <;> rfl
    have weakX : ∀ {S1 cc ks es g'}, GotX Fw S1 E cc ks es g' → GotX Fr S1 E cc ks es g' := fun {S1 cc ks es g'} hG A dd H' S' m sm B z => hG A dd H' S' m sm (weak B) z
    have hN3 : N.length = 3 + (N.length - 3) := by rw [hN]; simp; omega
    have R0 : Rep Fr (En.un :: [d1, d2].map .dt ++ List.replicate (N.length - 3) .un) g (start N [.ref a, w1, w2]) H S := by
      refine Rep.forget R (fun i en h => ?_) fun i j p xs ys h => ?_
      · match i, h with
        | 0, h => simp at h; subst h; exact ⟨some (.ref a), by simp [L2.start], trivial⟩
        | 1, h => simp at h; subst h; exact ⟨some w1, by simp [L2.start], w1, rfl, h1⟩
        | 2, h => simp at h; subst h; exact ⟨some w2, by simp [L2.start], w2, rfl, h2⟩
        | i + 3, h =>
          simp [List.getElem?_replicate] at h
          obtain ⟨h3, rfl⟩ := h
          refine ⟨none, ?_, trivial⟩
          simp [L2.start, List.getElem?_replicate]
          omega
      · match i, h with
        | 0, h => simp at h
        | 1, h => simp at h
        | 2, h => simp at h
        | i + 3, h => simp [List.getElem?_replicate] at h
    have hs0 : (start N [.ref a, w1, w2])[0]? = some (some (.ref a)) := by simp [L2.start]
    have hs1 : (start N [.ref a, w1, w2])[1]? = some (some w1) := by simp [L2.start]
    have hs2 : (start N [.ref a, w1, w2])[2]? = some (some w2) := by simp [L2.start]
    -- the two tests
    refine z1.run Fr _ g _ H S _ rfl R0 ?_
    unfold mkF2 at G
    dsimp only at G
    generalize hρ : (En.un :: [d1, d2].map .dt ++ List.replicate (N.length - 3) .un) = ρ at G R0 ⊢
    cases e1 : q1 ρ g with
    | none => rw [e1] at G; exact G.elim
    | some o1 => cases o1 with
      | ex _ _ _ _ => rw [e1] at G; exact weakX G
      | ok kk g1 =>
        rw [e1] at G
        simp only [M.bd] at G
        intro kb H1 S1 sm1 R1 hk
        have hk : kb = kk := hk
        subst hk
        cases kb with
        | true =>
          rw [if_pos rfl] at G ⊢
          refine z2.run Fr ρ g1 _ H1 S1 _ rfl R1 (GotS.mono ?_ sm1)
          exact GotS.exOf weakX G
        | false =>
          rw [if_neg (by simp)] at G ⊢
          refine z3.run Fr ρ g1 _ H1 S1 _ rfl R1 ?_
          cases e2 : q2 ρ g1 with
          | none => rw [e2] at G; exact G.elim
          | some o2 => cases o2 with
            | ex _ _ _ _ => rw [e2] at G; exact GotX.mono (weakX G) sm1
            | ok k2 g2 =>
              rw [e2] at G
              simp only at G
              intro kb2 H2 S2 sm2 R2 hk2
              have hk2 : kb2 = k2 := hk2
              subst hk2
              cases kb2 with
              | true =>
                rw [if_pos rfl] at G ⊢
                refine z4.run Fr ρ g2 _ H2 S2 _ rfl R2 (GotS.mono ?_ (sm1.trans sm2))
                exact GotS.exOf weakX G
              | false =>
                rw [if_neg (by simp)] at G ⊢
                have ka : H2 a = some (.ins C dx []) := R2.keep a _ ha hah
                have sa : (S2 a : Option HO) = none := R2.stay a (by show H a ≠ none; rw [ha]; simp) hsa
                have n12 : ¬ x2 = x1 := fun z => hx z.symm
                have pf : putF x2 w2 (putF x1 w1 []) = [(x1, w1), (x2, w2)] := by
                  show (if x1 = x2 then _ else (x1, w1) :: putF x2 w2 []) = _
                  rw [if_neg hx]
                  rfl
                refine ⟨w1, hs1, .ref a, hs0, a, C, dx, [], rfl, ka, hcl, hn1, by decide, ?_⟩
                refine ⟨w2, hs2, .ref a, hs0, a, C, dx, putF x1 w1 [], rfl, upd_same, hcl, hn2, by show 1 < 1000; decide, ?_⟩
                rw [upd_upd, pf]
                have smT := sm1.trans sm2
                have Rw : Rep Fw [] g2 [] (upd H2 a (.ins C dx [(x1, w1), (x2, w2)])) S2 := (weak R2.bare).write1 sa (by show (if a = a then none else H a) = none; rw [if_pos rfl]) hah
                exact G _ S2 [(x1, w1), (x2, w2)] smT upd_same sa Rw ⟨cn, [x1, x2], [d1, d2], rfl, hm, rfl, .cons (h1.mono smT) (.cons (h2.mono smT) .nil)⟩
end FD
set_option Elab.async false
set_option linter.all false
set_option maxRecDepth 100000
set_option maxHeartbeats 4000000
namespace FD
open PySem L2 PyProof.Rows
/-- def _law_hand(script): return [list(script), 0, 0, 1, 0] -/
theorem hand_ok {P : Program} {w : World} {K : PySem.W.Frag} {mg : Str → Option Value} {base : Heap} {x y : Str} {st : Stmt} {f : Addr} {fd : FuncData} {p1 p2 p3 p4 p5 p6 p7 p8 p9 : Pos} {j1 j2 j3 j4} (F : Fun K x x st f fd) (Sc : FnScope [y] [y] (defScope st)) (hl : mg "list" = none)
    (hb : defBody st = [.Return (some (.List [.Call (.Name "list" p1) [.Name y p2] [] p3, .Constant (.int 0) j1 p4, .Constant (.int 0) j2 p5, .Constant (.int 1) j3 p6, .Constant (.int 0) j4 p7] p8)) p9])
    (h1 : (defScope st).names.lookup y = some .local) (h2 : (defScope st).names.lookup ("list" : Str) = some .globalImplicit) (hd : (y == ("__debug__" : Str)) = false) (hcd : (y == ("__classdict__" : Str)) = false) : FnOk P w K mg base CX0 1 f fd [y] (spHand K) := by
  refine F.ok Sc (fun vs H Q E h => ?_) (fun cdv A outer s H vs Q E hr h => ?_)
  · obtain ⟨a, xs, rfl, _⟩ := h
    rfl
  · obtain ⟨a, xs, rfl, hS, k⟩ := h
    rw [hb]
    refine ⟨_, pss_one (ps_ret (pe_lst (pa_cons (pe_callTy call_list_of h2 hl (by decide +kernel) (pa_cons (pe_var (i := 0) rfl (.inl h1) hd hcd) pa_nil)) (pa_cons pe_int (pa_cons pe_int (pa_cons pe_int (pa_cons pe_int pa_nil))))))), ?_⟩
    refine ⟨_, rfl, a, _, rfl, .inl hS, fun q hq => ⟨line_of (by simp), fun p hp => k q hq p hp⟩⟩
/-- the law's promise -/
def spLaw (K : PySem.W.Frag) : Sp := fun vs H Q _ => ∃ (a : Addr) (ns : List Int), vs = [.ref a] ∧ SqL K H a (ns.map V.int) ∧ ns.length ≤ 63 ∧ ∀ H', Q (.bl true) H'
/-- law(script): hand = _law_hand(script); .. -/
theorem law_ok {P : Program} {w : World} {K : PySem.W.Frag} {mg : Str → Option Value} {base : Heap} {x y hn : Str} {xh : Str} {st : Stmt} {f fh : Addr} {fd fdh : FuncData} {N psh : List Str} {k : Nat} {rest : List Stmt} {b : FS} {p1 p2 p3 p4 p5 : Pos} (F : Fun K x x st f fd) (Sc : FnScope N [y] (defScope st)) (hN : N = y :: hn :: N.drop 2) (hk : 1 ≤ k)
    (GH : FnOk P w K mg base CX0 1 fh fdh psh (spHand K)) (hmh : mg xh = some (.ref fh)) (hkp : PySem.W.keepIn K (.ref fh) = true) (hbh : Binds K fdh psh [])
    (hbody : defBody st = .Assign [.Name hn p1] (.Call (.Name xh p2) [.Name y p3] [] p4) p5 :: rest)
    (hg : (defScope st).names.lookup xh = some .globalImplicit) (hy : (defScope st).names.lookup y = some .local) (hh : Loc (defScope st) hn) (hd : (y == ("__debug__" : Str)) = false) (hcd : (y == ("__classdict__" : Str)) = false) (hdx : (xh == ("__debug__" : Str)) = false)
    (hb : ∀ (cdv : Value) (A : Around) (outer : List Env) (s : Shared) (H : Hp) (E : XK) (ah : Option Addr), Room k (A.deeper (envOfC x (defScope st) s.heap.objs.size f cdv)) → PFSs ((cxOf CX0 P w K mg base N x (defScope st) f cdv A outer s H E).nox) ah E0 rest b)
    (hs : ∀ (cdv : Value) (A : Around) (outer : List Env) (s : Shared) (H : Hp) (E : XK), swapsWith (.Call (.Name xh p2) [.Name y p3] [] p4) (some (.Name hn p1)) p5.line ((cxOf CX0 P w K mg base N x (defScope st) f cdv A outer s H E).nox).env = pure false)
    (main : ∀ ns : List Int, ns.length ≤ 63 → ∃ g, b (.un :: .dt .hnd :: List.replicate (N.length - 2) .un) ⟨ns, 0, 0, 1, 0⟩ = some (.ok (.rt (.bl true)) g)) : FnOk P w K mg base CX0 (k + 1) f fd [y] (spLaw K) := by
  refine F.ok Sc (fun vs H Q E h => ?_) (fun cdv A outer s H vs Q E hr h => ?_)
  · obtain ⟨a, xs, rfl, _⟩ := h
    rfl
  · obtain ⟨a, ns, rfl, hS, hlen, kQ⟩ := h
    rw [hbody]
    have N0 : ((cxOf CX0 P w K mg base N x (defScope st) f cdv A outer s H E).nox).N = N := rfl
    have ch : ∀ ah, ∃ t, PSs ((cxOf CX0 P w K mg base N x (defScope st) f cdv A outer s H E).nox) rest t ∧ RS ⟨K, mg, ah⟩ E0 t b := fun ah => hb cdv A outer s H E ah hr
    -- one reading, wherever the hand stands
    let tr : TS := fun Z σ H => ∃ ah, (ch ah).choose Z σ H
    have ptr : PSs ((cxOf CX0 P w K mg base N x (defScope st) f cdv A outer s H E).nox) rest tr := ⟨fun pins s' σ H' Z I ⟨ah, hw⟩ => (ch ah).choose_spec.1.run pins s' σ H' Z I hw⟩
    have i0 : ((cxOf CX0 P w K mg base N x (defScope st) f cdv A outer s H E).nox).N[0]? = some y := by rw [N0, hN]; rfl
    have i1 : ((cxOf CX0 P w K mg base N x (defScope st) f cdv A outer s H E).nox).N[1]? = some hn := by rw [N0, hN]; rfl
    refine ⟨_, pss_cons (ps_set (i := 1) Sc.nd i1 hh (pe_call GH (hr.mono hk) hg hmh hkp hbh .nil pass0 (pa_cons (pe_var (i := 0) i0 (.inl hy) hd hcd) pa_nil) hdx) (hs cdv A outer s H E) (.inl rfl)) ptr, ?_⟩
    have hs0 : (start N [.ref a])[0]? = some (some (.ref a)) := by simp [L2.start]
    have hl : 2 ≤ N.length := by rw [hN]; simp
    refine ⟨_, hs0, a, ns, rfl, hS, fun q hq p hp => ⟨some p, ?_⟩⟩
    have nqp : p ≠ q := fun z => by rw [z, upd_same] at hp; cases hp
    obtain ⟨g, hm⟩ := main ns hlen
    refine (ch (some p)).choose_spec.2.run ⟨⟨K, mg, some p⟩, fun _ => none, fun _ => none⟩ (.un :: .dt .hnd :: List.replicate (N.length - 2) .un) ⟨ns, 0, 0, 1, 0⟩ _ _ (upd (fun _ => none) q (.lst (ns.map V.int))) _ rfl ?_ ?_
    · refine ⟨fun b o e => ?_, ?_, fun b o e => by simp at e, fun b e => by simp at e, fun i en h => ?_, fun i j p' xs ys h => ?_⟩
      · by_cases hb2 : b = q
        · subst hb2
          rw [upd_same] at e
          rw [upd_ne (Ne.symm nqp), upd_same]; exact e
        · rw [upd_ne hb2] at e; cases e
      · refine ⟨?_, q, ?_, ?_⟩
        · show upd (fun _ => none) q _ p = none
          rw [upd_ne nqp]
        · exact upd_same
        · exact upd_same
      · match i, h with
        | 0, h => simp at h; subst h; exact ⟨_, by rw [List.getElem?_set_ne (by decide)]; exact hs0, trivial⟩
        | 1, h =>
          simp at h; subst h
          exact ⟨some (.ref p), List.getElem?_set_self (by simp [L2.start]; omega), .ref p, rfl, .hnd rfl⟩
        | i + 2, h =>
          simp [List.getElem?_replicate] at h
          obtain ⟨h1, rfl⟩ := h
          refine ⟨none, ?_, trivial⟩
          rw [List.getElem?_set_ne (by omega)]
          simp [L2.start, List.getElem?_replicate]
          omega
      · match i, h with
        | 0, h => simp at h
        | 1, h => simp at h
        | i + 2, h => simp [List.getElem?_replicate] at h
    · rw [hm]
      intro v H' S' _ _ hv
      cases hv.blE
      exact kQ H'
end FD
set_option Elab.async false
set_option linter.all false
set_option maxRecDepth 100000
set_option maxHeartbeats 1000000
namespace FD
open PySem L2
/-! # Reckoning with the functions -/
@[simp] theorem noX_ok {α : Type} (a : α) (g : Gh) : noX (some (.ok a g)) = some (.ok a g) := rfl
@[simp] theorem noX_none {α : Type} : noX (none : M α) = none := rfl
theorem sSeq_nx {a b : FS} {ρ g ρ1 g1} (h : a ρ g = some (.ok (.nx ρ1) g1)) : sSeq a b ρ g = b ρ1 g1 := by unfold sSeq; rw [h]
theorem sSeq_rt {a b : FS} {ρ g d g1} (h : a ρ g = some (.ok (.rt d) g1)) : sSeq a b ρ g = some (.ok (.rt d) g1) := by unfold sSeq; rw [h]
/-! ### == -/
@[simp] theorem eqD_int (i j : Int) : eqD (.int i) (.int j) = some (.bl (i == j)) := by
  simp [eqD, eqB, D.py, SeqAt.shaped, PyData.canLay0, PyData.depth, PyData.eqv]
@[simp] theorem neD_int (i j : Int) : neD (.int i) (.int j) = some (.bl (!(i == j))) := by
  simp [neD, eqB, D.py, SeqAt.shaped, PyData.canLay0, PyData.depth, PyData.eqv]
@[simp] theorem eqD_bl (i j : Bool) : eqD (.bl i) (.bl j) = some (.bl (i == j)) := by
  simp [eqD, eqB, D.py, SeqAt.shaped, PyData.canLay0, PyData.depth, PyData.eqv]
@[simp] theorem neD_bl (i j : Bool) : neD (.bl i) (.bl j) = some (.bl (!(i == j))) := by
  simp [neD, eqB, D.py, SeqAt.shaped, PyData.canLay0, PyData.depth, PyData.eqv]
def okStr (z : Str) : Bool := PyData.canLay0 (.str z)
theorem eqD_str {a b : Str} (ha : okStr a = true) (hb : okStr b = true) : eqD (.str a) (.str b) = some (.bl (a == b)) := by
  unfold okStr at ha hb
  simp [eqD, eqB, D.py, SeqAt.shaped, PyData.depth, PyData.eqv, ha, hb]
theorem neD_str {a b : Str} (ha : okStr a = true) (hb : okStr b = true) : neD (.str a) (.str b) = some (.bl (!(a == b))) := by
  unfold okStr at ha hb
  simp [neD, eqB, D.py, SeqAt.shaped, PyData.depth, PyData.eqv, ha, hb]
/-! ### the order of ints -/
@[simp] theorem ltD_int (i j : Int) : ltD (.int i) (.int j) = some (.bl (decide (i < j))) := rfl
@[simp] theorem leD_int (i j : Int) : leD (.int i) (.int j) = some (.bl (decide (i ≤ j))) := rfl
@[simp] theorem gtD_int (i j : Int) : gtD (.int i) (.int j) = some (.bl (decide (j < i))) := rfl
@[simp] theorem geD_int (i j : Int) : geD (.int i) (.int j) = some (.bl (decide (j ≤ i))) := rfl
@[simp] theorem addD_int (i j : Int) : addD (.int i) (.int j) = some (.int (i + j)) := rfl
@[simp] theorem subD_int (i j : Int) : subD (.int i) (.int j) = some (.int (i - j)) := rfl
theorem modD_int {i j : Int} (h : j ≠ 0) : modD (.int i) (.int j) = some (.int (i.fmod j)) := by simp [modD, intD, h]
theorem divD_int {i j : Int} (h : j ≠ 0) (h2 : j.natAbs < 1073741824) : divD (.int i) (.int j) = some (.int (i.fdiv j)) := by simp [divD, intD, h, h2]
theorem mulD_int {i j : Int} (h : small64 i ∨ small64 j) : mulD (.int i) (.int j) = some (.int (i * j)) := by
  show (if small64 i ∨ small64 j then _ else _) = _
  rw [if_pos h]
@[simp] theorem negD_int (i : Int) : negD (.int i) = some (.int (-i)) := rfl
@[simp] theorem lenD_tup (xs : List D) : lenD [.tup xs] = some (.int xs.length) := rfl
@[simp] theorem lenD_lst (xs : List D) : lenD [.lst xs] = some (.int xs.length) := rfl
@[simp] theorem tupleD_lst (xs : List D) : tupleD [.lst xs] = some (.tup xs) := rfl
@[simp] theorem tupleD_tup (xs : List D) : tupleD [.tup xs] = some (.tup xs) := rfl
@[simp] theorem seqOf_tup (xs : List D) : seqOf (.tup xs) = some xs := rfl
@[simp] theorem seqOf_lst (xs : List D) : seqOf (.lst xs) = some xs := rfl
@[simp] theorem intOf_int (i : Int) : intOf [.int i] = some (.int i) := rfl
@[simp] theorem isND_non (d : D) : isND d .non = some (.bl (isNonB d)) := by cases d <;> rfl
@[simp] theorem notND_non (d : D) : notND d .non = some (.bl (!isNonB d)) := by cases d <;> rfl
@[simp] theorem isBlD_bl (d : D) (b : Bool) : isBlD d (.bl b) = some (.bl (isBlB b d)) := by cases d <;> rfl
theorem atI_nat {α : Type} {xs : List α} {k : Nat} : atI xs (k : Int) = xs[k]? := by
  unfold atI ixN
  by_cases h : k < xs.length
  · simp [h]
  · simp [h]
theorem atI_of {α : Type} {xs : List α} {i : Int} (h : 0 ≤ i) : atI xs i = xs[i.toNat]? := by
  obtain ⟨k, rfl⟩ := Int.eq_ofNat_of_zero_le h
  rw [atI_nat]; rfl
theorem ixD_tup {xs : List D} {i : Int} (h : 0 ≤ i) : ixD (.tup xs) (.int i) = xs[i.toNat]? := atI_of h
theorem ixD_lst {xs : List D} {i : Int} (h : 0 ≤ i) : ixD (.lst xs) (.int i) = xs[i.toNat]? := atI_of h
/-! ### blocks -/
theorem compD_map {gs : FG} {fe : FE} {F : D → D} {ρ : List En} {g : Gh} : ∀ {ds : List D}, (∀ d ∈ ds, ∃ ρ1, gs d ρ = some ρ1 ∧ fe ρ1 g = some (.ok (F d) g)) → compD gs tY fe ds ρ g = some (.ok (ds.map F) g)
  | [], _ => rfl
  | d :: ds, h => by
    obtain ⟨ρ1, h1, h2⟩ := h d List.mem_cons_self
    have ih := compD_map (ds := ds) fun e he => h e (List.mem_cons_of_mem _ he)
    simp [compD, h1, h2, ih]
theorem compD_filter {gs : FG} {ft : FT} {fe : FE} {p : D → Bool} {F : D → D} {ρ : List En} {g : Gh} : ∀ {ds : List D}, (∀ d ∈ ds, ∃ ρ1, gs d ρ = some ρ1 ∧ ft ρ1 g = some (.ok (p d) g) ∧ fe ρ1 g = some (.ok (F d) g)) → compD gs ft fe ds ρ g = some (.ok ((ds.filter p).map F) g)
  | [], _ => rfl
  | d :: ds, h => by
    obtain ⟨ρ1, h1, h2, h3⟩ := h d List.mem_cons_self
    have ih := compD_filter (ds := ds) fun e he => h e (List.mem_cons_of_mem _ he)
    cases hp : p d <;> simp [compD, h1, h2, h3, ih, hp, List.filter_cons]
@[simp] theorem flags_map {α : Type} (p : α → Bool) : ∀ ds : List α, flags (ds.map fun d => .bl (p d)) = some (ds.map p)
  | [] => rfl
  | d :: ds => by simp [flags, flags_map p ds]
theorem allD_map {α : Type} (p : α → Bool) (ds : List α) : allD [.lst (ds.map fun d => .bl (p d))] = some (.bl (ds.all p)) := by
  simp [allD]
/-- every draw's end -/
def Sat {α : Type} (m : M α) (P : α → Gh → Prop) : Prop := ∃ a g, m = some (.ok a g) ∧ P a g
theorem Sat.bd {α β : Type} {m : M α} {k : α → Gh → M β} {P : α → Gh → Prop} {Q : β → Gh → Prop} (h : Sat m P) (hk : ∀ a g, P a g → Sat (k a g) Q) : Sat (m.bd k) Q := by
  obtain ⟨a, g, rfl, p⟩ := h
  exact hk a g p
theorem Sat.ok {α : Type} {a : α} {g : Gh} {P : α → Gh → Prop} (h : P a g) : Sat (some (.ok a g)) P := ⟨a, g, rfl, h⟩
theorem Sat.imp {α : Type} {m : M α} {P Q : α → Gh → Prop} (h : Sat m P) (hq : ∀ a g, P a g → Q a g) : Sat m Q := by
  obtain ⟨a, g, e, p⟩ := h
  exact ⟨a, g, e, hq a g p⟩
theorem Sat.seq {a b : FS} {ρ : List En} {g : Gh} {P : Fl → Gh → Prop} {Q : Fl → Gh → Prop} (h : Sat (a ρ g) P) (hk : ∀ f g1, P f g1 → (∃ ρ1, f = .nx ρ1 ∧ Sat (b ρ1 g1) Q) ∨ ((∀ ρ1, f ≠ .nx ρ1) ∧ Q f g1)) : Sat (sSeq a b ρ g) Q := by
  obtain ⟨f, g1, e, p⟩ := h
  unfold sSeq
  rw [e]
  rcases hk f g1 p with ⟨ρ1, rfl, h2⟩ | ⟨hn, q⟩
  · exact h2
  · cases f with
    | nx ρ1 => exact absurd rfl (hn ρ1)
    | bk ρ1 => exact .ok q
    | ct ρ1 => exact .ok q
    | rt d => exact .ok q
theorem p62 : (2 : Int) ^ 62 = 4611686018427387904 := by decide +kernel
theorem rng1_int {j : Int} (h0 : 0 ≤ j) (h : j ≤ 100000) : rng1 [.int j] = some (rngD 0 j.toNat) := by
  unfold rng1
  have c1 : -(2 ^ 62) ≤ j := by rw [p62]; omega
  have c2 : j < 2 ^ 62 := by rw [p62]; omega
  exact if_pos (ck_of ⟨c1, c2⟩)
theorem rng1_nat {n : Nat} (h : n ≤ 100000) : rng1 [.int (n : Nat)] = some (rngD 0 n) := by
  have := rng1_int (j := (n : Int)) (by omega) (by omega)
  rw [this]
  rfl
/-- the hand stands right -/
structure HOK (g : Gh) : Prop where
  i0 : 0 ≤ g.i
  r0 : 0 ≤ g.r
  r1 : g.r < 2147483647
end FD
set_option Elab.async false
set_option linter.all false
set_option maxRecDepth 100000
set_option maxHeartbeats 2000000
namespace FD
open PySem PySem.Spec PyProof.Rows L2
/-! # What the end of the top leaves, for this layer -/
theorem fun_of {K : PySem.W.Frag} {x qual : Str} {st : Stmt} {f : Addr} {fd : FuncData} (F : FunD K x qual (defArgs st) (defBody st) (defScope st) [] [] f fd) : Fun K x qual st f fd := by
  obtain ⟨oc, od, dV, kV, doc, pm, an, cdv, ct, osl, rfl, lk, hcd, hD, hK⟩ := F.ex
  rcases hD with ⟨_, rfl⟩ | ⟨e, _⟩
  · exact ⟨⟨oc, od, kV, doc, pm, an, cdv, ct, osl, rfl, lk, hcd⟩, F.kp⟩
  · exact absurd rfl e
def oexB (K : PySem.W.Frag) (C : Addr) : Bool := (match K.lookup C with
  | some ⟨.type c, _, .cls cd, sl⟩ => (match cd.mro, sl.toList with
    | .ref C' :: bm, [_, _, _, _, some (.builtin n), _] => c == "type" && (C' == C && (n == "ValueError.__new__" && (!cd.hasDel && (cd.hasDict && PySem.HandSPX.refsVE bm))))
    | _, _ => false)
  | _ => false) && (He.eqO (PySem.W.findIn K (.ref C) "__setattr__") (some (some (.builtin "object.__setattr__"))) && (decide (PySem.W.subIn K (.ref C) (.type "BaseException") = some true) && (decide (PySem.W.typeIn K (.ref C) = some (.type "type")) && PySem.W.keepIn K (.ref C))))
theorem oexB_ok {K : PySem.W.Frag} {C : Addr} (h : oexB K C = true) : OexC K C := by
  obtain ⟨h1, h⟩ := He.ba h
  obtain ⟨h2, h⟩ := He.ba h
  obtain ⟨h3, h⟩ := He.ba h
  obtain ⟨h4, h5⟩ := He.ba h
  refine ⟨?_, He.eqO_ok h2, of_decide_eq_true h3, of_decide_eq_true h4, h5⟩
  split at h1
  · rename_i c dd cd sl ho
    split at h1
    · rename_i C' bm k0 k1 k2 k3 n k5 hm hs
      simp only [Bool.and_eq_true, beq_iff_eq, Bool.not_eq_true'] at h1
      obtain ⟨rfl, rfl, rfl, hdel, hdc, ht⟩ := h1
      obtain ⟨nm, bs, mro, ns, qn, hd, sn, sub, ab, col, del⟩ := cd
      dsimp only at hm hdel hdc
      subst hm hdel hdc
      have hsl : sl = #[k0, k1, k2, k3, some (.builtin "ValueError.__new__"), k5] := by
        obtain ⟨l⟩ := sl
        simp only at hs
        rw [hs]
      subst hsl
      exact ⟨nm, qn, ns, bs, bm, sn, sub, ab, col, dd, k0, k1, k2, k3, k5, ho, ht⟩
    · cases h1
  · cases h1
/-- an own error with one field -/
def excB (K : PySem.W.Frag) (x f : Str) : Bool := He.eqO (PySem.W.nsIn K mainGlobals x) (some (some (.ref (He.ga K x)))) && (oexB K (He.ga K x) && (xfB K (He.ga K x) && (He.eqO (PySem.W.findIn K (.ref (He.ga K x)) f) (some none) && (He.eqO (PySem.W.findIn K (.ref (He.ga K x)) "__init__") (some (some (.ref (He.ma K (He.ga K x) "__init__")))) && (decide (PySem.W.typeIn K (.ref (He.ma K (He.ga K x) "__init__")) = some (.type "function")) && decide (PySem.W.exmOne K (.ref (He.ga K x)) (.ref (He.ga K x)) = some true))))))
theorem excB_ok {P : Program} {w : World} {K : PySem.W.Frag} {h : Heap} {mg : Str → Option Value} {base : Heap} {x f : Str} (X : K.In h) (G : h.Ns mainGlobals mg) (c : excB K x f = true) {fd : FuncData} {ps : List Str} (F : OexC K (He.ga K x) → FnOk P w K mg base CX0 1 (He.ma K (He.ga K x) "__init__") fd ps (spExI (He.ga K x) f)) (b : Binds K fd ps []) : ExcOk P w K mg base x f := by
  obtain ⟨c1, c⟩ := He.ba c
  obtain ⟨c2, c⟩ := He.ba c
  obtain ⟨c3, c⟩ := He.ba c
  obtain ⟨c4, c⟩ := He.ba c
  obtain ⟨c5, c⟩ := He.ba c
  obtain ⟨c6, c7⟩ := He.ba c
  exact ⟨_, _, fd, ps, He.glo_ok X G (x := x) c1, oexB_ok c2, xfB_ok c3, He.eqO_ok c4, He.eqO_ok c5, of_decide_eq_true c6, F (oexB_ok c2), b, of_decide_eq_true c7⟩
theorem excB_no {K : PySem.W.Frag} {x f : Str} (c : excB K x f = true) : PySem.W.findIn K (.ref (He.ga K x)) f = some none := by
  obtain ⟨c1, c⟩ := He.ba c
  obtain ⟨c2, c⟩ := He.ba c
  obtain ⟨c3, c⟩ := He.ba c
  exact He.eqO_ok (He.ba c).1
/-- a class whose things are told apart from the built-in ones -/
def clsIB (K : PySem.W.Frag) (x : Str) : Bool := He.eqO (PySem.W.findIn K (.ref (He.ga K x)) "__class__") (some (some (.builtin "object.__class__"))) && (He.eqO (PySem.W.specialIn K (.builtin "object.__class__") "__get__") (some (some (.builtin "getset_descriptor.__get__"))) && (decide (PySem.W.takesIn K (.builtin "object.__class__") = some true) && (decide (PySem.W.mroIn K (He.ga K x) (.type "object") = some true) && (["int", "bool", "str", "tuple", "list"].all fun t => decide (PySem.W.kitOne K (.ref (He.ga K x)) (.type t) = some false)))))
theorem clsIB_ok {K : PySem.W.Frag} {x : Str} (cl : Cls K (He.ga K x)) (c : clsIB K x = true) : ClsI K (He.ga K x) := by
  obtain ⟨c1, c⟩ := He.ba c
  obtain ⟨c2, c⟩ := He.ba c
  obtain ⟨c3, c⟩ := He.ba c
  obtain ⟨c4, c5⟩ := He.ba c
  exact ⟨cl, He.eqO_ok c1, He.eqO_ok c2, of_decide_eq_true c3, of_decide_eq_true c4, fun t ht => of_decide_eq_true (List.all_eq_true.mp c5 t (by
    rcases ht with rfl | rfl | rfl | rfl | rfl <;> simp))⟩
/-! ### constants -/
def ctB (K : PySem.W.Frag) (x : Str) (zs : List Str) : Bool := He.eqO (PySem.W.nsIn K mainGlobals x) (some (some (.ref (He.ga K x)))) && He.tupB K x (zs.map .str)
theorem ctB_ok {K : PySem.W.Frag} {h : Heap} {mg : Str → Option Value} {x : Str} {zs : List Str} (X : K.In h) (G : h.Ns mainGlobals mg) (c : ctB K x zs = true) : ConstOk K mg x (.tup (zs.map .str)) := by
  obtain ⟨c1, c2⟩ := He.ba c
  refine ⟨.ref (He.ga K x), _, He.glo_ok X G (x := x) c1, rfl, fun ah S => .tup (He.tupB_ok c2 S) ?_⟩
  have e : (zs.map He.Dv.str).map (He.Dv.v K) = strsV zs := by
    unfold strsV
    rw [List.map_map]
    rfl
  rw [e]
  exact Dns.strs zs
theorem ciOk {K : PySem.W.Frag} {h : Heap} {mg : Str → Option Value} {x : Str} {i : Int} (X : K.In h) (G : h.Ns mainGlobals mg) (c : (He.Fa.int x i).ok K = true) : ConstOk K mg x (.int i) := by
  obtain ⟨t, e⟩ := He.int_ok X G c
  exact ⟨.int i, _, e, ⟨t, rfl⟩, fun ah S => .int i⟩
/-! ### the Hook: the library's facts, and one Bool more -/
abbrev AlF : Type := He.AlD × Bool
def obsF (n : Nat) (fa : List He.Fa) (fn : List He.DefD) (ex : PySem.W.Frag → Bool) (g : Addr → Option Obj) : AlF := (He.obsD fa fn (He.frG g (He.asD g n)), ex (He.frG g (He.asD g n)))
def valF (fn : List He.DefD) : AlF := (He.valD fn, true)
def hookF (n : Nat) (fa : List He.Fa) (fn : List He.DefD) (ex : PySem.W.Frag → Bool) : PySem.W.Hook where
  α := AlF
  obs := fun s => obsF n fa fn ex s.heap.get?
  val := fun _ => valF fn
  says := fun _ h => ∃ K : PySem.W.Frag, K.In h ∧ He.SaysD fa fn K ∧ ex K = true
  of := fun _ _ e => ⟨_, He.frG_in, congrArg (fun z : AlF => z.1) e, congrArg (fun z : AlF => z.2) e⟩
  keeps := fun _ _ _ ⟨K, hK, c⟩ k => ⟨K, PySem.W.Frag.In.keeps hK k, c⟩
theorem obsF_eq {n : Nat} {fa : List He.Fa} {fn : List He.DefD} {ex : PySem.W.Frag → Bool} {g : Addr → Option Obj} {s : Shared} (h : ∀ a, g a = s.heap.get? a) : obsF n fa fn ex g = (hookF n fa fn ex).obs s := by
  have e : g = s.heap.get? := funext h
  rw [e] <;> rfl
end FD
set_option Elab.async false
set_option linter.all false
set_option maxRecDepth 100000
set_option maxHeartbeats 2000000
namespace FD
open PySem PySem.Spec PyProof.Rows L2
/-! # enumerate(t) of a tuple -/
theorem meets_enumT (t : Addr) (items : Array Value) (n : Nat) (cl : Value) (dct : Option Addr) (sl : Array (Option Value)) (hcl : cl = .type "tuple") :
    Meets (Builtin.«enumerate.__new__» ⟨[.type "enumerate", .ref t], []⟩) (fun _ Rr q => q.heap.get? t = some { cls := cl, dict := dct, data := .seq items n, slots := sl } ∧
      Rr (.ok (.ret (.ref (q.heap.push { cls := .type "tuple_iterator", data := .fields #[.ref t, .int 0 0] }).objs.size)))
        { q with heap := (q.heap.push { cls := .type "tuple_iterator", data := .fields #[.ref t, .int 0 0] }).push { cls := .type "enumerate", data := .fields #[.none, .bool false, .ref q.heap.objs.size, rawInt 0, .none, .none] } }) :=
  .of_wp fun prog w A Rr q h => by
    obtain ⟨hp, gg, dd, tk, os⟩ := q
    obtain ⟨hT, h⟩ := h
    subst hcl
    have sub1 := sub_enumerate
    have tT : Heap.IsTuple (Shared.heap ⟨hp, gg, dd, tk, os⟩) t items := ⟨_, hT, rfl, n, rfl⟩
    wp_walk using AutoSeq1.wpAny_loadPart' hT
    refine wpAny_stack_any fun st => wpAny_pure ?_
    split
    · rename_i c _ _ _ _ _
      cases (c == Value.type "enumerate") <;>
      · wp_walk using AutoSeq1.wpAny_loadPart' hT, wpAny_pyIter_tuple tT
        exact ⟨_, rfl, h⟩
    · wp_walk using AutoSeq1.wpAny_loadPart' hT, wpAny_pyIter_tuple tT
      exact ⟨_, rfl, h⟩
theorem call_enumT {prog : Program} {w : World} {A : Around} {E : Value → Shared → Prop} {q : Shared} {t : Addr} {items : Array Value} {Q : Value → Shared → Prop} (tT : q.heap.IsTuple t items)
    (h : ∀ h', IsEnum h' (q.heap.objs.size + 1) q.heap.objs.size 0 .none → h'.IsTupleIter q.heap.objs.size t 0 → (∀ b o, q.heap.get? b = some o → h'.get? b = some o) → Q (.ref (q.heap.objs.size + 1)) { q with heap := h' }) :
    wpAny (model prog w) A (call (.type "enumerate") [.ref t]) Q E q := by
  obtain ⟨⟨c, dct, dt, sl⟩, ht, hc, n, hd⟩ := tT
  replace hd : dt = .seq items n := hd
  subst hd
  refine callType_new F.called_enumerate (by decide) (F.typeCall_enumerate_1 _) (F.newCall_enumerate_1 _) (fun obj => F.args_object_init_2 obj _) F.entry_enumerate_new (meets_enumT t items n c dct sl hc) ⟨ht, ?_⟩
  generalize hh1 : q.heap.push { cls := .type "tuple_iterator", data := .fields #[.ref t, .int 0 0] } = h1
  have sz : h1.objs.size = q.heap.objs.size + 1 := by rw [← hh1]; exact Heap.size_push ..
  have g1 : h1.get? q.heap.objs.size = some { cls := .type "tuple_iterator", data := .fields #[.ref t, .int 0 0] } := by rw [← hh1]; exact Heap.get?_push_size _ rfl
  have ge : IsEnum (h1.push { cls := .type "enumerate", data := .fields #[.none, .bool false, .ref q.heap.objs.size, rawInt 0, .none, .none] }) (q.heap.objs.size + 1) q.heap.objs.size 0 .none := by
    have := Heap.get?_push_size h1 (o := { cls := .type "enumerate", data := .fields #[.none, .bool false, .ref q.heap.objs.size, rawInt 0, .none, .none] }) rfl
    rw [sz] at this; exact this
  show _ ∧ _
  rw [sz]
  exact ⟨⟨_, ge, rfl⟩, h _ ge ⟨_, Heap.get?_push_of_some _ g1, rfl, rfl⟩ fun b o x => Heap.get?_push_of_some _ (by rw [← hh1]; exact Heap.get?_push_of_some _ x)⟩
/-- the tuple at a, its items in new pairs with their places -/
def IteT (K : PySem.W.Frag) (a : Addr) : It :=
  ⟨fun i H => ∃ (xs : List V) (x : V), SqT K H a xs ∧ xs[i]? = some x, fun i H v H' => ∃ T x, v = .ref T ∧ H T = none ∧ H' = upd H T (.tup [.int (i : Nat), x]) ∧ ∀ xs, SqT K H a xs → xs[i]? = some x, fun i H => ∃ xs : List V, SqT K H a xs ∧ xs.length ≤ i⟩
theorem turn_enumT {P : Program} {w : World} {K : PySem.W.Frag} {elts : List Expr} {kk : Nat} {tpos : Pos} (a e it : Addr) :
    Turn P w K (.Tuple elts kk tpos) (IteT K a) [e, it] e (fun i h => ((∃ old, IsEnum h e it ((i : Nat) : Int) old) ∧ h.IsTupleIter it a i) ∧ e ≠ it ∧ a ≠ it ∧ e ≠ a) where
  mem := by simp
  obj := fun i h st b hb => by
    obtain ⟨⟨⟨old, ge⟩, o, ho, hc, hd⟩, _⟩ := st
    have z : b = e ∨ b = it := by simpa using hb
    rcases z with rfl | rfl
    · exact ⟨_, ge, fun v z => nomatch z⟩
    · exact ⟨o, ho, fun v z => by rw [hd] at z; cases z⟩
  keep := fun i h h' st k => ⟨⟨st.1.1.imp fun old ge => k e (by simp) _ ge, st.1.2.at fun o z => k it (by simp) o z⟩, st.2⟩
  item := by
    intro X e1 e2 e3 hc i pins s σ H E I hf st hg
    subst e1 e2 e3
    obtain ⟨⟨⟨old, ge⟩, hit⟩, ne, na, nea⟩ := st
    obtain ⟨xs, x, hq, hx⟩ := hg
    obtain ⟨its, rv, tp, hz⟩ := I.tuple hq
    obtain ⟨u, hu, ru⟩ := rv.get hx
    have le : e < s.heap.objs.size := Heap.lt_size ge
    have li : it < s.heap.objs.size := by obtain ⟨_, z, _⟩ := hit; exact Heap.lt_size z
    have D := Draws.tuple (prog := X.prog) (w := X.w) (A := X.A.in1) (I.ok.hd hc) it a na its.toArray
    have lt : i < its.toArray.size := by
      have := (List.getElem?_eq_some_iff.mp hu).1
      simpa using this
    refine wpAny_pyNext_enum_itemD D ge ⟨hit, tp⟩ lt ne (by simp [ne, nea]) fun y h' tk hy ho hst hT hsz hk => ?_
    have hy' : y = u := by
      have z1 : its[i]? = some y := by simpa using hy
      rw [hu] at z1
      exact (Option.some.inj z1).symm
    subst hy'
    refine ⟨_, rfl, wpAny_letOwnedTupleGo_enum (s := { s with heap := h', toks := tk + 1 }) ho fun h2 ge2 sb => ?_⟩
    have hT2 : h2.get? s.heap.objs.size = some { cls := .type "tuple", data := .seq #[.int i tk, y] } := (sb.2 _ (Nat.ne_of_gt le)).trans hT
    have new : ObjOk X.prog X.w (upd H s.heap.objs.size (.tup [.int (i : Nat), x])) h2 s.heap.objs.size (.tup [.int (i : Nat), x]) :=
      ⟨by show 2 ≤ sizeLine; decide, [.int i tk, y], .cons ⟨_, rfl⟩ (.cons ru .nil), ⟨_, hT2, rfl, _, rfl⟩⟩
    have I1 : Inv X pins σ (upd H s.heap.objs.size (.tup [.int (i : Nat), x])) { s with heap := h2, toks := tk + 1 } :=
      I.turnedNew (ch := [e, it]) (fun b ob hb z => (sb.2 b (fun y => hb (by simp [y]))).trans (hk b ob (fun y => hb (by simp [y])) (fun y => hb (by simp [y])) z)) hf (Nat.le_refl _) new
    refine ⟨.ref s.heap.objs.size, _, I1, rfl, ⟨_, x, rfl, I.hok.fresh (Nat.le_refl _), rfl, fun ys hys => by rw [I.tuple_inj hys hq]; exact hx⟩, ⟨⟨⟨y, ?_⟩, hst.1.at fun o z => (sb.2 it (Ne.symm ne)).trans z⟩, ne, na, nea⟩, fun b hb => ?_⟩
    · rw [show ((i + 1 : Nat) : Int) = (i : Int) + 1 by omega]; exact ge2
    · have lb : b < s.heap.objs.size := by
        have z : b = e ∨ b = it := by simpa using hb
        rcases z with rfl | rfl
        · exact le
        · exact li
      rw [upd_ne (Nat.ne_of_lt lb)]
      exact (hf b hb).1
  done := by
    intro X e1 e2 e3 hc i pins s σ H E I hf st hg
    subst e1 e2 e3
    obtain ⟨⟨⟨old, ge⟩, hit⟩, ne, na, nea⟩ := st
    obtain ⟨xs, hq, hx⟩ := hg
    obtain ⟨its, rv, tp, hz⟩ := I.tuple hq
    obtain ⟨f0, f1, f2, f3, f4, f5⟩ := hf it (by simp)
    have hl := rv.length
    unfold pyNext
    have hT : s.TypeIs (.ref e) "enumerate" := ⟨_, ge, rfl⟩
    refine wpAny_bind (wpAny_attempt (wpAny_callSpecial?_slot (name := Str.ofString "__next__") hT F.slot_enumerate_next (wpAny_call_entry F.slot_enumerate_next hT F.entry_enumerate_next ?_ (F.args_enumerate_next_1 _))))
    show wpAny _ _ (field (.ref e) 2 >>= _) _ _ _
    refine wpAny_bind (wpAny_field ge rfl (x := .ref it) rfl ?_)
    refine wpAny_bind (wpAny_nextOf_tuple_end (I.ok.hd hc) hit tp (i := i) (by simp; omega) fun h' x he' hx' => ?_)
    obtain ⟨o, ho, hcx⟩ := hx'
    refine wpAny_bind (wpAny_isInstance (T := "StopIteration") (b := true) ⟨o, ho, hcx⟩ isSubtype_stop ?_)
    exact wpAny_pure ⟨rfl, I.turned (t' := s.toks) (fun b o hb z => he' b o hb z) f0 f1 f3 f4 f5⟩
  self := fun A i s Q E st h => by
    obtain ⟨⟨⟨old, ge⟩, _⟩, _⟩ := st
    exact wpAny_pyIter_enum ge h
def iEnumA (K : PySem.W.Frag) (ta : TA) : TI := fun σ H R => ta σ H fun vs H1 => ∃ a xs, vs = [V.ref a] ∧ ((SqL K H1 a xs ∧ R (Ite K a) H1) ∨ (SqT K H1 a xs ∧ R (IteT K a) H1))
theorem pi_enumA {X : Cx} {e : Expr} {ta : TA} {p pos tpos : Pos} {elts : List Expr} {kk : Nat} (hg : Gl X "enumerate") (hm : X.mg "enumerate" = none) (ha : PA X [e] ta) (hs : starEach [e] X.env = [(false, eval e X.env)] := by rfl) :
    PI X (.Tuple elts kk tpos) (.Call (.Name "enumerate" p) [e] [] pos) (iEnumA X.K ta) := by
  refine ⟨fun pins s σ H Rr I h => ?_⟩
  refine Call_ (ld_blt I hg hm boot_enumerate (PyProof.Rows.callWith_type1 (thn (ha.run pos pins s σ H _ I h) fun us s1 ⟨vs, H1, I1, r1, qq⟩ => ?_) hs rfl))
  obtain ⟨a, xs, ex, qq⟩ := qq
  subst ex
  cases r1 with
  | cons r rr =>
    cases rr
    cases r
    have fresh2 : ∀ b, b ∈ [s1.heap.objs.size + 1, s1.heap.objs.size] → FpOk X pins H1 b := fun b hb => by
      have le : s1.heap.objs.size ≤ b := by
        have z : b = s1.heap.objs.size + 1 ∨ b = s1.heap.objs.size := by simpa using hb
        rcases z with rfl | rfl <;> omega
      exact I1.fpOk le (I1.hok.fresh le)
    rcases qq with ⟨hq, qq⟩ | ⟨hq, qq⟩
    · obtain ⟨its, rv, lp, hz⟩ := I1.list hq
      refine call_enumerate_list lp.isList fun h' he hit hsz hk => wpAny_pyIter_enum he ?_
      exact ⟨s1.heap.objs.size + 1, [s1.heap.objs.size + 1, s1.heap.objs.size], _, _, H1, rfl, I1.kept (t' := s1.toks) hk, turn_enum a (s1.heap.objs.size + 1) s1.heap.objs.size, ⟨⟨.none, he⟩, hit, Nat.succ_ne_self _⟩, fresh2, qq⟩
    · obtain ⟨its, rv, tp, hz⟩ := I1.tuple hq
      obtain ⟨o, ho, _⟩ := id tp
      have la : a < s1.heap.objs.size := Heap.lt_size ho
      refine call_enumT (show s1.heap.IsTuple a its.toArray from tp) fun h' he hit hk => wpAny_pyIter_enum he ?_
      exact ⟨s1.heap.objs.size + 1, [s1.heap.objs.size + 1, s1.heap.objs.size], _, _, H1, rfl, I1.kept (t' := s1.toks) hk, turn_enumT a (s1.heap.objs.size + 1) s1.heap.objs.size, ⟨⟨⟨.none, he⟩, hit⟩, Nat.succ_ne_self _, Nat.ne_of_lt la, Nat.ne_of_gt (Nat.lt_succ_of_lt la)⟩, fresh2, qq⟩
/-- each item with its place -/
def enumD : List D → Option (List D)
  | [.lst xs] => some (xs.zipIdx.map fun p => .tup [.int (p.2 : Nat), p.1])
  | [.tup xs] => some (xs.zipIdx.map fun p => .tup [.int (p.2 : Nat), p.1])
  | _ => none
@[simp] def iEn (a : FA) : FI := fun ρ g => (a ρ g).bd fun xs g1 => lift (enumD xs) g1
theorem enum_at {xs : List D} {i : Nat} {d : D} (h : (xs.zipIdx.map fun p => D.tup [.int (p.2 : Nat), p.1])[i]? = some d) : ∃ x, xs[i]? = some x ∧ d = .tup [.int (i : Nat), x] := by
  rw [List.getElem?_map, Option.map_eq_some_iff] at h
  obtain ⟨⟨x, j⟩, h1, rfl⟩ := h
  rw [List.getElem?_zipIdx, Option.map_eq_some_iff] at h1
  obtain ⟨y, h2, h3⟩ := h1
  cases h3
  exact ⟨x, h2, by simp⟩
section
variable {X : Cx} {ah : Option Addr} {E : L2.St → XK} {c : DC}
theorem pfi_enum {e : Expr} {f : FA} {p pos tpos : Pos} {elts : List Expr} {kk : Nat} (hm : X.mg "enumerate" = none) (ha : PFA X ah E [e] f) (hg : Gl X "enumerate" := by rfl)
    (hs : starEach [e] X.env = [(false, eval e X.env)] := by rfl) : PFI X ah E (.Tuple elts kk tpos) (.Call (.Name "enumerate" p) [e] [] pos) (iEn f) := by
  obtain ⟨t, q, r⟩ := ha
  refine ⟨_, pi_enumA hg hm q hs, ?_⟩
  refine RG.bind (rel' := rI) (r := fun σ vs H1 (R : It → Hp → Prop) => ∃ a xs, vs = [V.ref a] ∧ ((SqL X.K H1 a xs ∧ R (Ite X.K a) H1) ∨ (SqT X.K H1 a xs ∧ R (IteT X.K a) H1))) (k := fun ρ xs g1 => lift (enumD xs) g1) r fun F ρ g σ H S Q x d e R hx G => ?_
  have e0 := e
  unfold enumD at G
  split at G
  · rename_i xs
    obtain ⟨v, rfl, hv⟩ := hx.one
    cases hv with
    | lst h1 s1 =>
    rename_i a vs
    refine ⟨a, vs, rfl, .inl ⟨SqL.of (R.sub _ _ h1), G.ret R ?_⟩⟩
    show WalkOf F.c _ _ _
    rw [e]
    refine ⟨fun F' ρ g σ H S1 e' sm R => ?_, fun F' ρ g σ H S1 i d e' sm R hd => ?_⟩
    · refine ⟨vs, SqL.of (R.sub _ _ (sm _ _ h1)), ?_⟩
      have l1 := s1.length
      simp
      omega
    · obtain ⟨dx, g1, rfl⟩ := enum_at hd
      obtain ⟨vx, k1, n1⟩ := s1.get g1
      have a1 : SqL X.K H a vs := SqL.of (R.sub _ _ (sm _ _ h1))
      refine ⟨⟨vs, vx, a1, k1⟩, fun x H' y => ?_⟩
      obtain ⟨T, x', rfl, nT, rfl, f1⟩ := y
      have := f1 vs a1
      rw [k1] at this; cases this
      have st := R.tosame (.tup [.int (i : Nat), vx]) nT
      exact ⟨_, st, R.up _ nT, .tup (SqT.of upd_same) (.cons (.int _) (.cons ((n1.mono sm).mono st) .nil))⟩
  · rename_i xs
    obtain ⟨v, rfl, hv⟩ := hx.one
    cases hv with
    | tup h1 s1 =>
    rename_i a vs
    refine ⟨a, vs, rfl, .inr ⟨Same.tup R.sub h1, G.ret R ?_⟩⟩
    show WalkOf F.c _ _ _
    rw [e]
    refine ⟨fun F' ρ g σ H S1 e' sm R => ?_, fun F' ρ g σ H S1 i d e' sm R hd => ?_⟩
    · refine ⟨vs, Same.tup R.sub (Same.tup sm h1), ?_⟩
      have l1 := s1.length
      simp
      omega
    · obtain ⟨dx, g1, rfl⟩ := enum_at hd
      obtain ⟨vx, k1, n1⟩ := s1.get g1
      have a1 : SqT X.K H a vs := Same.tup R.sub (Same.tup sm h1)
      refine ⟨⟨vs, vx, a1, k1⟩, fun x H' y => ?_⟩
      obtain ⟨T, x', rfl, nT, rfl, f1⟩ := y
      have := f1 vs a1
      rw [k1] at this; cases this
      have st := R.tosame (.tup [.int (i : Nat), vx]) nT
      exact ⟨_, st, R.up _ nT, .tup (SqT.of upd_same) (.cons (.int _) (.cons ((n1.mono sm).mono st) .nil))⟩
  · exact G.elim
/-! ### what is never come to -/
theorem pf_dead {e : Expr} : PF X ah E e (fun _ _ => none) := ⟨fun _ _ _ => False, ⟨fun _ _ _ _ _ _ h => h.elim⟩, ⟨fun F ρ g σ H S Q e R G => G.elim⟩⟩
end
end FD
set_option Elab.async false
set_option linter.all false
set_option maxRecDepth 100000
set_option maxHeartbeats 2000000
namespace FD
open PySem PySem.Spec PyProof.Rows L2
/-! # ranges as values -/
section
variable {X : Cx} {ah : Option Addr} {c : DC}
theorem cr_range1 : CallR X (.type "range") (fun vs H Q => ∃ j, vs = [V.int j] ∧ ∀ p, H p = none → Q (.ref p) (upd H p (.rng 0 j))) := by
  intro pins s σ H vs us Q I r h
  obtain ⟨j, rfl, q⟩ := h
  obtain ⟨u1, rfl, t, rfl⟩ := vals1 r
  refine call_range_1 ⟨.ref s.heap.objs.size, upd H s.heap.objs.size (.rng 0 j), I.laid (t' := s.toks + 1 + 1) (fun b o e => Heap.get?_push_of_some _ e) (Nat.le_refl _) ?_, rfl, q _ (I.hok.fresh (Nat.le_refl _))⟩
  exact ⟨s.toks, t, s.toks + 1, Heap.get?_push_size _ rfl⟩
def rngV : List D → Option D
  | [.int j] => some (.rng 0 j)
  | _ => none
theorem cs_range1 : CallS c (fun vs H Q => ∃ j, vs = [V.int j] ∧ ∀ p, H p = none → Q (.ref p) (upd H p (.rng 0 j))) rngV := by
  intro E F ρ g σ H S Q vs ds e R hx G
  subst e
  unfold rngV at G
  split at G
  · obtain ⟨v, rfl, hv⟩ := hx.one
    cases hv.intE
    exact ⟨_, rfl, fun p hp => G.new R hp (.rng upd_same)⟩
  · exact G.elim
/-- the numbers of a range that stands -/
noncomputable def rngOf : D → Option (List D)
  | .rng i j => if ck (-(2 ^ 62) ≤ i ∧ i < 2 ^ 62 ∧ -(2 ^ 62) ≤ j ∧ j < 2 ^ 62) = true then some (rngD i (j - i).toNat) else none
  | _ => none
@[simp] noncomputable def iRv (a : FE) : FI := fun ρ g => (a ρ g).bd fun x g1 => lift (rngOf x) g1
def iRngV (te : TE) : TI := fun σ H R => te σ H fun x H1 => ∃ a i j, x = V.ref a ∧ H1 a = some (.rng i j) ∧ (-(2 ^ 62) ≤ i ∧ i < 2 ^ 62 ∧ -(2 ^ 62) ≤ j ∧ j < 2 ^ 62) ∧ R (Itr i (j - i).toNat) H1
theorem pi_rngV {tg e : Expr} {te : TE} (he : PE X e te) : PI X tg e (iRngV te) := by
  refine ⟨fun pins s σ H R I h => ?_⟩
  refine thn (he.run pins s σ H _ I h) fun v s1 ⟨x, H1, I1, rx, a, i, j, ex, ha, ⟨b1, b2, b3, b4⟩, q⟩ => ?_
  subst ex
  cases rx
  obtain ⟨t, u, v, ga⟩ := (show ObjOk X.prog X.w H1 s1.heap a (.rng i j) from I1.hok a _ ha)
  refine wpAny_pyIter_range (show IsRange s1.heap a i j 1 t u v from ga) (small_one b1 b2 b3 b4) ?_
  refine ⟨s1.heap.objs.size, [s1.heap.objs.size], _, _, H1, rfl, I1.kept (t' := s1.toks) fun b o e => Heap.get?_push_of_some _ e, turn_range _ i (j - i).toNat, ?_, fun b hb => ?_, q⟩
  · have e1 : i + ((0 : Nat) : Int) * 1 = i := by simp
    have e2 : (((j - i).toNat : Nat) : Int) - ((0 : Nat) : Int) = Builtin.Range.rangeSize i j 1 := by rw [rangeSize_one]; split <;> omega
    show IsRangeIter _ _ (i + ((0 : Nat) : Int) * 1) ((((j - i).toNat : Nat) : Int) - ((0 : Nat) : Int)) 1
    rw [e1, e2]
    exact Heap.get?_push_size _ rfl
  · have z : b = s1.heap.objs.size := by simpa using hb
    subst z
    exact I1.fpOk (Nat.le_refl _) (I1.hok.fresh (Nat.le_refl _))
theorem pfi_rngV {E : L2.St → XK} {tg e : Expr} {a : FE} (ha : PF X ah E e a) : PFI X ah E tg e (iRv a) := by
  obtain ⟨t, q, r⟩ := ha
  refine ⟨_, pi_rngV q, ?_⟩
  refine RG.bind (r := fun σ x H1 (R : It → Hp → Prop) => ∃ a i j, x = V.ref a ∧ H1 a = some (.rng i j) ∧ (-(2 ^ 62) ≤ i ∧ i < 2 ^ 62 ∧ -(2 ^ 62) ≤ j ∧ j < 2 ^ 62) ∧ R (Itr i (j - i).toNat) H1) (k := fun ρ x g1 => lift (rngOf x) g1) r fun F ρ g σ H S Q x d e R hx G => ?_
  unfold rngOf at G
  split at G
  · rename_i i j
    cases hx with
    | rng h =>
      by_cases hb : ck (-(2 ^ 62) ≤ i ∧ i < 2 ^ 62 ∧ -(2 ^ 62) ≤ j ∧ j < 2 ^ 62) = true
      · rw [if_pos hb] at G
        exact ⟨_, i, j, rfl, R.sub _ _ h, of_ck hb, G.ret R (walk_rng i _)⟩
      · rw [if_neg hb] at G; exact G.elim
  · exact G.elim
theorem pf_rng1 {E : L2.St → XK} {e : Expr} {a : FA} {p pos : Pos} (hm : X.mg "range" = none) (ha : PFA X ah E [e] a) (hg : Gl X "range" := by rfl) (he : starEach [e] X.env = (false, eval e X.env) :: starEach [] X.env := by rfl)
    (hpl : (backTo pos (starEach [] X.env)).any (·.1) = false := by rfl) : PF X ah E (.Call (.Name "range" p) [e] [] pos) (cCall rngV a) :=
  pf_callTy cr_range1 cs_range1 hm (by decide +kernel) ha hg (by decide) (by decide) he hpl
end
end FD
set_option Elab.async false
set_option linter.all false
set_option maxRecDepth 100000
set_option maxHeartbeats 2000000
namespace FD
open PySem PySem.Spec PyProof.Rows L2
/-! # A law whose body asks that nothing is being shown: the call from outside alone -/
/-- what a def's body does where nothing is being shown -/
def BodyG (P : Program) (w : World) (K : PySem.W.Frag) (mg : Str → Option Value) (base : Heap) (N : List Str) (x : Str) (st : Stmt) (k : Nat) (f : Addr) (sp : Sp) : Prop :=
  ∀ (cdv : Value) (A : Around) (outer : List Env) (s : Shared) (H : Hp) (vs : List V) (Q : VK) (E : XK), A.guards = some [] → Room k (A.deeper (envOfC x (defScope st) s.heap.objs.size f cdv)) → sp vs H Q E →
    ∃ t, PSs (cxOf CX0 P w K mg base N x (defScope st) f cdv A outer s H E) (defBody st) t ∧ t { nx := fun _ H' => Q .non H', rt := Q } (start N vs) H
theorem bodyG_call {P : Program} {w : World} {K : PySem.W.Frag} {mg : Str → Option Value} {base : Heap} {x : Str} {st : Stmt} {f : Addr} {fd : FuncData} {N ps : List Str} {k : Nat} {sp : Sp} (F : Fun K x x st f fd) (Sc : FnScope N ps (defScope st))
    (B : BodyG P w K mg base N x st k f sp) {A : Around} {outer : List Env} {s : Shared} {H : Hp} {args : Args} {us : List Value} {vs : List V} {Q : VK} {E : XK} (hgd : A.guards = some []) (hr : Room (k + 1) A) (ev : Env0 P w K mg base A outer s H) (hb : BindsTo s fd args (ps.zip us)) (rv : Vals vs us) (hl : vs.length = ps.length) (hsp : sp vs H Q E) :
    codeAny (model P w) A (.call (.ref f) args) (CR CX0 outer P w H s Q E) s := by
  obtain ⟨oc, od, kV, doc, pm, an, cdv, ct, osl, rfl, lk, hcd⟩ := F.ex
  have inK : K.In s.heap := ev.mod.kin.keeps fun b o z => (ev.bs b o z).1
  have nolim : s.heap.NoLimit := ev.mod.nolimit.keeps fun b o z => (ev.bs b o z).1
  have kinds : ∀ y ∈ ps.zip us, (defScope st).names.lookup y.1 = some .local ∨ ((defScope st).names.lookup y.1 = some .cell ∧ ((cellsFrom (s.heap.objs.size + 1) (defScope st).names []).lookup y.1).isSome = true) := fun y hy => by
    obtain ⟨m, v⟩ := y
    rcases Sc.par m (List.of_mem_zip hy).1 with z | z
    · exact .inl z
    · exact .inr ⟨z, PySem.W.cellsFrom_some _ _ _ (.inl z)⟩
  refine codeAny_call_function hr.depth (inK _ _ lk) rfl Sc.co Sc.gen rfl (PySem.W.codeRec_of inK hcd) (hb _ _ _ _ ?_)
  refine wpAny_newFunctionEnv_cells Sc.kind kinds fun env ee s1 ic => ?_
  subst ee
  refine ⟨nolim.keeps ic.toInCall.keep, codeAny_func ?_⟩
  obtain ⟨t, pt, tq⟩ := B cdv A outer s H vs Q E hgd (hr.deeper _) hsp
  have I0 : Inv (cxOf CX0 P w K mg base N x (defScope st) f cdv A outer s H E) [] (start N vs) H s1 := inv_start Sc hr.hd ev hl rv ic
  refine wpAny_mono (pt.run [] s1 (start N vs) H _ I0 tq) (fun fl s' z => ?_) fun e s' z => z
  cases fl with
  | ret u =>
    obtain ⟨v, σ', H', J, r1, q⟩ := z
    exact ⟨v, H', J.os, J.bare, J.base, J.hok, r1, q⟩
  | next =>
    obtain ⟨σ', H', J, q⟩ := z
    exact ⟨V.non, H', J.os, J.bare, J.base, J.hok, rfl, q⟩
  | brk =>
    obtain ⟨_, _, _, q⟩ := z
    exact q.elim
  | cont =>
    obtain ⟨_, _, _, q⟩ := z
    exact q.elim
/-- the heap at the call from outside: at most the script is tracked -/
theorem outside {P : Program} {w : World} {K : PySem.W.Frag} {mg mb : Str → Option Value} {a : Addr} {s₁ : Shared} {vs : List Value} {ns : List Int} (KX : K.In s₁.heap) (hns : s₁.heap.Ns mainGlobals mg) (hb : s₁.heap.Ns builtinsNs mb) (hbb : ∀ x : Str, x ≠ "__name__" → mb x = bootBuiltins x) (hlim : s₁.heap.NoLimit) (hg : s₁.gens = #[])
    (ha : s₁.heap.get? a = some { cls := .type "list", data := .seq vs.toArray }) (hi : IntsAre vs ns) (hl : ns.length ≤ sizeLine) :
    ∃ (H : Hp) (base : Heap), Only H ∧ SqL K H a (ns.map V.int) ∧ K.In base ∧ base.Ns mainGlobals mg ∧ Env0 P w K mg base callerA [] s₁ H := by
  have rv := vals_ints hi
  have lenV := hi.length
  have make : ∀ H : Hp, Only H → SqL K H a (ns.map V.int) → HOk P w H s₁.heap → (∀ b, H b ≠ none → b = a) → (H a ≠ none → K.lookup a = none) → ∃ (H : Hp) (base : Heap), Only H ∧ SqL K H a (ns.map V.int) ∧ K.In base ∧ base.Ns mainGlobals mg ∧ Env0 P w K mg base callerA [] s₁ H := fun H hO hS ok only notK => by
    have stay : ∀ {b : Addr} {o : Obj} {es : Array DictEntry} {ep : Nat}, s₁.heap.get? b = some o → o.data = .dict es ep → (hidT s₁.heap H).get? b = some o := fun {b o es ep} z dt => by
      refine hidT_get z ?_
      cases hz : H b with
      | none => rfl
      | some u =>
        have hb : b = a := only b (by rw [hz]; exact Option.some_ne_none _)
        rw [hb, ha] at z
        cases z
        cases dt
    have space : ∀ {b : Addr} {m : Str → Option Value}, s₁.heap.Ns b m → (hidT s₁.heap H).Ns b m := fun {b m} ⟨o, es, ep, z, dt, rest⟩ => ⟨o, es, ep, stay z dt, dt, rest⟩
    have inB : K.In (hidT s₁.heap H) := fun b o z => by
      refine hidT_get (KX b o z) ?_
      cases hz : H b with
      | none => rfl
      | some u =>
        have hb : b = a := only b (by rw [hz]; exact Option.some_ne_none _)
        subst hb
        rw [notK (by rw [hz]; exact Option.some_ne_none _)] at z
        cases z
    refine ⟨H, hidT s₁.heap H, hO, hS, inB, space hns, ⟨rfl, ⟨inB, space hns, ⟨mb, space hb, hbb⟩, ?_⟩, fun b o z => of_hidT z, Nat.le_of_eq (hidT_size _ _), trivial, fun b z => ?_, ok, .of_eq hg⟩⟩
    · obtain ⟨mc, n1, n2⟩ := hlim
      exact ⟨mc, space n1, n2⟩
    · exact absurd (show b ∈ ([] : List Addr) from z) List.not_mem_nil
  cases hk : K.lookup a with
  | some o =>
    have z := KX a o hk
    rw [ha] at z
    cases z
    exact make (fun _ => none) (fun _ => .inl rfl) (.inr ⟨_, vs.toArray, _, hk, rfl, rfl, rfl, by rw [List.size_toArray, lenV]; exact hl, by simpa using rv⟩) (fun b u z => nomatch (show (none : Option HO) = some u from z)) (fun b z => absurd rfl z) fun z => absurd rfl z
  | none =>
    have same : ∀ b u, (if b = a then some (HO.frz { cls := .type "list", data := .seq vs.toArray } (.lst (ns.map V.int))) else none) = some u → b = a ∧ u = HO.frz { cls := .type "list", data := .seq vs.toArray } (.lst (ns.map V.int)) := fun b u z => by
      by_cases hb : b = a
      · rw [if_pos hb] at z; exact ⟨hb, (Option.some.inj z).symm⟩
      · rw [if_neg hb] at z; cases z
    refine make (fun b => if b = a then some (.frz { cls := .type "list", data := .seq vs.toArray } (.lst (ns.map V.int))) else none) (fun b => ?_) (.inl (.inr ⟨_, if_pos rfl⟩)) (fun b u z => ?_) (fun b z => ?_) fun _ => hk
    · by_cases hb : b = a
      · exact .inr ⟨_, _, if_pos hb⟩
      · exact .inl (if_neg hb)
    · obtain ⟨rfl, rfl⟩ := same b u z
      exact ⟨ha, by rw [List.length_map]; exact hl, vs, _, rv, ha⟩
    · cases hz : (if b = a then some (HO.frz { cls := .type "list", data := .seq vs.toArray } (.lst (ns.map V.int))) else none) with
      | none => exact absurd hz z
      | some u => exact (same b u hz).1
theorem walk_G {l : PySem.W.OpenLaw} {n k : Nat} {q : Program} {loose : List Str} {XP : (Str → Option Value) → Heap → Prop} {YP : World → Heap → Prop} {d : DefRec} {x : Str} (hn : l.most = some n) (hn2 : n ≤ sizeLine) (hdf : d.params.defaults = []) (hr : Room (k + 1) callerA)
    (F : ∀ (w : World) (mg : Str → Option Value) (fa : Addr) (h : Heap), YP w h → h.Ns mainGlobals mg → mg d.name = some (.ref fa) →
      ∃ (K : PySem.W.Frag) (y : Str) (st : Stmt) (fd : FuncData) (N : List Str) (sp : Sp), K.In h ∧ Fun K y y st fa fd ∧ FnScope N [x] (defScope st) ∧ (∀ (s : Shared) (u : Value), BindsTo s fd ⟨[u], []⟩ [(x, u)]) ∧
        (∀ (H : Hp) (a : Addr) (ns : List Int), ns.length ≤ n → SqL K H a (ns.map V.int) → sp [.ref a] H (fun v _ => v = .bl true) fun _ _ _ => False) ∧
        ∀ base : Heap, K.In base → base.Ns mainGlobals mg → BodyG l.prog w K mg base N y st k fa sp) :
    PySem.W.WalkO q loose XP YP l.row.toRowW d [] (fun f vs => PySem.call f vs) := by
  refine Att.attach_call hn hdf fun w s₀ s₁ mg mb fa o pm cd doc a vs ns G Y ho hd hcd hmg hobj hints hlen hg => ?_
  obtain ⟨K, y, st, fd, N, sp, KX, Fu, Sc, hb, hsp, hB⟩ := F w mg fa _ Y G.T.g hmg
  obtain ⟨H, base, hO, hS, inB, nsB, ev⟩ := outside (P := l.prog) (w := w) KX G.T.g G.T.b G.T.builtins G.T.nolimit hg hobj hints (Nat.le_trans hlen hn2)
  refine codeAny_mono (bodyG_call Fu Sc (hB base inB nsB) (args := ⟨[.ref a], []⟩) (us := [.ref a]) (vs := [V.ref a]) rfl hr ev (hb s₁ (.ref a)) (.cons (show L2.RelV (V.ref a) (Value.ref a) from rfl) .nil) rfl (hsp H a ns hlen hS)) fun r s' z => ?_
  cases r with
  | error e => exact False.elim z
  | ok fl =>
    cases fl with
    | next => exact False.elim z
    | brk => exact False.elim z
    | cont => exact False.elim z
    | ret u =>
      obtain ⟨v, H', os, bare, un, ok', rv, qv⟩ := z
      have ev2 : v = .bl true := qv
      subst ev2
      cases (show u = Value.bool true from rv)
      refine ⟨rfl, OldK.of_keep fun b o zb => ?_, os, bare⟩
      rcases hO b with hz | ⟨ob, xs, hz⟩
      · exact un.keep b o zb hz (fun m => absurd (show b ∈ ([] : List Addr) from m) List.not_mem_nil) (fun m => absurd m List.not_mem_nil)
      · obtain ⟨e1, _⟩ := ev.hok b _ hz
        obtain ⟨e2, _⟩ := ok' b _ (un.frzs b ob _ hz)
        rw [zb] at e1
        cases e1
        exact e2
end FD
set_option Elab.async false
set_option linter.all false
set_option maxRecDepth 100000
set_option maxHeartbeats 2000000
namespace FD
open PySem PySem.Spec PyProof.Rows L2
/-! # repr(d) of data, where nothing is being shown -/
section
variable {X : Cx} {ah : Option Addr} {c : DC}
abbrev rReprD (K : PySem.W.Frag) : List V → Hp → VK → Prop := fun xs H Q => ∃ v p, xs = [v] ∧ Dp K H v p ∧ SeqAt.shaped p = true ∧ p.showable = true ∧ p.shown.length ≤ sizeLine ∧ Q (.str p.shown) H
theorem call_reprD (hg : X.A.guards = some []) (hu : X.A.units + 66 < cLine) : CallR X (.builtin "repr") (rReprD X.K) := by
  intro pins s σ H xs us Q I r h
  obtain ⟨v, p, rfl, hd, hs, hw, hz, q⟩ := h
  obtain ⟨u, rfl, ru⟩ := vals1 r
  have dep := SeqAt.depth_of_shaped hs
  have nod := PyData.hasDict_of_canLay p (SeqAt.canLay_of_shaped hs)
  obtain ⟨as, rd⟩ := Dp.reads I p v u hd ru
  cases hd with
  | non => cases ru; exact PySem.P.repr_of_none ⟨.str _, H, I.tok _, ⟨_, rfl⟩, q⟩
  | bl b => cases ru; exact PySem.P.repr_of_bool ⟨.str _, H, I.tok _, ⟨_, rfl⟩, q⟩
  | int i =>
    obtain ⟨t, rfl⟩ := ru
    exact PySem.P.repr_of_int (of_decide_eq_true hw) ⟨.str _, H, I.tok _, ⟨_, rfl⟩, q⟩
  | str x =>
    obtain ⟨t, rfl⟩ := ru
    exact PySem.P.repr_of_str ⟨.str _, H, I.tok _, ⟨_, rfl⟩, q⟩ hz
  | lst h hs' =>
    cases ru
    exact repr_of_reads' rd hw (PyData.noDict_hsm nod) hg (by omega) (fun _ _ z => z) (fun h' u tk hk => ⟨.str _, H, I.kept (t' := tk) hk, ⟨_, rfl⟩, q⟩) hz
  | tup h hs' =>
    cases ru
    exact repr_of_reads' rd hw (PyData.noDict_hsm nod) hg (by omega) (fun _ _ z => z) (fun h' u tk hk => ⟨.str _, H, I.kept (t' := tk) hk, ⟨_, rfl⟩, q⟩) hz
noncomputable def reprD : List D → Option D
  | [d] => match d.py with
    | some p => if ck (SeqAt.shaped p = true ∧ p.showable = true ∧ p.shown.length ≤ sizeLine) = true then some (.str p.shown) else none
    | none => none
  | _ => none
theorem cs_repr : CallS c (rReprD c.K) reprD := by
  intro E F ρ g σ H S Q vs ds e R hx G
  subst e
  unfold reprD at G
  split at G
  · rename_i d
    split at G
    · rename_i p hp
      obtain ⟨v, rfl, hv⟩ := hx.one
      by_cases hb : ck (SeqAt.shaped p = true ∧ p.showable = true ∧ p.shown.length ≤ sizeLine) = true
      · rw [if_pos hb] at G
        obtain ⟨b1, b2, b3⟩ := of_ck hb
        exact ⟨v, p, rfl, Dp.mono R.sub (hv.py hp), b1, b2, b3, G.ret R (.str _)⟩
      · rw [if_neg hb] at G; exact G.elim
    · exact G.elim
  · exact G.elim
theorem pf_repr {E : L2.St → XK} {e : Expr} {a : FA} {p pos : Pos} (hgd : X.A.guards = some []) (hu : X.A.units + 66 < cLine) (hm : X.mg "repr" = none) (ha : PFA X ah E [e] a) (hg : Gl X "repr" := by rfl)
    (he : starEach [e] X.env = (false, eval e X.env) :: starEach [] X.env := by rfl) (hpl : (backTo pos (starEach [] X.env)).any (·.1) = false := by rfl) : PF X ah E (.Call (.Name "repr" p) [e] [] pos) (cCall reprD a) :=
  pf_callB (call_reprD hgd hu) cs_repr hm (by decide +kernel) ha hg (by decide) (by decide) he hpl
end
/-- law(script) that shows data -/
theorem law_okG {P : Program} {w : World} {K : PySem.W.Frag} {mg : Str → Option Value} {base : Heap} {x y hn : Str} {xh : Str} {st : Stmt} {f fh : Addr} {fd fdh : FuncData} {N psh : List Str} {k : Nat} {rest : List Stmt} {b : FS} {p1 p2 p3 p4 p5 : Pos} (F : Fun K x x st f fd) (Sc : FnScope N [y] (defScope st)) (hN : N = y :: hn :: N.drop 2) (hk : 1 ≤ k)
    (GH : FnOk P w K mg base CX0 1 fh fdh psh (spHand K)) (hmh : mg xh = some (.ref fh)) (hkp : PySem.W.keepIn K (.ref fh) = true) (hbh : Binds K fdh psh [])
    (hbody : defBody st = .Assign [.Name hn p1] (.Call (.Name xh p2) [.Name y p3] [] p4) p5 :: rest)
    (hg : (defScope st).names.lookup xh = some .globalImplicit) (hy : (defScope st).names.lookup y = some .local) (hh : Loc (defScope st) hn) (hd : (y == ("__debug__" : Str)) = false) (hcd : (y == ("__classdict__" : Str)) = false) (hdx : (xh == ("__debug__" : Str)) = false)
    (hb : ∀ (cdv : Value) (A : Around) (outer : List Env) (s : Shared) (H : Hp) (E : XK) (ah : Option Addr), A.guards = some [] → Room k (A.deeper (envOfC x (defScope st) s.heap.objs.size f cdv)) → PFSs ((cxOf CX0 P w K mg base N x (defScope st) f cdv A outer s H E).nox) ah E0 rest b)
    (hs : ∀ (cdv : Value) (A : Around) (outer : List Env) (s : Shared) (H : Hp) (E : XK), swapsWith (.Call (.Name xh p2) [.Name y p3] [] p4) (some (.Name hn p1)) p5.line ((cxOf CX0 P w K mg base N x (defScope st) f cdv A outer s H E).nox).env = pure false)
    (main : ∀ ns : List Int, ns.length ≤ 63 → ∃ g, b (.un :: .dt .hnd :: List.replicate (N.length - 2) .un) ⟨ns, 0, 0, 1, 0⟩ = some (.ok (.rt (.bl true)) g)) : BodyG P w K mg base N x st k f (spLaw K) := by
  intro cdv A outer s H vs Q E hgd hr h
  obtain ⟨a, ns, rfl, hS, hlen, kQ⟩ := h
  rw [hbody]
  have N0 : ((cxOf CX0 P w K mg base N x (defScope st) f cdv A outer s H E).nox).N = N := rfl
  have ch : ∀ ah, ∃ t, PSs ((cxOf CX0 P w K mg base N x (defScope st) f cdv A outer s H E).nox) rest t ∧ RS ⟨K, mg, ah⟩ E0 t b := fun ah => hb cdv A outer s H E ah hgd hr
  -- one reading, wherever the hand stands
  let tr : TS := fun Z σ H => ∃ ah, (ch ah).choose Z σ H
  have ptr : PSs ((cxOf CX0 P w K mg base N x (defScope st) f cdv A outer s H E).nox) rest tr := ⟨fun pins s' σ H' Z I ⟨ah, hw⟩ => (ch ah).choose_spec.1.run pins s' σ H' Z I hw⟩
  have i0 : ((cxOf CX0 P w K mg base N x (defScope st) f cdv A outer s H E).nox).N[0]? = some y := by rw [N0, hN]; rfl
  have i1 : ((cxOf CX0 P w K mg base N x (defScope st) f cdv A outer s H E).nox).N[1]? = some hn := by rw [N0, hN]; rfl
  refine ⟨_, PSs.nox (pss_cons (ps_set (i := 1) Sc.nd i1 hh (pe_call GH (hr.mono hk) hg hmh hkp hbh .nil pass0 (pa_cons (pe_var (i := 0) i0 (.inl hy) hd hcd) pa_nil) hdx) (hs cdv A outer s H E) (.inl rfl)) ptr), ?_⟩
  have hs0 : (start N [.ref a])[0]? = some (some (.ref a)) := by simp [L2.start]
  have hl : 2 ≤ N.length := by rw [hN]; simp
  refine ⟨_, hs0, a, ns, rfl, hS, fun q hq p hp => ⟨some p, ?_⟩⟩
  have nqp : p ≠ q := fun z => by rw [z, upd_same] at hp; cases hp
  obtain ⟨g, hm⟩ := main ns hlen
  refine (ch (some p)).choose_spec.2.run ⟨⟨K, mg, some p⟩, fun _ => none, fun _ => none⟩ (.un :: .dt .hnd :: List.replicate (N.length - 2) .un) ⟨ns, 0, 0, 1, 0⟩ _ _ (upd (fun _ => none) q (.lst (ns.map V.int))) _ rfl ?_ ?_
  · refine ⟨fun b o e => ?_, ?_, fun b o e => by simp at e, fun b e => by simp at e, fun i en h => ?_, fun i j p' xs ys h => ?_⟩
    · by_cases hb2 : b = q
      · subst hb2
        rw [upd_same] at e
        rw [upd_ne (Ne.symm nqp), upd_same]; exact e
      · rw [upd_ne hb2] at e; cases e
    · refine ⟨?_, q, ?_, ?_⟩
      · show upd (fun _ => none) q _ p = none
        rw [upd_ne nqp]
      · exact upd_same
      · exact upd_same
    · match i, h with
      | 0, h => simp at h; subst h; exact ⟨_, by rw [List.getElem?_set_ne (by decide)]; exact hs0, trivial⟩
      | 1, h =>
        simp at h; subst h
        exact ⟨some (.ref p), List.getElem?_set_self (by simp [L2.start]; omega), .ref p, rfl, .hnd rfl⟩
      | i + 2, h =>
        simp [List.getElem?_replicate] at h
        obtain ⟨h1, rfl⟩ := h
        refine ⟨none, ?_, trivial⟩
        rw [List.getElem?_set_ne (by omega)]
        simp [L2.start, List.getElem?_replicate]
        omega
    · match i, h with
      | 0, h => simp at h
      | 1, h => simp at h
      | i + 2, h => simp [List.getElem?_replicate] at h
  · rw [hm]
    intro v H' S' _ _ hv
    cases hv.blE
    exact kQ H'
/-- a constant tuple of flat things -/
def cgB (K : PySem.W.Frag) (x : Str) (dvs : List He.Dv) : Bool := He.eqO (PySem.W.nsIn K mainGlobals x) (some (some (.ref (He.ga K x)))) && He.tupB K x dvs
theorem cgB_ok {K : PySem.W.Frag} {h : Heap} {mg : Str → Option Value} {x : Str} {dvs : List He.Dv} {ds : List D} (X : K.In h) (G : h.Ns mainGlobals mg) (c : cgB K x dvs = true) (hD : ∀ (C : DC) (S : Hp), Dns C S (dvs.map (He.Dv.v K)) ds) : ConstOk K mg x (.tup ds) := by
  obtain ⟨c1, c2⟩ := He.ba c
  exact ⟨.ref (He.ga K x), _, He.glo_ok X G (x := x) c1, rfl, fun ah S => .tup (He.tupB_ok c2 S) (hD _ S)⟩
section
variable {X : Cx} {ah : Option Addr}
def sDead : FS := fun _ _ => none
def cDead : FE := fun _ _ => none
theorem pf_deadE {E : L2.St → XK} {e : Expr} : PF X ah E e cDead := pf_dead
theorem pfs_dead {E : XK} {s : Stmt} : PFS X ah E s sDead := ⟨fun _ _ _ => False, ⟨fun _ _ _ _ _ _ h => h.elim⟩, ⟨fun F ρ g σ H S Z e R G => G.elim⟩⟩
end
theorem hu66 {k : Nat} {A : Around} (hr : Room k A) : A.units + 66 < cLine := by have := hr.un; omega
end FD
set_option Elab.async false
set_option linter.all false
set_option maxRecDepth 100000
set_option maxHeartbeats 2000000
namespace FD
open PySem PySem.Spec PyProof.Rows L2
/-! # t * 1 is t itself -/
theorem tuple_once (l : Addr) (items : Array Value) (n : Nat) (sl : Array (Option Value)) (dd : Option Addr) (u : Tok) :
    Meets (Builtin.«tuple.__mul__» ⟨[.ref l, .int 1 u], []⟩) (fun _ Rr q => q.heap.get? l = some { cls := .type "tuple", dict := dd, data := .seq items n, slots := sl } ∧ Rr (.ok (.ret (Value.ref l))) q) :=
  .of_wp fun prog w A Rr q h => by
    obtain ⟨hp, gg, d, tk, os⟩ := q
    obtain ⟨hT, h⟩ := h
    have f1 := AutoSeq1.idx_int
    wp_walk using AutoSeq1.wpAny_loadPart' hT
    repeat (first
      | (refine wpAny_ite_false (by decide) ?_; wp_walk using AutoSeq1.wpAny_loadPart' hT)
      | (refine wpAny_ite_true (by simp) ?_; wp_walk using AutoSeq1.wpAny_loadPart' hT))
    exact ⟨_, rfl, h⟩
section
variable {X : Cx} {c : DC}
abbrev rOnce (K : PySem.W.Frag) : R2 := fun x y H Q => ∃ l xs, x = V.ref l ∧ y = V.int 1 ∧ SqT K H l xs ∧ Q (.ref l) H
theorem op_once : OpR X (binaryOp .Mult) (rOnce X.K) := by
  intro pins s σ H x y v u Q I rx ry h
  obtain ⟨l, xs, rfl, rfl, hT, q⟩ := h
  cases rx
  obtain ⟨t, rfl⟩ := ry
  obtain ⟨its, r, ⟨⟨cls, dd, data, sl⟩, ho, hc, n, hd⟩, hs⟩ := I.tuple hT
  simp only at hc hd
  subst hc hd
  refine wpAny_binaryOp_repeat_ref (T := "tuple") (U := "int") (by decide) ⟨_, ho, rfl⟩ (fun s' => typeIs_int s' 1 t) noFill_tuple_mul F.fills_int_mul F.slot_int_rmul repeat_tuple F.slot_int_index.lookup ?_
  refine call_meets F.slot_int_rmul (typeIs_int s 1 t) F.entry_int_rmul (F.args_int_rmul_2 _ _) (int_rmul_tuple 1 t l its.toArray n dd sl) ⟨ho, rfl, ⟨_, ho, rfl⟩, ?_⟩
  exact call_meets F.slot_tuple_mul ⟨_, ho, rfl⟩ F.entry_tuple_mul (F.args_tuple_mul_2 _ _) (tuple_once l its.toArray n sl dd t) ⟨ho, .ref l, H, I, rfl, q⟩
/-- a * b, with t * 1 -/
def mulD2 (x y : D) : Option D := match x, y with
  | .tup xs, .int 1 => some (.tup xs)
  | _, _ => mulD x y
theorem op_mulD2 : OpR X (binaryOp .Mult) (R2.or (rOnce X.K) (rMulD X.K)) := OpR.or op_once op_mulD
theorem os_mul2 : OpS c (R2.or (rOnce c.K) (rMulD c.K)) mulD2 := by
  intro E F ρ g σ H S Q x y dx dy e R hx hy G
  unfold mulD2 at G
  split at G
  · cases hy.intE
    cases hx with
    | tup h hs =>
      subst e
      exact .inl ⟨_, _, rfl, rfl, Same.tup R.sub h, G.ret R (.tup h hs)⟩
  · exact .inr (os_mul E F ρ g σ H S Q x y dx dy e R hx hy G)
end
/-! # a, b = x, y -/
section
variable {X : Cx} {ah : Option Addr} {E : XK} {c : DC}
@[simp] def sPar (i j : Nat) (a : FA) : FS := fun ρ g => (a ρ g).bd fun xs g1 => match xs with
  | [x, y] => some (.ok (.nx ((ρ.set i (.dt x)).set j (.dt y))) g1)
  | _ => none
theorem pfs_par (i j : Nat) {x y : Str} {a b : Expr} {fa : FA} {px py pt pt2 pos : Pos} {kt k2 : _} (hc : X.calm = true) (hN : X.N.Nodup) (ha : PFA X ah (fun _ => E) [a, b] fa) (hij : i ≠ j := by decide) (hi : X.N[i]? = some x := by rfl) (hj : X.N[j]? = some y := by rfl)
    (hx : X.env.scope.names.lookup x = some .local := by rfl) (hy : X.env.scope.names.lookup y = some .local := by rfl)
    (hw : swappedStores [.Tuple [.Name x px, .Name y py] kt pt] (.Tuple [a, b] k2 pt2) X.env = pure (some [x, y]) := by rfl)
    (hs : swapsWithSole [.Tuple [.Name x px, .Name y py] kt pt] (.Tuple [a, b] k2 pt2) pos.line X.env = pure false := by rfl) :
    PFS X ah E (.Assign [.Tuple [.Name x px, .Name y py] kt pt] (.Tuple [a, b] k2 pt2) pos) (sPar i j fa) := by
  obtain ⟨t, p, r⟩ := ha
  refine ⟨_, ps_par hc hN hi hj hij hx hy p hw hs, ?_⟩
  refine RS.bind (r := fun Z σ vs H1 => ∃ v w, vs = [v, w] ∧ Z.nx ((σ.set i (some v)).set j (some w)) H1) (k := fun ρ xs g1 => match xs with
    | [x, y] => some (.ok (.nx ((ρ.set i (.dt x)).set j (.dt y))) g1)
    | _ => none) r fun F ρ g σ H S Z vs ds e R hx G => ?_
  split at G
  · obtain ⟨v, w, rfl, h1, h2⟩ := hx.two
    rw [← e] at h1 h2
    exact ⟨v, w, rfl, G _ H S (Same.refl S) ((R.set i h1).set j h2)⟩
  · exact G.elim
end
end FD
set_option Elab.async false
set_option linter.all false
set_option maxRecDepth 100000
set_option maxHeartbeats 2000000
namespace FD
open PySem L2 PyProof.Rows
/-! # Dicts by whole numbers that one name alone holds -/
def dIx : List Int → List D → Int → Option D
  | k :: ks, d :: ds, n => if k = n then some d else dIx ks ds n
  | _, _, _ => none
def dKs (ks : List Int) (n : Int) : List Int := if ks.contains n = true then ks else ks ++ [n]
def dWith {α : Type} : List Int → List α → Int → α → List α
  | k :: ks, d :: ds, n, y => (if k = n then y else d) :: dWith ks ds n y
  | _, _, _, _ => []
def dXs {α : Type} (ks : List Int) (xs : List α) (n : Int) (y : α) : List α := if ks.contains n = true then dWith ks xs n y else xs ++ [y]
theorem kvO_any (n : Int) : ∀ (ks : List Int) (vs : List V), ks.length = vs.length → ((kvO ks vs).any fun kv => decide (kv.1 = Sum.inl n)) = ks.contains n
  | [], [], _ => rfl
  | k :: ks, v :: vs, h => by
    have ih := kvO_any n ks vs (by simpa using h)
    simp only [kvO, List.any_cons, ih, List.contains_cons]
    congr 1
    by_cases e : k = n
    · subst e; simp
    · have e' : ¬ n = k := fun z => e z.symm
      simp [e, e']
theorem kvO_map (n : Int) (y : V) : ∀ (ks : List Int) (vs : List V), ks.length = vs.length → (kvO ks vs).map (fun kv => if kv.1 = Sum.inl n then (kv.1, y) else kv) = kvO ks (dWith ks vs n y)
  | [], [], _ => rfl
  | k :: ks, v :: vs, h => by
    have ih := kvO_map n y ks vs (by simpa using h)
    simp only [kvO, List.map_cons, ih, dWith]
    by_cases e : k = n
    · subst e; simp
    · have : ¬ ((Sum.inl k : Key) = Sum.inl n) := fun z => e (Sum.inl.inj z)
      rw [if_neg this, if_neg e]
theorem kvO_app (n : Int) (y : V) : ∀ (ks : List Int) (vs : List V), ks.length = vs.length → kvO ks vs ++ [(Sum.inl n, y)] = kvO (ks ++ [n]) (vs ++ [y])
  | [], [], _ => rfl
  | k :: ks, v :: vs, h => by
    have ih := kvO_app n y ks vs (by simpa using h)
    simp only [kvO, List.cons_append, ih]
theorem kvO_put (n : Int) (y : V) {ks : List Int} {vs : List V} (h : ks.length = vs.length) : putK (kvO ks vs) (Sum.inl n) y = kvO (dKs ks n) (dXs ks vs n y) := by
  unfold putK dKs dXs
  rw [kvO_any n ks vs h]
  by_cases c : ks.contains n = true
  · rw [if_pos c, if_pos c, if_pos c, kvO_map n y ks vs h]
  · rw [if_neg c, if_neg c, if_neg c, kvO_app n y ks vs h]
theorem kvO_len : ∀ (ks : List Int) (vs : List V), ks.length = vs.length → (kvO ks vs).length = ks.length
  | [], [], _ => rfl
  | k :: ks, v :: vs, h => by
    have ih := kvO_len ks vs (by simpa using h)
    simp only [kvO, List.length_cons, ih]
theorem kvO_val {c : DC} {S : Hp} (n : Int) : ∀ {ks : List Int} {vs : List V} {ds : List D} {d : D}, Dns c S vs ds → dIx ks ds n = some d → ∃ v, valV (kvO ks vs) (Sum.inl n) = some v ∧ Dn c S v d
  | [], _, _, _, _, e => by simp [dIx] at e
  | k :: ks, _, _, _, .nil, e => by simp [dIx] at e
  | k :: ks, _, _, _, .cons (v := v) h hs, e => by
    simp only [dIx] at e
    simp only [kvO]
    by_cases q : k = n
    · subst q
      rw [if_pos rfl] at e
      cases e
      exact ⟨v, valV_pos rfl, h⟩
    · rw [if_neg q] at e
      rw [valV_neg (fun z => q (Sum.inl.inj z))]
      exact kvO_val n hs e
theorem Dns.dWith {c : DC} {S : Hp} {n : Int} {y : V} {dy : D} (hy : Dn c S y dy) : ∀ (ks : List Int) {vs : List V} {ds : List D}, Dns c S vs ds → Dns c S (FD.dWith ks vs n y) (FD.dWith ks ds n dy)
  | [], _, _, _ => .nil
  | k :: ks, _, _, .nil => .nil
  | k :: ks, _, _, .cons h hs => by
    refine .cons ?_ (Dns.dWith hy ks hs)
    by_cases q : k = n
    · rw [if_pos q, if_pos q]; exact hy
    · rw [if_neg q, if_neg q]; exact h
theorem Dns.dXs {c : DC} {S : Hp} {n : Int} {y : V} {dy : D} (hy : Dn c S y dy) (ks : List Int) {vs : List V} {ds : List D} (hs : Dns c S vs ds) : Dns c S (FD.dXs ks vs n y) (FD.dXs ks ds n dy) := by
  unfold FD.dXs
  by_cases q : ks.contains n = true
  · rw [if_pos q, if_pos q]; exact Dns.dWith hy ks hs
  · rw [if_neg q, if_neg q]; exact hs.append (.cons hy .nil)
section
variable {X : Cx} {ah : Option Addr} {E : XK} {Es : L2.St → XK} {c : DC}
/-- x = {} -/
@[simp] def sOwnd (i : Nat) : FS := fun ρ g => some (.ok (.nx (ρ.set i (.ownd [] []))) g)
theorem pfs_ownd (i : Nat) {x : Str} {pos pos' lpos : Pos} (hN : X.N.Nodup) (hi : X.N[i]? = some x := by rfl) (hx : Loc X.env.scope x := by first | exact Or.inl rfl | exact Or.inr rfl) (hs : swapsWith (.Dict [] [] lpos) (some (.Name x pos')) pos.line X.env = pure false := by rfl)
    (hf : X.fn x = true ∨ X.env.scope.names.lookup x = some .local := by first | exact .inl rfl | exact .inr rfl) : PFS X ah E (.Assign [.Name x pos'] (.Dict [] [] lpos) pos) (sOwnd i) := by
  refine ⟨_, ps_set hN hi hx pe_dnewK hs hf, ⟨fun F ρ g σ H S Z e R G => ?_⟩⟩
  exact fun p hp => G _ _ S (Same.refl S) (R.setHold (kx := some []) i hp .nil)
/-- x[e] = a -/
@[simp] def sDSet (i : Nat) (b a : FE) : FS := fun ρ g => (a ρ g).bd fun y g1 => match ρ[i]? with
  | some (.hold (some ks) xs) => (b ρ g1).bd fun k g2 => match k with
    | .int n => if ks.length = xs.length ∧ ks.length ≤ 1000 then some (.ok (.nx (ρ.set i (.ownd (dKs ks n) (dXs ks xs n y)))) g2) else none
    | _ => none
  | _ => none
theorem pfs_dset (i : Nat) {x : Str} {e1 e2 : Expr} {a b : FE} {p1 p2 pos : Pos} (hu : X.A.units + 64 < cLine) (hb : PF X ah (fun _ => E) e1 b) (ha : PF X ah (fun _ => E) e2 a) (hN : X.N[i]? = some x := by rfl) (hv : Vis X.env.scope x := by first | exact Or.inl rfl | exact Or.inr (Or.inl rfl) | exact Or.inr (Or.inr rfl)) (hd : (x == ("__debug__" : Str)) = false := by decide)
    (hcd : (x == ("__classdict__" : Str)) = false := by decide)
    (hs : swapsWith e2 (some (.Subscript (.Name x p1) e1 p2)) pos.line X.env = pure false := by rfl) : PFS X ah E (.Assign [.Subscript (.Name x p1) e1 p2] e2 pos) (sDSet i b a) := by
  obtain ⟨t, q, r⟩ := ha
  obtain ⟨t2, q2, r2⟩ := hb
  refine ⟨_, ps_dput (by omega) (pe_var hN hv hd hcd) q2 q hs, ⟨fun F ρ g σ H S Z e R G => ?_⟩⟩
  simp only [sDSet] at G
  refine r.stepS e R G fun H1 S1 g1 y d sm R1 hy G => ?_
  split at G
  case h_2 => exact G.elim
  rename_i ks xs hi
  obtain ⟨so, h1, p, vs, rfl, h2, h3, h4, h5, h6⟩ := R1.slots i _ hi
  refine ⟨.ref p, h1, ?_⟩
  refine r2.stepS e R1 G fun H2 S2 g2 k dk sm2 R2 hk G => ?_
  split at G
  case h_2 => exact G.elim
  rename_i n
  cases hk.intE
  by_cases hl : ks.length = xs.length ∧ ks.length ≤ 1000
  case neg => rw [if_neg hl] at G; exact G.elim
  rw [if_pos hl] at G
  obtain ⟨so, k1, p', ws, k0, k2, k3, k4, k5, k6⟩ := R2.slots i _ hi
  rw [h1] at k1; cases k1; cases k0
  have hlen : ks.length = ws.length := by rw [k6.length]; exact hl.1
  have k5' : H2 p = some (.dK (kvO ks ws)) := k5
  refine ⟨p, upd H2 p (.dK (putK (kvO ks ws) (Sum.inl n) y)), rfl, DPut.k (k := Sum.inl n) k5' (by rw [kvO_len _ _ hlen]; exact small1000 hl.2), ?_⟩
  rw [kvO_put n y hlen]
  exact G _ _ S2 (Same.refl _) (R2.writeHold (kz := some (dKs ks n)) hi h1 (Dns.dXs ((e ▸ hy).mono sm2) ks k6))
/-- x[e] -/
@[simp] def cDIx (i : Nat) (b : FE) : FE := fun ρ g => match ρ[i]? with
  | some (.hold (some ks) xs) => (b ρ g).bd fun k g2 => match k with
    | .int n => lift (dIx ks xs n) g2
    | _ => none
  | _ => none
theorem pf_dix (i : Nat) {x : Str} {e1 : Expr} {b : FE} {p1 pos : Pos} (hu : X.A.units + 64 < cLine) (hb : PF X ah Es e1 b) (hS : NoSl e1) (hN : X.N[i]? = some x := by rfl) (hv : Vis X.env.scope x := by first | exact Or.inl rfl | exact Or.inr (Or.inl rfl) | exact Or.inr (Or.inr rfl)) (hd : (x == ("__debug__" : Str)) = false := by decide)
    (hcd : (x == ("__classdict__" : Str)) = false := by decide) : PF X ah Es (.Subscript (.Name x p1) e1 pos) (cDIx i b) := by
  obtain ⟨t2, q2, r2⟩ := hb
  refine ⟨_, pe_dget (by omega) (pe_var hN hv hd hcd) q2 hS, ⟨fun F ρ g σ H S Q e R G => ?_⟩⟩
  simp only [cDIx] at G
  split at G
  case h_2 => exact G.elim
  rename_i ks xs hi
  obtain ⟨so, h1, p, vs, rfl, h2, h3, h4, h5, h6⟩ := R.slots i _ hi
  refine ⟨.ref p, h1, ?_⟩
  refine r2.step e R G fun H2 S2 g2 k dk sm2 R2 hk G => ?_
  split at G
  case h_2 => exact G.elim
  rename_i n
  cases hk.intE
  obtain ⟨so, k1, p', ws, k0, k2, k3, k4, k5, k6⟩ := R2.slots i _ hi
  rw [h1] at k1; cases k1; cases k0
  cases ho : dIx ks xs n with
  | none => rw [ho] at G; exact G.elim
  | some d =>
    rw [ho] at G
    obtain ⟨v, e1, e2⟩ := kvO_val n k6 ho
    have k5' : H2 p = some (.dK (kvO ks ws)) := k5
    exact ⟨p, v, rfl, e1 ▸ DGet.k (k := Sum.inl n) k5', G.ret R2 e2⟩
/-- x[e] += a, whole numbers -/
@[simp] def sDAdd (i : Nat) (b a : FE) : FS := fun ρ g => match ρ[i]? with
  | some (.hold (some ks) xs) => (b ρ g).bd fun k g1 => match k with
    | .int n => match dIx ks xs n with
      | some (.int z) => (a ρ g1).bd fun y g2 => match y with
        | .int u => if ks.length = xs.length ∧ ks.length ≤ 1000 then some (.ok (.nx (ρ.set i (.ownd (dKs ks n) (dXs ks xs n (.int (z + u)))))) g2) else none
        | _ => none
      | _ => none
    | _ => none
  | _ => none
theorem pfs_dadd (i : Nat) {x : Str} {e1 e2 : Expr} {a b : FE} {p1 p2 pos : Pos} (hu : X.A.units + 64 < cLine) (hb : PF X ah (fun _ => E) e1 b) (ha : PF X ah (fun _ => E) e2 a) (hN : X.N[i]? = some x := by rfl) (hv : Vis X.env.scope x := by first | exact Or.inl rfl | exact Or.inr (Or.inl rfl) | exact Or.inr (Or.inr rfl)) (hd : (x == ("__debug__" : Str)) = false := by decide)
    (hcd : (x == ("__classdict__" : Str)) = false := by decide)
    (hau : ∀ ov iv new, augStore e1 ov iv new = (do holding [new, ov, iv] (setItem ov iv new); release [new, ov, iv] []; pure .next) := by intro _ _ _; rfl) : PFS X ah E (.AugAssign (.Subscript (.Name x p1) e1 p2) .Add e2 pos) (sDAdd i b a) := by
  obtain ⟨t, q, r⟩ := ha
  obtain ⟨t2, q2, r2⟩ := hb
  refine ⟨_, ps_daug (by omega) (pe_var hN hv hd hcd) q2 q in_add hau, ⟨fun F ρ g σ H S Z e R G => ?_⟩⟩
  simp only [sDAdd] at G
  split at G
  case h_2 => exact G.elim
  rename_i ks xs hi
  obtain ⟨so, h1, p, vs, rfl, h2, h3, h4, h5, h6⟩ := R.slots i _ hi
  refine ⟨.ref p, h1, ?_⟩
  refine r2.stepS e R G fun H2 S2 g2 k dk sm2 R2 hk G => ?_
  split at G
  case h_2 => exact G.elim
  rename_i n
  cases hk.intE
  split at G
  case h_2 => exact G.elim
  rename_i z ho
  obtain ⟨so, k1, p', ws, k0, k2, k3, k4, k5, k6⟩ := R2.slots i _ hi
  rw [h1] at k1; cases k1; cases k0
  obtain ⟨v, e1, e2⟩ := kvO_val n k6 ho
  cases e2.intE
  have k5' : H2 p = some (.dK (kvO ks ws)) := k5
  refine ⟨p, .int z, rfl, e1 ▸ DGet.k (k := Sum.inl n) k5', ?_⟩
  refine r.stepS e R2 G fun H3 S3 g3 y d sm R3 hy G => ?_
  split at G
  case h_2 => exact G.elim
  rename_i u
  cases hy.intE
  refine ⟨z, u, rfl, rfl, ?_⟩
  by_cases hl : ks.length = xs.length ∧ ks.length ≤ 1000
  case neg => rw [if_neg hl] at G; exact G.elim
  rw [if_pos hl] at G
  obtain ⟨so, m1, p', us, m0, m2, m3, m4, m5, m6⟩ := R3.slots i _ hi
  rw [h1] at m1; cases m1; cases m0
  have hlen : ks.length = us.length := by rw [m6.length]; exact hl.1
  have m5' : H3 p = some (.dK (kvO ks us)) := m5
  refine ⟨upd H3 p (.dK (putK (kvO ks us) (Sum.inl n) (.int (z + u)))), DPut.k (k := Sum.inl n) m5' (by rw [kvO_len _ _ hlen]; exact small1000 hl.2), ?_⟩
  rw [kvO_put n (.int (z + u)) hlen]
  exact G _ _ S3 (Same.refl _) (R3.writeHold (kz := some (dKs ks n)) hi h1 (Dns.dXs (.int (z + u)) ks m6))
end
/-! ### isinstance(x, (T, U)) -/
def isTTD (t u : String) (d : D) : Option D := match isTyD t d, isTyD u d with
  | some (.bl a), some (.bl b) => some (.bl (a || b))
  | _, _ => none
theorem tyx_of {c : DC} {S H : Hp} {x : V} {d : D} (sub : Same S H) (hx : Dn c S x d) (ho : ∀ C, c.mg "Play" = some (.ref C) → ClsI c.K C) {t u : String} (ht : t = "int" ∨ t = "bool" ∨ t = "str" ∨ t = "tuple" ∨ t = "list") (hu : u = "int" ∨ u = "bool" ∨ u = "str" ∨ u = "tuple" ∨ u = "list") {a b : Bool} (h1 : isTyD t d = some (.bl a)) (h2 : isTyD u d = some (.bl b)) :
    ∃ tv, TyX c.K H x tv ∧ PySem.W.kitOne c.K tv (.type t) = some a ∧ PySem.W.kitOne c.K tv (.type u) = some b := by
  obtain ⟨k0, k1, k2, k3, k4, k5, k6⟩ := kitB_all t ht
  obtain ⟨m0, m1, m2, m3, m4, m5, m6⟩ := kitB_all u hu
  cases hx with
  | non => simp only [isTyD, isTyB, Option.some.injEq, D.bl.injEq] at h1 h2; subst h1 h2; exact ⟨_, .base .non, kit_ty k0, kit_ty m0⟩
  | bl q => simp only [isTyD, isTyB, Option.some.injEq, D.bl.injEq] at h1 h2; subst h1 h2; exact ⟨_, .base (.bl q), kit_ty k1, kit_ty m1⟩
  | int q => simp only [isTyD, isTyB, Option.some.injEq, D.bl.injEq] at h1 h2; subst h1 h2; exact ⟨_, .base (.int q), kit_ty k2, kit_ty m2⟩
  | str q => simp only [isTyD, isTyB, Option.some.injEq, D.bl.injEq] at h1 h2; subst h1 h2; exact ⟨_, .base (.str q), kit_ty k3, kit_ty m3⟩
  | tup h hs =>
    simp only [isTyD, isTyB, Option.some.injEq, D.bl.injEq] at h1 h2; subst h1 h2
    refine ⟨.type "tuple", ?_, kit_ty k4, kit_ty m4⟩
    rcases Same.tup sub h with (h | ⟨o, h⟩) | ⟨o, its, n, h, hc, _⟩
    · exact .base (.tup h)
    · exact .fTuple h
    · exact .kTuple h hc
  | lst h hs => simp only [isTyD, isTyB, Option.some.injEq, D.bl.injEq] at h1 h2; subst h1 h2; exact ⟨_, .base (.lst (sub _ _ h)), kit_ty k5, kit_ty m5⟩
  | emp h => simp only [isTyD, isTyB, Option.some.injEq, D.bl.injEq] at h1 h2; subst h1 h2; exact ⟨_, .base (.dK (sub _ _ h)), kit_ty k6, kit_ty m6⟩
  | obj m h k hs =>
    simp only [isTyD] at h1 h2
    rename_i cn _ _ _
    by_cases hc : cn = "Play"
    case neg => rw [if_neg hc] at h1; cases h1
    rw [if_pos hc] at h1 h2
    cases h1
    cases h2
    subst hc
    have ci := ho _ m
    exact ⟨_, .base (.ins (sub _ _ h) ci.cl ci.ha ci.hn ci.htk ci.hm), ci.no t ht, ci.no u hu⟩
  | hnd h => simp [isTyD] at h1
  | rng h => simp [isTyD] at h1
  | scr h => simp [isTyD] at h1
  | dct h l hs => simp [isTyD] at h1
section
variable {X : Cx} {ah : Option Addr} {E : L2.St → XK} {c : DC}
theorem pf_isT {t u : String} {e : Expr} {a : FE} {p p1 p2 pt pos : Pos} {kk : Nat} (ht : t = "int" ∨ t = "bool" ∨ t = "str" ∨ t = "tuple" ∨ t = "list") (hut : u = "int" ∨ u = "bool" ∨ u = "str" ∨ u = "tuple" ∨ u = "list") (ho : ∀ C, X.mg "Play" = some (.ref C) → ClsI X.K C) (hm : X.mg "isinstance" = none)
    (hm1 : X.mg (Str.ofString t) = none) (hm2 : X.mg (Str.ofString u) = none) (hv1 : bootBuiltins (Str.ofString t) = some (.type t)) (hv2 : bootBuiltins (Str.ofString u) = some (.type u)) (ha : PF X ah E e a) (hg : Gl X "isinstance" := by rfl) (hg1 : Gl X (Str.ofString t) := by rfl) (hg2 : Gl X (Str.ofString u) := by rfl)
    (hn1 : Str.ofString t ≠ "__name__" := by decide +kernel) (hd1 : (Str.ofString t == ("__debug__" : Str)) = false := by decide +kernel) (hn2 : Str.ofString u ≠ "__name__" := by decide +kernel) (hd2 : (Str.ofString u == ("__debug__" : Str)) = false := by decide +kernel)
    (he : starEach [e, .Tuple [.Name (Str.ofString t) p1, .Name (Str.ofString u) p2] kk pt] X.env = (false, eval e X.env) :: starEach [.Tuple [.Name (Str.ofString t) p1, .Name (Str.ofString u) p2] kk pt] X.env := by rfl)
    (he2 : starEach [.Tuple [.Name (Str.ofString t) p1, .Name (Str.ofString u) p2] kk pt] X.env = (false, eval (.Tuple [.Name (Str.ofString t) p1, .Name (Str.ofString u) p2] kk pt) X.env) :: starEach [] X.env := by rfl)
    (he3 : starEach [.Name (Str.ofString t) p1, .Name (Str.ofString u) p2] X.env = (false, eval (.Name (Str.ofString t) p1) X.env) :: starEach [.Name (Str.ofString u) p2] X.env := by rfl) (he4 : starEach [.Name (Str.ofString u) p2] X.env = (false, eval (.Name (Str.ofString u) p2) X.env) :: starEach [] X.env := by rfl)
    (hpl : (backTo pos (starEach [.Tuple [.Name (Str.ofString t) p1, .Name (Str.ofString u) p2] kk pt] X.env)).any (·.1) = false := by rfl) :
    PF X ah E (.Call (.Name "isinstance" p) [e, .Tuple [.Name (Str.ofString t) p1, .Name (Str.ofString u) p2] kk pt] [] pos) (c1 (isTTD t u) a) := by
  obtain ⟨tt, q, s⟩ := ha
  refine ⟨_, pe_callB call_isiT hg hm (by decide +kernel) (pa_cons q (pa_cons (pe_tup (pa_cons (pe_bltn (v := .ty t) hg1 hm1 hv1 rfl hn1 hd1) (pa_cons (pe_bltn (v := .ty u) hg2 hm2 hv2 rfl hn2 hd2) pa_nil he4) he3)) pa_nil he2) he) (by decide) (by decide) he hpl, ?_⟩
  refine RG.bind (r := fun σ x H1 (Q : VK) => ([V.ty t, V.ty u] : List V).length ≤ sizeLine ∧ ∀ p, H1 p = none → rIsiT X.K [x, .ref p] (upd H1 p (.tup [.ty t, .ty u])) Q) (k := fun ρ x g1 => lift (isTTD t u x) g1) s fun F ρ g σ H S Q x d e R hx G => ?_
  refine ⟨line_of (by simp), fun p hp => ?_⟩
  unfold isTTD at G
  split at G
  case h_2 => exact G.elim
  rename_i b1 b2 h1 h2
  have R2 := R.up (.tup [.ty t, .ty u]) hp
  have eK : F.c.K = X.K := by rw [e]
  obtain ⟨tv, k1, k2, k3⟩ := tyx_of R2.sub (hx.mono (R.tosame _ hp)) ho ht hut h1 h2
  refine ⟨x, p, [.ty t, .ty u], tv, [.type t, .type u], b1 || b2, rfl, upd_same, .cons (.ty t) (.cons (.ty u) .nil), k1, ?_, G _ _ _ (R.tosame _ hp) R2 (.bl _)⟩
  exact kitAny_cons k2 (fun z => by subst z; exact kitAny_cons k3 (fun z => by subst z; rfl) (fun z => by subst z; rfl)) (fun z => by subst z; rfl)
end
end FD
set_option Elab.async false
set_option linter.all false
set_option maxRecDepth 100000
set_option maxHeartbeats 2000000
namespace FD
open PySem L2 PyProof.Rows
/-! # law(script) whose hand is drawn up by any def of plain data -/
theorem Dns.intsE {c : DC} {S : Hp} : ∀ {ns : List Int} {vs : List V}, Dns c S vs (ns.map D.int) → vs = ns.map V.int
  | [], _, .nil => rfl
  | n :: ns, _, .cons h hs => by
    cases h.intE
    rw [Dns.intsE hs]; rfl
theorem law_okDc {P : Program} {w : World} {K : PySem.W.Frag} {mg : Str → Option Value} {base : Heap} {x y hn : Str} {xh : Str} {st : Stmt} {f : Addr} {fd : FuncData} {N : List Str} {k kh : Nat} {rest : List Stmt} {b : FS} {Fh : List D → Gh → M D} {g0 : List Int → Gh} {p1 p2 p3 p4 p5 : Pos} (F : Fun K x x st f fd) (Sc : FnScope N [y] (defScope st)) (hN : N = y :: hn :: N.drop 2)
    (dh : DefOk P w K mg base CX0 xh kh 1 Fh) (hkh : kh ≤ k)
    (hh0 : ∀ ns g, ns.length ≤ 63 → Fh [.scr ns] g = some (.ok (.lst [.lst ((g0 ns).xs.map .int), .int (g0 ns).i, .int (g0 ns).c, .int (g0 ns).r, .int (g0 ns).n]) g))
    (hbody : defBody st = .Assign [.Name hn p1] (.Call (.Name xh p2) [.Name y p3] [] p4) p5 :: rest)
    (hg : (defScope st).names.lookup xh = some .globalImplicit) (hy : (defScope st).names.lookup y = some .local) (hh : Loc (defScope st) hn) (hhl : ∀ (cdv : Value) (A : Around) (outer : List Env) (s : Shared) (H : Hp) (E : XK), ((cxOf CX0 P w K mg base N x (defScope st) f cdv A outer s H E).nox).fn hn = true ∨ (defScope st).names.lookup hn = some .local) (hd : (y == ("__debug__" : Str)) = false) (hcd : (y == ("__classdict__" : Str)) = false) (hdx : (xh == ("__debug__" : Str)) = false)
    (hb : ∀ (cdv : Value) (A : Around) (outer : List Env) (s : Shared) (H : Hp) (E : XK) (ah : Option Addr), Room k (A.deeper (envOfC x (defScope st) s.heap.objs.size f cdv)) → PFSs ((cxOf CX0 P w K mg base N x (defScope st) f cdv A outer s H E).nox) ah E0 rest b)
    (hs : ∀ (cdv : Value) (A : Around) (outer : List Env) (s : Shared) (H : Hp) (E : XK), swapsWith (.Call (.Name xh p2) [.Name y p3] [] p4) (some (.Name hn p1)) p5.line ((cxOf CX0 P w K mg base N x (defScope st) f cdv A outer s H E).nox).env = pure false)
    (main : ∀ ns : List Int, ns.length ≤ 63 → ∃ g, b (.un :: .dt .hnd :: List.replicate (N.length - 2) .un) (g0 ns) = some (.ok (.rt (.bl true)) g)) : FnOk P w K mg base CX0 (k + 1) f fd [y] (spLaw K) := by
  refine F.ok Sc (fun vs H Q E h => ?_) (fun cdv A outer s H vs Q E hr h => ?_)
  · obtain ⟨a, xs, rfl, _⟩ := h
    rfl
  · obtain ⟨a, ns, rfl, hS, hlen, kQ⟩ := h
    rw [hbody]
    have N0 : ((cxOf CX0 P w K mg base N x (defScope st) f cdv A outer s H E).nox).N = N := rfl
    have ch : ∀ ah, ∃ t, PSs ((cxOf CX0 P w K mg base N x (defScope st) f cdv A outer s H E).nox) rest t ∧ RS ⟨K, mg, ah⟩ E0 t b := fun ah => hb cdv A outer s H E ah hr
    let tr : TS := fun Z σ H => ∃ ah, (ch ah).choose Z σ H
    have ptr : PSs ((cxOf CX0 P w K mg base N x (defScope st) f cdv A outer s H E).nox) rest tr := ⟨fun pins s' σ H' Z I ⟨ah, hw⟩ => (ch ah).choose_spec.1.run pins s' σ H' Z I hw⟩
    have i0 : ((cxOf CX0 P w K mg base N x (defScope st) f cdv A outer s H E).nox).N[0]? = some y := by rw [N0, hN]; rfl
    have i1 : ((cxOf CX0 P w K mg base N x (defScope st) f cdv A outer s H E).nox).N[1]? = some hn := by rw [N0, hN]; rfl
    have hl : 2 ≤ N.length := by rw [hN]; simp
    obtain ⟨t1, q1, r1⟩ := pfs_set (X := (cxOf CX0 P w K mg base N x (defScope st) f cdv A outer s H E).nox) (ah := none) (E := E0) (pos' := p1) (pos := p5) 1 Sc.nd (pf_call (p := p2) (pos := p4) (dh.mono hkh) hr (pfa_cons (pf_v (X := (cxOf CX0 P w K mg base N x (defScope st) f cdv A outer s H E).nox) (ah := none) (E := fun _ => E0) (pos := p3) 0 i0 (.inl hy) hd hcd) pfa_nil) hg hdx) i1 hh (hs cdv A outer s H E) (hhl cdv A outer s H E)
    refine ⟨_, pss_cons q1 ptr, ?_⟩
    have R0 : Rep ⟨⟨K, mg, none⟩, H, H⟩ [] ⟨[], 0, 0, 0, 0⟩ [] H H := ⟨Same.refl H, trivial, fun _ _ e _ => e, fun _ _ h => h, fun i e h => by simp at h, fun i j p xs ys h => by simp at h⟩
    have d0 : Dns ⟨K, mg, none⟩ H [V.ref a] [.scr ns] := .cons (.scr hS) .nil
    have R1 := Rep.start (N := N) R0 d0 (by simp; omega)
    refine r1.run ⟨⟨K, mg, none⟩, H, H⟩ _ ⟨[], 0, 0, 0, 0⟩ _ H H _ rfl R1 ?_
    have ev : sAsg (cFn 1 Fh (cC (cV 0) cN)) (gN 1) ([D.scr ns].map .dt ++ List.replicate (N.length - 1) .un) ⟨[], 0, 0, 0, 0⟩ = some (.ok (.nx (([D.scr ns].map En.dt ++ List.replicate (N.length - 1) En.un).set 1 (.dt (.lst [.lst ((g0 ns).xs.map .int), .int (g0 ns).i, .int (g0 ns).c, .int (g0 ns).r, .int (g0 ns).n])))) ⟨[], 0, 0, 0, 0⟩) := by
      have hne : N.length - 1 = (N.length - 2) + 1 := by omega
      simp [hh0 ns _ hlen, gN, hne, List.replicate_succ]
    show GotS _ _ _ _ (sAsg (cFn 1 Fh (cC (cV 0) cN)) (gN 1) ([D.scr ns].map .dt ++ List.replicate (N.length - 1) .un) ⟨[], 0, 0, 0, 0⟩)
    rw [ev]
    intro σ' H' S' sm R2
    have hne : N.length - 1 = (N.length - 2) + 1 := by omega
    rw [hne, List.replicate_succ] at R2
    have R3 : Rep ⟨⟨K, mg, none⟩, H, H⟩ (.dt (.scr ns) :: .dt (.lst [.lst ((g0 ns).xs.map .int), .int (g0 ns).i, .int (g0 ns).c, .int (g0 ns).r, .int (g0 ns).n]) :: List.replicate (N.length - 2) .un) ⟨[], 0, 0, 0, 0⟩ σ' H' S' := R2
    obtain ⟨so, s1, v, rfl, hv⟩ := R3.slots 1 _ rfl
    obtain ⟨so0, s0, _⟩ := R3.slots 0 _ rfl
    cases hv with
    | @lst p vs _ hp hvs =>
      cases hvs with | cons v0 hvs =>
      cases hvs with | cons v1 hvs =>
      cases hvs with | cons v2 hvs =>
      cases hvs with | cons v3 hvs =>
      cases hvs with | cons v4 hvs =>
      cases hvs
      cases v1.intE
      cases v2.intE
      cases v3.intE
      cases v4.intE
      cases v0 with
      | @lst q us _ hq hus =>
        have hus := Dns.intsE hus
        subst hus
        have npq : p ≠ q := fun z => by
          subst z
          rw [hp] at hq
          injection hq with hq
          injection hq with hq
          cases e : (g0 ns).xs with
          | nil => rw [e] at hq; simp at hq
          | cons n r => rw [e] at hq; simp at hq
        refine ⟨some p, ?_⟩
        obtain ⟨g, hm⟩ := main ns hlen
        refine (ch (some p)).choose_spec.2.run ⟨⟨K, mg, some p⟩, fun _ => none, fun _ => none⟩ (.un :: .dt .hnd :: List.replicate (N.length - 2) .un) (g0 ns) _ _ (upd (fun _ => none) q (.lst ((g0 ns).xs.map V.int))) _ rfl ?_ ?_
        · refine ⟨fun b o e => ?_, ?_, fun b o e => by simp at e, fun b e => by simp at e, fun i en h => ?_, fun i j p' xs ys h => ?_⟩
          · by_cases hb2 : b = q
            · subst hb2
              rw [upd_same] at e
              cases e
              exact R3.sub _ _ hq
            · rw [upd_ne hb2] at e; cases e
          · refine ⟨?_, q, R3.sub _ _ hp, upd_same⟩
            show upd (fun _ => none) q _ p = none
            rw [upd_ne npq]
          · match i, h with
            | 0, h => simp at h; subst h; exact ⟨_, s0, trivial⟩
            | 1, h => simp at h; subst h; exact ⟨_, s1, .ref p, rfl, .hnd rfl⟩
            | i + 2, h =>
              obtain ⟨so, k1, _⟩ := R3.slots (i + 2) en (by simpa using h)
              have : en = .un := by
                simp [List.getElem?_replicate] at h
                exact h.2.symm
              subst this
              exact ⟨so, k1, trivial⟩
          · match i, h with
            | 0, h => simp at h
            | 1, h => simp at h
            | i + 2, h => simp [List.getElem?_replicate] at h
        · rw [hm]
          intro v H' S' _ _ hv
          cases hv.blE
          exact kQ H'
end FD
set_option Elab.async false
set_option linter.all false
set_option maxRecDepth 100000
set_option maxHeartbeats 2000000
namespace FD
open PySem L2 PyProof.Rows
section
variable {X : Cx} {ah : Option Addr} {E : XK} {c : DC}
/-- x = [e, ..], a list that x alone holds -/
@[simp] def sOwnL (i : Nat) (a : FA) : FS := fun ρ g => (a ρ g).bd fun ys g1 => if ys.length ≤ 1000 then some (.ok (.nx (ρ.set i (.own ys))) g1) else none
theorem pfs_ownL (i : Nat) {x : Str} {es : List Expr} {a : FA} {pos pos' lpos : Pos} (hN : X.N.Nodup) (ha : PFA X ah (fun _ => E) es a) (hi : X.N[i]? = some x := by rfl) (hx : Loc X.env.scope x := by first | exact Or.inl rfl | exact Or.inr rfl) (hs : swapsWith (.List es lpos) (some (.Name x pos')) pos.line X.env = pure false := by rfl)
    (hf : X.fn x = true ∨ X.env.scope.names.lookup x = some .local := by first | exact .inl rfl | exact .inr rfl) : PFS X ah E (.Assign [.Name x pos'] (.List es lpos) pos) (sOwnL i a) := by
  obtain ⟨t, q, r⟩ := ha
  refine ⟨_, ps_set hN hi hx (pe_lst q) hs hf, ⟨fun F ρ g σ H S Z e R G => ?_⟩⟩
  simp only [sOwnL] at G
  refine r.stepS e R G fun H1 S1 g1 vs ds sm R1 hv G => ?_
  by_cases hl : ds.length ≤ 1000
  case neg => rw [if_neg hl] at G; exact G.elim
  rw [if_pos hl] at G
  exact ⟨by rw [hv.length]; exact line_of hl, fun p hp => G _ _ S1 (Same.refl S1) (R1.setOwn i hp (e ▸ hv))⟩
end
end FD
set_option Elab.async false
set_option linter.all false
set_option maxRecDepth 100000
set_option maxHeartbeats 2000000
namespace FD
open PySem L2 PyProof.Rows
section
variable {X : Cx} {ah : Option Addr} {E : L2.St → XK} {c : DC}
/-! # a list as a test -/
def toBL : D → Option Bool
  | .lst xs => some (!xs.isEmpty)
  | _ => none
@[simp] def cTL (a : FE) : FT := fun ρ g => (a ρ g).bd fun x g1 => lift (toBL x) g1
theorem pft_lst {e : Expr} {a : FE} (ha : PF X ah E e a) (he : ∀ whole, isTrue e X.env whole = (do let v ← whole; standAt e.pos; holding [v] (truthy v)) := by intro _; rfl) : PFT X ah E e (cTL a) := by
  obtain ⟨t, q, s⟩ := ha
  refine ⟨_, pt_truth q he, ?_⟩
  refine RG.bind (r := fun σ x H1 (Q : Bool → Hp → Prop) => ∃ k, TruV X.K x H1 k ∧ Q k H1) (k := fun ρ x g1 => lift (toBL x) g1) s fun F ρ g σ H S Q x d e R hx G => ?_
  cases hx with
  | @lst p vs ds h hs =>
    simp only [toBL, lift] at G
    refine ⟨!vs.isEmpty, .inl ⟨vs, SqL.of (R.sub _ _ h), rfl⟩, ?_⟩
    have el : vs.isEmpty = ds.isEmpty := by
      cases hs <;> rfl
    rw [el]
    exact G.ret R rfl
  | _ => simp only [toBL, lift] at G; exact G.elim
end
end FD
set_option Elab.async false
set_option linter.all false
set_option maxRecDepth 100000
set_option maxHeartbeats 2000000
namespace FD
open PySem L2 PyProof.Rows
/-! # own errors whose __init__ keeps nothing -/
def spExN (C : Addr) : Sp := fun vs H Q _ => ∃ a : Addr, vs = [.ref a] ∧ H a = some (exo a C none) ∧ Q .non H
def ExcOk0 (P : Program) (w : World) (K : PySem.W.Frag) (mg : Str → Option Value) (base : Heap) (x : Str) : Prop :=
  ∃ C fI fd ps, mg x = some (.ref C) ∧ OexC K C ∧ PySem.W.findIn K (.ref C) "__init__" = some (some (.ref fI)) ∧ PySem.W.typeIn K (.ref fI) = some (.type "function") ∧ FnOk P w K mg base CX0 1 fI fd ps (spExN C) ∧ Binds K fd ps [] ∧ PySem.W.exmOne K (.ref C) (.ref C) = some true
section
variable {X : Cx} {ah : Option Addr} {E : XK} {c : DC}
/-- pass, the whole body -/
theorem exc_init0 {P : Program} {w : World} {K : PySem.W.Frag} {mg : Str → Option Value} {base : Heap} {qual : Str} {st : Stmt} {fI C : Addr} {fd : FuncData} {p1 : Pos} (F : Fun K "__init__" qual st fI fd) (Sc : FnScope ["self"] ["self"] (defScope st)) (hb : defBody st = [.Pass p1]) :
    FnOk P w K mg base CX0 1 fI fd ["self"] (spExN C) := by
  refine F.ok Sc (fun vs H Q E h => ?_) (fun cdv A outer s H vs Q E hr h => ?_)
  · obtain ⟨a, rfl, _⟩ := h
    rfl
  · obtain ⟨a, rfl, ha, k⟩ := h
    rw [hb]
    exact ⟨_, pss_one ps_pass, k⟩
/-- the error is let go: it had no dict -/
theorem mk_endN {pins : List (Addr × Obj)} {σ : L2.St} {H : Hp} {Q : XK} {h0 h1 h2 : Heap} {g g2 : Array GenState} {d d2 : Drawn} {t t2 : Nat} {os os2 : OsState} {a C : Addr} (T : Raises X (.ref C)) (I : Inv X pins σ H ⟨h0, g, d, t, os⟩)
    (ha : h0.objs.size ≤ a) (k : ∀ b o, h0.get? b = some o → h1.get? b = some o) (un : Un (frs X.stack) [] (upd H a (exo a C none)) (upd H a (exo a C none)) h1 h2) (hok : HOk X.prog X.w (upd H a (exo a C none)) h2) (ho : os2 = os) (hb : AllBare g2) (q : Q (.ref C) none H) : MkP X pins σ Q (.ref a) ⟨h2, g2, d2, t2, os2⟩ := by
  obtain ⟨t0, hoe⟩ := exo_at hok upd_same
  have na : H a = none := I.hok.fresh ha
  have old : ∀ {b : Addr} {o : Obj}, h0.get? b = some o → b ≠ a := fun z => Nat.ne_of_lt (Nat.lt_of_lt_of_le (Heap.lt_size z) ha)
  obtain ⟨G, r1, r2⟩ := restrict h2 fun b => decide (b ≠ a)
  have gk : ∀ {b}, b ≠ a → G.get? b = h2.get? b := fun h => r1 _ (decide_eq_true h)
  have ga : G.get? a = none := r2 a (decide_eq_false fun h => h rfl)
  have st : ∀ {b}, b ≠ a → upd H a (exo a C none) b = H b := fun h => upd_ne h
  have U : Un (frs X.stack) [] H H h0 G := {
    keep := fun b o z n hf hx => (gk (old z)).trans (un.keep b o (k b o z) ((st (old z)).trans n) hf hx)
    slot := fun b o z n hf hx => by
      obtain ⟨sl, e⟩ := un.slot b o (k b o z) ((st (old z)).trans n) hf hx
      exact ⟨sl, (gk (old z)).trans e⟩
    free := fun b o z n hx => n
    there := fun b o z hx => by
      obtain ⟨o', e⟩ := un.there b o (k b o z) hx
      exact ⟨o', (gk (old z)).trans e⟩
    tups := fun b xs z => z
    frzs := fun b o u z => z
    tbls := fun b ps z => ⟨#[], by rw [z]; simp⟩ }
  have O : HOk X.prog X.w H G := fun b o z => by
    have ba : b ≠ a := fun e => by rw [e, na] at z; cases z
    refine (hok b o ((st ba).trans z)).stay (fun c v hc y => (gk ?_).trans y) (fun c hc => ?_) fun c xs hc => ?_
    · intro e
      rcases hc with hc | hc
      · exact ba (hc.symm.trans e)
      · rw [e, upd_same] at hc
        exact exo_own (Option.some.inj hc)
    · have ca : c ≠ a := fun e => by
        rw [e, upd_same] at hc
        exact exo_own (Option.some.inj hc)
      rw [st ca] at hc; exact hc
    · have ca : c ≠ a := fun e => by
        rw [e, upd_same] at hc
        exact exo_tup (Option.some.inj hc)
      rw [st ca] at hc; exact hc
  have J : Inv X pins σ H ⟨G, g2, d2, t2, os2⟩ := I.call' (ch := []) ho U O hb (fun b z => by simp at z)
  refine ⟨a, _, _, ⟨G, g2, d2, t2, os2⟩, _, .ref C, none, rfl, J, fun b o z => ?_, ga, hoe, ⟨rfl, rfl⟩, rfl, rfl, na, rfl, hb, T, q⟩
  by_cases ba : b = a
  · rw [ba, ga] at z; cases z
  · exact (gk ba).symm.trans z
/-- C() -/
theorem pmk_oexN {CX : CXT} {x : Str} {C fI : Addr} {k : Nat} {fd : FuncData} {ps : List Str} {p pos : Pos} (T : OexC X.K C) (iC : PySem.W.findIn X.K (.ref C) "__init__" = some (some (.ref fI))) (tI : PySem.W.typeIn X.K (.ref fI) = some (.type "function"))
    (F1 : FnOk X.prog X.w X.K X.mg X.base CX k fI fd ps (spExN C)) (hr : Room (k + 1) X.A) (hb : Binds X.K fd ps []) (hx : Passes CX X (fun _ _ _ => False)) (hg : Gl X x) (hm : X.mg x = some (.ref C)) (hdb : (x == ("__debug__" : Str)) = false := by decide) :
    PMk X (.Call (.Name x p) [] [] pos) (fun _ H Q => Q (.ref C) none H) := by
  intro pins s σ H Q I h
  obtain ⟨nm, qn, N, bs, bm, sn, sub, ab, col, dd, k0, k1, k2, k3, k5, hC, hbm⟩ := T.cls
  refine wpAny_Call_Name_kw (ld_glob I hg hm ?_ hdb)
  refine PySem.W.callWith_K0 I.kIn T.kC ?_
  show wpAny _ _ (call (.ref C) []) _ _ _
  obtain ⟨hp, g, dr, tk, os⟩ := s
  have hsz : hp.objs.size ≤ hp.objs.size + 1 := Nat.le_succ _
  have up2 : ∀ b o, hp.get? b = some o → ((hp.push (PySem.W.kdv_tup [])).push (PySem.HandSPX.excO C hp.objs.size)).get? b = some o := fun b o e => Heap.get?_push_of_some _ (Heap.get?_push_of_some _ e)
  have there : ((hp.push (PySem.W.kdv_tup [])).push (PySem.HandSPX.excO C hp.objs.size)).get? (hp.objs.size + 1) = some (PySem.HandSPX.excO C hp.objs.size) := by heap_get
  have I2 : Inv X pins σ (upd H (hp.objs.size + 1) (exo (hp.objs.size + 1) C none)) ⟨(hp.push (PySem.W.kdv_tup [])).push (PySem.HandSPX.excO C hp.objs.size), g, dr, tk, os⟩ := I.laid (t' := tk) (a := hp.objs.size + 1) (o := exo (hp.objs.size + 1) C none) (h' := (hp.push (PySem.W.kdv_tup [])).push (PySem.HandSPX.excO C hp.objs.size)) up2 hsz (exo_ok there)
  have r2 : Vals [V.ref (hp.objs.size + 1)] [Value.ref (hp.objs.size + 1)] := .cons rfl .nil
  have hq : spExN C [V.ref (hp.objs.size + 1)] (upd H (hp.objs.size + 1) (exo (hp.objs.size + 1) C none)) (fun v H2 => v = .non ∧ H2 = upd H (hp.objs.size + 1) (exo (hp.objs.size + 1) C none)) (fun _ _ _ => False) := ⟨_, rfl, upd_same, rfl, rfl⟩
  have hl : ([Value.ref (hp.objs.size + 1)] : List Value).length = ps.length := by
    have e := r2.length
    rw [F1.len _ _ _ _ hq] at e
    exact e.symm
  refine wpAny_call (PySem.HandSPX.call_own F.excBase_ValueError (fun Y => PySem.HandSPX.refsVE_contains Y bm hbm) (I.kIn _ _ hC) (PySem.W.looks_findIn I.kIn iC) (fun self => PySem.W.bind_fn I.kIn self tI) (by rw [sizeLine_eq]; simp)
    (codeAny_mono (F1.run _ X.stack _ _ ⟨[Value.ref (hp.objs.size + 1)], []⟩ [Value.ref (hp.objs.size + 1)] _ _ (fun _ _ _ => False) (hr.make C [] []) (I2.env0.make C [] []) (hb _ [Value.ref (hp.objs.size + 1)] I2.kIn (by rw [List.append_nil]; exact hl)) r2 hq) fun r s' hq' => ?_))
  cases r with
  | error er => exact hx pins σ _ _ er s' I2 hq'
  | ok fl =>
    cases fl with
    | ret u =>
      obtain ⟨v, H2, os2, bare2, un2, hok2, rv, rfl, rfl⟩ := hq'
      obtain ⟨h2, g2, d2, t2, os'⟩ := s'
      exact ⟨rv, mk_endN (raises_own T.exC T.tyC) I hsz up2 un2 hok2 os2 bare2 h⟩
    | next => exact False.elim hq'
    | brk => exact False.elim hq'
    | cont => exact False.elim hq'
/-- raise X() -/
@[simp] def sRaise0 (x : Str) : FS := fun _ g => some (.ex x [] [] g)
theorem pfs_raise0 {x : Str} {p pos rpos : Pos} (hc : X.calm = true) (tk : Takes X (fun cls d _ H => E cls d H)) (G : ExcOk0 X.prog X.w X.K X.mg X.base x) (hr : Room 2 X.A) (hg : Gl X x := by rfl) (hdb : (x == ("__debug__" : Str)) = false := by decide) :
    PFS X ah E (.Raise (some (.Call (.Name x p) [] [] pos)) none rpos) (sRaise0 x) := by
  obtain ⟨C, fI, fd, ps, hm, T, iC, tI, F, hb, _⟩ := G
  refine ⟨_, ps_raise hc tk (pmk_oexN (p := p) (CX := CX0) T iC tI F hr hb pass0 hg hm hdb), ⟨fun F ρ g σ H S Z e R G => ?_⟩⟩
  exact G C none H S (by rw [e]; exact hm) (Same.refl S) R.bare ⟨[], rfl, rfl, .nil⟩
end
/-- what the end of the top leaves of such an error -/
def excB0 (K : PySem.W.Frag) (x : Str) : Bool := He.eqO (PySem.W.nsIn K mainGlobals x) (some (some (.ref (He.ga K x)))) && (oexB K (He.ga K x) && (He.eqO (PySem.W.findIn K (.ref (He.ga K x)) "__init__") (some (some (.ref (He.ma K (He.ga K x) "__init__")))) && (decide (PySem.W.typeIn K (.ref (He.ma K (He.ga K x) "__init__")) = some (.type "function")) && decide (PySem.W.exmOne K (.ref (He.ga K x)) (.ref (He.ga K x)) = some true))))
theorem excB0_ok {P : Program} {w : World} {K : PySem.W.Frag} {h : Heap} {mg : Str → Option Value} {base : Heap} {x : Str} (X : K.In h) (G : h.Ns mainGlobals mg) (c : excB0 K x = true) {fd : FuncData} {ps : List Str} (F : FnOk P w K mg base CX0 1 (He.ma K (He.ga K x) "__init__") fd ps (spExN (He.ga K x))) (b : Binds K fd ps []) : ExcOk0 P w K mg base x := by
  obtain ⟨c1, c⟩ := He.ba c
  obtain ⟨c2, c⟩ := He.ba c
  obtain ⟨c5, c⟩ := He.ba c
  obtain ⟨c6, c7⟩ := He.ba c
  exact ⟨_, _, fd, ps, He.glo_ok X G (x := x) c1, oexB_ok c2, He.eqO_ok c5, of_decide_eq_true c6, F, b, of_decide_eq_true c7⟩
end FD
set_option Elab.async false
set_option linter.all false
set_option maxRecDepth 100000
set_option maxHeartbeats 2000000
namespace FD
open PySem L2 PyProof.Rows
/-! # while, least and greatest of a list -/
/-- so many turns at most -/
def whileN (fc : FT) (fb : FS) : Nat → FS
  | 0, _, _ => none
  | n + 1, ρ, g => match fc ρ g with
    | none => none
    | some (.ex c ks es g1) => some (.ex c ks es g1)
    | some (.ok false g1) => some (.ok (.nx ρ) g1)
    | some (.ok true g1) => match fb ρ g1 with
      | none => none
      | some (.ok (.nx ρ2) g2) => whileN fc fb n ρ2 g2
      | some (.ok (.ct ρ2) g2) => whileN fc fb n ρ2 g2
      | some (.ok (.bk ρ2) g2) => some (.ok (.nx ρ2) g2)
      | some (.ok (.rt d) g2) => some (.ok (.rt d) g2)
      | some (.ex c ks es g2) => some (.ex c ks es g2)
section
variable {X : Cx} {ah : Option Addr} {E : XK} {c : DC}
theorem rs_while {tc : TT} {fc : FT} {tb : TS} {fb : FS} (n : Nat) (hc : RT c (fun _ => E) tc fc) (hb : RS c E tb fb) : RS c E (tWhile tc tb) (whileN fc fb n) := by
  refine ⟨fun F ρ g σ H S Z e R G => ?_⟩
  refine ⟨fun m σ H => ∃ ρ g S1, Same S S1 ∧ Rep F ρ g σ H S1 ∧ GotS F S1 E Z (whileN fc fb m ρ g), ⟨n, ρ, g, S, Same.refl S, R, G⟩, ?_⟩
  rintro m σ H ⟨ρ, g, S1, sm, R, G⟩
  cases m with
  | zero => exact G.elim
  | succ m =>
    unfold whileN at G
    refine hc.run F ρ g σ H S1 _ e R ?_
    cases h1 : fc ρ g with
    | none => rw [h1] at G; exact G
    | some o =>
      rw [h1] at G
      cases o with
      | ex cc ks es g1 => exact G
      | ok b g1 =>
        intro b' H1 S2 s2 R1 rb
        cases rb
        cases b with
        | false =>
          show Z.nx σ H1
          exact G σ H1 S2 s2 R1
        | true =>
          refine ⟨fun σ' H' => ∃ ρ g S1, Same S S1 ∧ Rep F ρ g σ' H' S1 ∧ GotS F S1 E Z (whileN fc fb m ρ g), fun σ' H' p => ⟨m, Nat.lt_succ_self m, p⟩, ?_⟩
          refine hb.run F ρ g1 σ H1 S2 _ e R1 ?_
          have G := G.mono s2
          dsimp only at G
          cases h2 : fb ρ g1 with
          | none => rw [h2] at G; exact G
          | some o =>
            rw [h2] at G
            cases o with
            | ex _ _ _ _ => exact G
            | ok f g2 =>
              cases f with
              | nx ρ2 => exact fun σ3 H3 S3 s3 R3 => ⟨ρ2, g2, S3, sm.trans (s2.trans s3), R3, G.mono s3⟩
              | ct ρ2 => exact fun σ3 H3 S3 s3 R3 => ⟨ρ2, g2, S3, sm.trans (s2.trans s3), R3, G.mono s3⟩
              | bk ρ2 => exact G
              | rt d => exact G
theorem pfs_while {e : Expr} {b : List Stmt} {fc : FT} {fb : FS} {pos : Pos} (n : Nat) (hp : PassesOwn (model X.prog X.w) X.A X.env X.xe) (hc : PFT X ah (fun _ => E) e fc) (hb : PFSs X ah E b fb) : PFS X ah E (.While e b [] pos) (whileN fc fb n) := by
  obtain ⟨t, p, r⟩ := hc
  obtain ⟨u, q, s⟩ := hb
  exact ⟨_, ps_while hp p q, rs_while n r s⟩
/-! ### min(xs), max(xs) of a list of numbers -/
def intsD : List D → Option (List Int)
  | [] => some []
  | .int i :: ds => (intsD ds).map (i :: ·)
  | _ => none
theorem intsD_of {S : Hp} : ∀ {vs : List V} {ds : List D} {ns : List Int}, Dns c S vs ds → intsD ds = some ns → vs = ns.map V.int
  | _, _, _, .nil, e => by simp [intsD] at e; subst e; rfl
  | _, _, _, .cons h hs, e => by
    cases h <;> simp only [intsD] at e <;> try cases e
    rw [Option.map_eq_some_iff] at e
    obtain ⟨ns, e1, rfl⟩ := e
    rw [intsD_of hs e1]; rfl
theorem intsD_map : ∀ ns : List Int, intsD (ns.map .int) = some ns
  | [] => rfl
  | n :: ns => by simp [intsD, intsD_map ns]
def minI : List Int → Int
  | [] => 0
  | [n] => n
  | n :: m :: ns => if n ≤ minI (m :: ns) then n else minI (m :: ns)
def maxI : List Int → Int
  | [] => 0
  | [n] => n
  | n :: m :: ns => if maxI (m :: ns) ≤ n then n else maxI (m :: ns)
theorem minI_ok : ∀ {ns : List Int}, ns ≠ [] → minI ns ∈ ns ∧ ∀ y ∈ ns, minI ns ≤ y
  | [], h => (h rfl).elim
  | [n], _ => by simp [minI]
  | n :: m :: ns, _ => by
    obtain ⟨h1, h2⟩ := minI_ok (ns := m :: ns) (by simp)
    unfold minI
    split
    · rename_i h
      refine ⟨by simp, fun y hy => ?_⟩
      rcases List.mem_cons.mp hy with rfl | hy
      · exact Int.le_refl _
      · exact Int.le_trans h (h2 y hy)
    · rename_i h
      refine ⟨List.mem_cons_of_mem _ h1, fun y hy => ?_⟩
      rcases List.mem_cons.mp hy with rfl | hy
      · omega
      · exact h2 y hy
theorem maxI_ok : ∀ {ns : List Int}, ns ≠ [] → maxI ns ∈ ns ∧ ∀ y ∈ ns, y ≤ maxI ns
  | [], h => (h rfl).elim
  | [n], _ => by simp [maxI]
  | n :: m :: ns, _ => by
    obtain ⟨h1, h2⟩ := maxI_ok (ns := m :: ns) (by simp)
    unfold maxI
    split
    · rename_i h
      refine ⟨by simp, fun y hy => ?_⟩
      rcases List.mem_cons.mp hy with rfl | hy
      · exact Int.le_refl _
      · exact Int.le_trans (h2 y hy) h
    · rename_i h
      refine ⟨List.mem_cons_of_mem _ h1, fun y hy => ?_⟩
      rcases List.mem_cons.mp hy with rfl | hy
      · omega
      · exact h2 y hy
def minD : List D → Option D
  | [.lst ds] => if ds = [] then none else (intsD ds).map fun ns => .int (minI ns)
  | _ => none
def maxD : List D → Option D
  | [.lst ds] => if ds = [] then none else (intsD ds).map fun ns => .int (maxI ns)
  | _ => none
theorem cs_min : CallS c (rMin c.K) minD := by
  intro E F ρ g σ H S Q vs ds e R hx G
  subst e
  unfold minD at G
  split at G
  · rename_i ds
    split at G
    · exact G.elim
    rename_i hne
    obtain ⟨v, rfl, hv⟩ := hx.one
    cases hv with
    | lst h hs =>
      cases q : intsD ds with
      | none => rw [q] at G; exact G.elim
      | some ns =>
        rw [q] at G
        have hv := intsD_of hs q
        subst hv
        have nn : ns ≠ [] := fun z => by
          subst z
          have := hs.length
          exact hne (List.eq_nil_of_length_eq_zero (by simpa using this.symm))
        refine ⟨_, ns, rfl, SqL.of (R.sub _ _ h), List.length_pos_iff.mpr nn, fun m m1 m2 => ?_⟩
        obtain ⟨k1, k2⟩ := minI_ok nn
        have : m = minI ns := Int.le_antisymm (m2 _ k1) (k2 _ m1)
        rw [this]
        exact G.ret R (.int _)
  · exact G.elim
theorem cs_max : CallS c (rMax c.K) maxD := by
  intro E F ρ g σ H S Q vs ds e R hx G
  subst e
  unfold maxD at G
  split at G
  · rename_i ds
    split at G
    · exact G.elim
    rename_i hne
    obtain ⟨v, rfl, hv⟩ := hx.one
    cases hv with
    | lst h hs =>
      cases q : intsD ds with
      | none => rw [q] at G; exact G.elim
      | some ns =>
        rw [q] at G
        have hv := intsD_of hs q
        subst hv
        have nn : ns ≠ [] := fun z => by
          subst z
          have := hs.length
          exact hne (List.eq_nil_of_length_eq_zero (by simpa using this.symm))
        refine ⟨_, ns, rfl, SqL.of (R.sub _ _ h), List.length_pos_iff.mpr nn, fun m m1 m2 => ?_⟩
        obtain ⟨k1, k2⟩ := maxI_ok nn
        have : m = maxI ns := Int.le_antisymm (k2 _ m1) (m2 _ k1)
        rw [this]
        exact G.ret R (.int _)
  · exact G.elim
/-! ### x += e, x -= e of numbers -/
def augD (sub : Bool) : D → D → Option D
  | .int i, .int j => some (.int (if sub then i - j else i + j))
  | _, _ => none
@[simp] def sAug (i : Nat) (sub : Bool) (a : FE) : FS := fun ρ g => match ρ[i]? with
  | some (.dt x) => (a ρ g).bd fun y g1 => match augD sub x y with
    | some z => some (.ok (.nx (ρ.set i (.dt z))) g1)
    | none => none
  | _ => none
theorem pfs_augA (i : Nat) {x : Str} {e : Expr} {a : FE} {p' pos : Pos} (hN : X.N.Nodup) (ha : PF X ah (fun _ => E) e a) (hi : X.N[i]? = some x := by rfl) (hx : Loc X.env.scope x := by first | exact Or.inl rfl | exact Or.inr rfl)
    (hf : X.fn x = true ∨ X.env.scope.names.lookup x = some .local := by first | exact .inl rfl | exact .inr rfl) : PFS X ah E (.AugAssign (.Name x p') .Add e pos) (sAug i false a) := by
  obtain ⟨t, q, r⟩ := ha
  refine ⟨_, ps_aug hN hi hx q in_add hf, ⟨fun F ρ g σ H S Z e R G => ?_⟩⟩
  simp only [sAug] at G
  split at G
  case h_2 => exact G.elim
  rename_i d hd
  obtain ⟨so, h1, v, rfl, hv⟩ := R.slots i _ hd
  refine ⟨v, h1, ?_⟩
  refine r.stepS e R G fun H2 S2 g2 y dy sm2 R2 hy G => ?_
  unfold augD at G
  split at G
  case h_2 => exact G.elim
  rename_i z hz
  split at hz
  case h_2 => cases hz
  rename_i i1 j1
  cases hz
  cases hv.intE
  cases hy.intE
  exact ⟨i1, j1, rfl, rfl, G _ _ S2 (Same.refl _) (R2.set i (.int _))⟩
theorem pfs_augS (i : Nat) {x : Str} {e : Expr} {a : FE} {p' pos : Pos} (hN : X.N.Nodup) (ha : PF X ah (fun _ => E) e a) (hi : X.N[i]? = some x := by rfl) (hx : Loc X.env.scope x := by first | exact Or.inl rfl | exact Or.inr rfl)
    (hf : X.fn x = true ∨ X.env.scope.names.lookup x = some .local := by first | exact .inl rfl | exact .inr rfl) : PFS X ah E (.AugAssign (.Name x p') .Sub e pos) (sAug i true a) := by
  obtain ⟨t, q, r⟩ := ha
  refine ⟨_, ps_aug hN hi hx q in_sub hf, ⟨fun F ρ g σ H S Z e R G => ?_⟩⟩
  simp only [sAug] at G
  split at G
  case h_2 => exact G.elim
  rename_i d hd
  obtain ⟨so, h1, v, rfl, hv⟩ := R.slots i _ hd
  refine ⟨v, h1, ?_⟩
  refine r.stepS e R G fun H2 S2 g2 y dy sm2 R2 hy G => ?_
  unfold augD at G
  split at G
  case h_2 => exact G.elim
  rename_i z hz
  split at hz
  case h_2 => cases hz
  rename_i i1 j1
  cases hz
  cases hv.intE
  cases hy.intE
  exact ⟨i1, j1, rfl, rfl, G _ _ S2 (Same.refl _) (R2.set i (.int _))⟩
end
end FD
set_option Elab.async false
set_option linter.all false
set_option maxRecDepth 100000
set_option maxHeartbeats 2000000
namespace FD
open PySem L2 PyProof.Rows
/-! # try with two except clauses, each telling a word -/
def ExcNe (K : PySem.W.Frag) (mg : Str → Option Value) (x y : Str) : Prop := ∀ A C, mg x = some (.ref A) → mg y = some (.ref C) → PySem.W.exmOne K (.ref A) (.ref C) = some false
def excNeB (K : PySem.W.Frag) (x y : Str) : Bool := He.eqO (PySem.W.nsIn K mainGlobals x) (some (some (.ref (He.ga K x)))) && (He.eqO (PySem.W.nsIn K mainGlobals y) (some (some (.ref (He.ga K y)))) && decide (PySem.W.exmOne K (.ref (He.ga K x)) (.ref (He.ga K y)) = some false))
theorem excNeB_ok {K : PySem.W.Frag} {h : Heap} {mg : Str → Option Value} {x y : Str} (X : K.In h) (G : h.Ns mainGlobals mg) (c : excNeB K x y = true) : ExcNe K mg x y := by
  obtain ⟨c1, c⟩ := He.ba c
  obtain ⟨c2, c3⟩ := He.ba c
  intro A C hA hC
  have e1 := (He.glo_ok X G (x := x) c1).symm.trans hA
  have e2 := (He.glo_ok X G (x := y) c2).symm.trans hC
  cases e1
  cases e2
  exact of_decide_eq_true c3
section
variable {X : Cx} {ah : Option Addr} {E : L2.St → XK}
theorem pfws_nil : PFws X ah E [] sNx := ⟨_, pss_nil, ⟨fun F ρ g σ H S Z e R G => G σ H S (Same.refl _) R⟩⟩
theorem pfw_if {c : Expr} {a b : List Stmt} {fc : FT} {fa fb : FS} {pos : Pos} (hc : PFT X ah E c fc) (ha : PFws X ah E a fa) (hb : PFws X ah E b fb) : PFw X ah E (.If c a b pos) (sIf fc fa fb) := by
  obtain ⟨t, p, r⟩ := hc
  obtain ⟨u, q, s⟩ := ha
  obtain ⟨v, q', s'⟩ := hb
  refine ⟨_, ps_if p q q', ⟨fun F ρ g σ H S Z e R G => ?_⟩⟩
  refine r.stepW (k := fun x g1 => if x = true then fa ρ g1 else fb ρ g1) e R G fun H1 S1 g1 w x sm R1 rb G => ?_
  cases rb
  cases w with
  | true => exact s.run F ρ g1 σ H1 S1 Z e R1 G
  | false => exact s'.run F ρ g1 σ H1 S1 Z e R1 G
@[simp] def sTry2 (fb : FS) (x sx y sy : Str) : FS := fun ρ g => match fb ρ g with
  | some (.ex c _ _ g1) => if c = x then some (.ok (.rt (.str sx)) g1) else if c = y then some (.ok (.rt (.str sy)) g1) else none
  | m => m
theorem pfs_try2 {E : XK} {x y sx sy : Str} {body : List Stmt} {fb : FS} {jx jy : _} {n1 n2 p1 p2 r1 r2 q1 q2 pos : Pos} (Gx : ExcOk0 X.prog X.w X.K X.mg X.base x) (Gy : ExcOk0 X.prog X.w X.K X.mg X.base y) (ne : ExcNe X.K X.mg y x)
    (hbody : ∀ (W : WX) (pn : List (Addr × Obj)) (xe : Value → Shared → Prop), Takes (X.tr pn xe) W → PassesOwn (model X.prog X.w) X.A X.env xe → PFws (X.tr pn xe) ah (WE W) body fb)
    (hs : X.stack = X.env :: X.outer := by rfl) (hf : X.env.frame = some X.env.locals := by rfl) (hgx : Gl X x := by rfl) (hdx : (x == ("__debug__" : Str)) = false := by decide) (hgy : Gl X y := by rfl) (hdy : (y == ("__debug__" : Str)) = false := by decide) :
    PFS X ah E (.Try body [.ExceptHandler (some (.Name x n1)) none [.Return (some (.Constant (.str sx) jx p1)) r1] q1, .ExceptHandler (some (.Name y n2)) none [.Return (some (.Constant (.str sy) jy p2)) r2] q2] [] [] pos) (sTry2 fb x sx y sy) := by
  obtain ⟨A, fA, fdA, psA, hmA, TA, iA, tA, FA, bA, teA⟩ := Gx
  obtain ⟨B, fB, fdB, psB, hmB, TB, iB, tB, FB, bB, teB⟩ := Gy
  have ch := fun W => choose_ws (X := X) (ah := ah) (W := W) (hbody W)
  refine ⟨_, ps_try_many (tb := fun W => (ch W).choose) (Wout := fun _ _ _ _ => False) (l := [(.ref A, fun a cls d => tRet (tC (.str sx))), (.ref B, fun a cls d => tRet (tC (.str sy)))]) hs hf takes0 (fun W pn xe tk hp => (ch W).choose_spec.1 pn xe tk hp)
    (.cons ⟨hgx, hdx, .inl hmA⟩ (fun a oe cls d pn hz hof => pss_one (ps_ret pe_str)) (.cons ⟨hgy, hdy, .inl hmB⟩ (fun a oe cls d pn hz hof => pss_one (ps_ret pe_str)) .nil)), ⟨fun F ρ g σ H S Z e R G => ?_⟩⟩
  refine (ch _).choose_spec.2.run F ρ g σ H S Z e R ?_
  simp only [sTry2] at G
  cases h : fb ρ g with
  | none => rw [h] at G; exact G
  | some o => cases o with
    | ok fl g1 => rw [h] at G; cases fl <;> exact G
    | ex cc ks ds g1 =>
      rw [h] at G
      dsimp only at G
      intro C dd H' S' hC sm R' hx
      rw [e] at hC
      by_cases h1 : cc = x
      · rw [if_pos h1] at G
        subst h1
        have hC' : C = A := by
          have : some (Value.ref C) = some (Value.ref A) := hC.symm.trans hmA
          injection this with this
          injection this
        subst hC'
        refine ⟨true, teA, fun _ a na => ?_, fun z => by cases z⟩
        exact G (.str sx) H' S' sm R' (.str sx)
      · rw [if_neg h1] at G
        by_cases h2 : cc = y
        · rw [if_pos h2] at G
          subst h2
          have hC' : C = B := by
            have : some (Value.ref C) = some (Value.ref B) := hC.symm.trans hmB
            injection this with this
            injection this
          subst hC'
          refine ⟨false, ne C A hmB hmA, (fun z => by cases z), fun _ => ⟨true, teB, fun _ a na => ?_, fun z => by cases z⟩⟩
          exact G (.str sy) H' S' sm R' (.str sy)
        · rw [if_neg h2] at G; exact G.elim
end
end FD
set_option Elab.async false
set_option linter.all false
set_option maxRecDepth 100000
set_option maxHeartbeats 2000000
namespace FD
open PySem PySem.Spec PyProof.Rows L2
/-! # {el for t0 in i0 for t1 in i1}, of whole numbers -/
abbrev twoFor (el t0 i0 t1 i1 : Expr) (sc : Scope) (ps : Pos) : Expr := .SetComp el [⟨t0, i0, [], 0⟩, ⟨t1, i1, [], 0⟩] sc ps
theorem turn_outer (el t0 i0 t1 i1 : Expr) (sc : Scope) (ps : Pos) (it acc : Value) (env : Env) : compTurn (twoFor el t0 i0 t1 i1 sc ps) 0 it acc env = (do
    standAt i0.pos
    match ← pyNext it with
    | none => pure (.done .next)
    | some v => (do
      letOwnedTupleGo t0 it v
      assign t0 env v
      let x ← eval i1 env
      standAt i1.pos
      let y ← foldedSetIterable i1 env x
      let j ← holding [y] (pyIter y)
      let _ ← runOwn (.compStart (twoFor el t0 i0 t1 i1 sc ps) 1 j acc env) env
      again (.compLoop (twoFor el t0 i0 t1 i1 sc ps) 0 it acc env))) := by rfl
theorem turn_inner (el t0 i0 t1 i1 : Expr) (sc : Scope) (ps : Pos) (it acc : Value) (env : Env) : compTurn (twoFor el t0 i0 t1 i1 sc ps) 1 it acc env = (do
    standAt i1.pos
    match ← pyNext it with
    | none => pure (.done .next)
    | some v => (do
      letOwnedTupleGo t1 it v
      assign t1 env v
      (do
        let x ← eval el env
        standAt el.pos
        let _ ← call (.builtin "set.add") [acc, x])
      again (.compLoop (twoFor el t0 i0 t1 i1 sc ps) 1 it acc env))) := by rfl
section
variable {prog : Program} {w : World} {A : Around} {R : Result → Shared → Prop} {el t0 i0 t1 i1 : Expr} {sc : Scope} {ps : Pos} {it acc : Value} {env : Env}
/-- how an error leaves the block -/
abbrev NoteR (prog : Program) (w : World) (A : Around) (R : Result → Shared → Prop) (env : Env) : Value → Shared → Prop := notedBy (model prog w) A env fun e u => R (.error e) u
/-- all turns of the first for -/
theorem outer_for (hs : ∀ x, foldedSetIterable i1 env x = pure x) (I : Nat → Shared → Prop)
    (turn : ∀ n s, I n s → wpAny (model prog w) A (pyNext it) (fun r s1 => match r with
      | none => R (.ok .next) s1
      | some v => wpAny (model prog w) A (letOwnedTupleGo t0 it v) (fun _ s2 => wpAny (model prog w) A (assign t0 env v) (fun _ s3 => wpAny (model prog w) A (eval i1 env) (fun x s4 => wpAny (model prog w) A (pyIter x) (fun j s5 =>
          codeAny (model prog w) A (.compStart (twoFor el t0 i0 t1 i1 sc ps) 1 j acc env) (fun r u => match r with
            | .ok _ => ∃ m, m < n ∧ I m u
            | .error _ => False) s5) (NoteR prog w A R env) s4) (NoteR prog w A R env) s3) (NoteR prog w A R env) s2) (NoteR prog w A R env) s1) (NoteR prog w A R env) s)
    (n : Nat) (s : Shared) (h : I n s) : codeAny (model prog w) A (.compLoop (twoFor el t0 i0 t1 i1 sc ps) 0 it acc env) R s := by
  refine codeAny_loop rfl I (fun n s hI => ?_) n h
  show wpAny _ A ((compTurn (twoFor el t0 i0 t1 i1 sc ps) 0 it acc env).onRaise (fun x => do noteFrame x env; theTreesLotGoes x)) _ _ s
  refine wpAny_noted ?_
  rw [turn_outer]
  refine wpAny_bind (wpAny_standAt (wpAny_bind (wpAny_mono (turn n s hI) (fun r s1 q1 => ?_) fun _ _ z => z)))
  cases r with
  | none => exact wpAny_pure q1
  | some v =>
    refine wpAny_bind (wpAny_mono q1 (fun _ s2 q2 => wpAny_bind (wpAny_mono q2 (fun _ s3 q3 => wpAny_bind (wpAny_mono q3 (fun x s4 q4 => ?_) fun _ _ z => z)) fun _ _ z => z)) fun _ _ z => z)
    refine wpAny_bind (wpAny_standAt (wpAny_bind (wpAny_of_eq (hs x) (wpAny_bind (wpAny_holding (wpAny_mono q4 (fun j s5 q5 => ?_) fun _ _ z => z))))))
    refine wpAny_bind (wpAny_runOwn ?_)
    rw [Around.mark_none]
    refine codeAny_mono q5 fun r u hr => ?_
    cases r with
    | error e => exact hr.elim
    | ok f => first | exact wpAny_pure ⟨rfl, hr⟩ | exact wpAny_bind (wpAny_pure (wpAny_pure ⟨rfl, hr⟩))
/-- all turns of the second -/
theorem inner_for (I : Nat → Shared → Prop)
    (turn : ∀ n s, I n s → wpAny (model prog w) A (pyNext it) (fun r s1 => match r with
      | none => R (.ok .next) s1
      | some v => wpAny (model prog w) A (letOwnedTupleGo t1 it v) (fun _ s2 => wpAny (model prog w) A (assign t1 env v) (fun _ s3 => wpAny (model prog w) A (eval el env) (fun x s4 =>
          wpAny (model prog w) A (call (.builtin "set.add") [acc, x]) (fun _ u => ∃ m, m < n ∧ I m u) (NoteR prog w A R env) s4) (NoteR prog w A R env) s3) (NoteR prog w A R env) s2) (NoteR prog w A R env) s1) (NoteR prog w A R env) s)
    (n : Nat) (s : Shared) (h : I n s) : codeAny (model prog w) A (.compLoop (twoFor el t0 i0 t1 i1 sc ps) 1 it acc env) R s := by
  refine codeAny_loop rfl I (fun n s hI => ?_) n h
  show wpAny _ A ((compTurn (twoFor el t0 i0 t1 i1 sc ps) 1 it acc env).onRaise (fun x => do noteFrame x env; theTreesLotGoes x)) _ _ s
  refine wpAny_noted ?_
  rw [turn_inner]
  refine wpAny_bind (wpAny_standAt (wpAny_bind (wpAny_mono (turn n s hI) (fun r s1 q1 => ?_) fun _ _ z => z)))
  cases r with
  | none => exact wpAny_pure q1
  | some v =>
    refine wpAny_bind (wpAny_mono q1 (fun _ s2 q2 => wpAny_bind (wpAny_mono q2 (fun _ s3 q3 => ?_) fun _ _ z => z)) fun _ _ z => z)
    exact wpAny_bind (wpAny_bind (wpAny_mono q3 (fun x s4 q4 => wpAny_bind (wpAny_standAt (wpAny_bind (wpAny_mono q4 (fun _ u hu => wpAny_pure (wpAny_pure ⟨rfl, hu⟩)) fun _ _ z => z)))) fun _ _ z => z))
/-- the second for begins -/
theorem inner_begins {s : Shared} (h0 : codeAny (model prog w) A (.compLoop (twoFor el t0 i0 t1 i1 sc ps) 1 it acc env) R s)
    (h : wpAny (model prog w) A (pyIter it) (fun j u => codeAny (model prog w) A (.compLoop (twoFor el t0 i0 t1 i1 sc ps) 1 j acc env) R u) (NoteR prog w A R env) s) : codeAny (model prog w) A (.compStart (twoFor el t0 i0 t1 i1 sc ps) 1 it acc env) R s := by
  refine codeAny_of_tree ?_
  show wpAny _ _ ((compStart (twoFor el t0 i0 t1 i1 sc ps) 1 it acc env).onRaise (fun x => do noteFrame x env; standAt theWindowsPlace)) _ _ s
  refine wpAny_notedAt ?_
  unfold compStart
  show wpAny _ _ (ask >>= _) _ _ s
  refine wpAny_bind (wpAny_askSetting (wpAny_ite ?_))
  split
  · first | exact wpAny_pure (And.intro rfl h0) | exact wpAny_bind (wpAny_pure (wpAny_pure (And.intro rfl h0)))
  · refine wpAny_bind (wpAny_rule ?_)
    show wpAny _ _ (standAt i1.pos >>= _) _ _ s
    exact wpAny_bind (wpAny_standAt (wpAny_bind (wpAny_mono h (fun j u q => wpAny_pure (And.intro rfl q)) fun _ _ z => z)))
end
end FD
set_option Elab.async false
set_option linter.all false
set_option maxRecDepth 100000
set_option maxHeartbeats 4000000
namespace FD
open PySem PySem.Spec PyProof.Rows L2
/-- the set so far, with one number more -/
abbrev withK (w : World) (D : Addr) (S : Int → Bool) (n : Nat) (k : Int) : HO := SetO w D (fun j => S j || decide (j = k)) (if S k = true then n else n + 1)
/-- {el for t0 in i0 for t1 in i1}: W goes with the turns of the first for, V with those of the second -/
def tSc2 (w : World) (ti : TI) (g : TG) (ti1 : TI) (g1 : TG) (te : TE) (vs vs1 : List Nat) : TE := fun σ H Q => ti σ H fun J H1 => ∀ D, H1 D = none → ∃ W : Nat → Nat → Hp → Prop, (∃ m, W 0 m (upd H1 D (SetO w D (fun _ => false) 0))) ∧ ∀ i m H, W i m H →
  (J.stop i H ∧ Q (.ref D) H) ∨ (J.go i H ∧ ∃ B : Hp → Prop, (∀ H', B H' → ∃ m', m' < m ∧ W (i + 1) m' H') ∧ ∀ x H', J.yld i H x H' → g x (wipe σ vs) H' fun σ2 H2 => wipe σ2 vs = wipe σ vs ∧ ti1 σ2 H2 fun J1 H3 => ∃ V : Nat → Nat → Hp → Prop, (∃ k, V 0 k H3) ∧ ∀ j k H, V j k H →
    (J1.stop j H ∧ B H) ∨ (J1.go j H ∧ ∃ B1 : Hp → Prop, (∀ H', B1 H' → ∃ k', k' < k ∧ V (j + 1) k' H') ∧ ∀ x H', J1.yld j H x H' → g1 x (wipe σ2 vs1) H' fun σ3 H4 => wipe σ3 vs1 = wipe σ2 vs1 ∧
      te σ3 H4 fun y H5 => ∃ (c : Int) (S : Int → Bool) (n : Nat), y = .int c ∧ H5 D = some (SetO w D S n) ∧ n + 1 < scanBound ∧ B1 (upd H5 D (withK w D S n c))))
section
variable {X : Cx}
theorem addK_ok {pins : List (Addr × Obj)} {σ : L2.St} {H : Hp} {s : Shared} {E : Value → Shared → Prop} {D : Addr} {S : Int → Bool} {n : Nat} {y : Int} {v : Value} {Q : Value → Shared → Prop} (I : Inv X pins σ H s) (hD : H D = some (SetO X.w D S n)) (room : n + 1 < scanBound) (r : RelV (.int y) v)
    (h : ∀ u, Inv X pins σ (upd H D (withK X.w D S n y)) u → Q .none u) : wpAny (model X.prog X.w) X.A (call (.builtin "set.add") [.ref D, v]) Q E s := by
  obtain ⟨tk, rfl⟩ := r
  refine setR_add (setO_get I hD) room fun h' sb new => ?_
  have there : ∃ u, h'.get? D = some u := by
    obtain ⟨o, _, _, _, ho, _⟩ := id new
    exact ⟨o, ho⟩
  exact h _ (I.write (e := D) (t' := s.toks + 1) (by rw [hD]; trivial) (.inl rfl) (fun b u hb hu => (sb.2 b hb).trans hu) there (setO_new new))
theorem sc2_ok {pins : List (Addr × Obj)} {s : Shared} {σ : L2.St} {H : Hp} {Q : VK} {el t0 i0 t1 i1 : Expr} {scope : Scope} {own : List (PySem.Str × Nat)} {vs1 : List Nat} {pos pos' : Pos} {ti ti1 : TI} {g g1 : TG} {te : TE} {use : Option (Value → Sem Unit)} {Qf : Value → Shared → Prop}
    (hc : X.calm = true) (hN : X.N.Nodup) (I : Inv X pins σ H s) (hi : PI X t0 i0 ti) (ok : BlkOk X.N X.env.scope scope own) (hv : ∀ i ∈ vs1, i ∈ own.map (·.2))
    (hb : ∀ (s : Shared) (H : Hp) (C : Addr) (cl : List (PySem.Str × Addr)) (fp : List Addr), PG (X.blk s H scope (compEnvC scope cl C X.env) fp) t0 g ∧ PI (X.blk s H scope (compEnvC scope cl C X.env) fp) t1 i1 ti1 ∧ PG (X.blk s H scope (compEnvC scope cl C X.env) fp) t1 g1 ∧ PE (X.blk s H scope (compEnvC scope cl C X.env) fp) el te)
    (hs : ∀ x, foldedSetIterable i0 X.env x = pure x) (hs1 : ∀ env x, foldedSetIterable i1 env x = pure x) (h : tSc2 X.w ti g ti1 g1 te (own.map (·.2)) vs1 σ H Q)
    (hR : ∀ D C u m H', Inv X pins σ H' u → Q (.ref D) H' → u.heap.Ns C m → FpOk X pins H' C → compPost (model X.prog X.w) X.A X.xe use Qf (.ref D) C (.ok .next) u) :
    wpAny (model X.prog X.w) X.A (comprehension (twoFor el t0 i0 t1 i1 scope pos) scope X.env pos' (newSet (.type "set")) false (eval i0 X.env) use) Qf X.xe s := by
  have free : ∀ y ∈ scope.names, y.2 = .free → ∃ c, X.env.cells.lookup y.1 = some c := fun y hy e => (ok.free y hy e).elim (fun k => I.ok.has _ (.inl k)) fun k => I.ok.has _ (.inr k)
  refine wpAny_comprehension_free (use := use) rfl hs (closure_ok free) ok.kind (fun y hy e => by rw [ok.uniq y hy, e]) (thn (hi.run pins s σ H _ I h) fun xv sa hx => thn hx fun itv sb hb2 => ?_)
  obtain ⟨it, fp, tn, J, H2, rfl, I2, T, st2, f2, q⟩ := hb2
  refine PpSet.newSet_ok (newEnv_comp ?_)
  generalize hD : sb.heap.objs.size = D
  obtain ⟨W, ⟨m0, w0⟩, turn⟩ := q D (I2.hok.fresh (Nat.le_of_eq hD))
  -- the set is laid
  generalize hsc : ({ sb with heap := sb.heap.push { cls := .type "set", dict := none, data := .set #[] 0 (.fresh 0 0 (!X.w.params.followText "set-order")) } } : Shared) = sc
  have hph : sc.heap = sb.heap.push { cls := .type "set", dict := none, data := .set #[] 0 (.fresh 0 0 (!X.w.params.followText "set-order")) } := by rw [← hsc]
  have Ic : Inv X pins σ (upd H2 D (SetO X.w D (fun _ => false) 0)) sc := by
    rw [← hsc]
    refine I2.laid (t' := sb.toks) (fun b o e => Heap.get?_push_of_some _ e) (Nat.le_of_eq hD) ?_
    rw [← hD]
    exact setO_new (setR_fresh X.w)
  have below : ∀ b ∈ fp, b < sb.heap.objs.size := fun b hb => by
    obtain ⟨o, e, _⟩ := T.obj _ _ st2 b hb
    exact Heap.lt_size e
  have fc : ∀ b ∈ fp, FpOk X pins (upd H2 D (SetO X.w D (fun _ => false) 0)) b ∧ b < sc.heap.objs.size := fun b hb => by
    refine ⟨⟨?_, (f2 b hb).2⟩, by rw [hph, Heap.size_push]; exact Nat.lt_succ_of_lt (below b hb)⟩
    rw [upd_ne (by rw [← hD]; exact Nat.ne_of_lt (below b hb))]
    exact (f2 b hb).1
  have stc : tn 0 sc.heap := T.keep _ _ _ st2 fun b _ o e => by rw [hph]; exact Heap.get?_push_of_some _ e
  have Id := block_start Ic ok hN fc
  obtain ⟨pg, pi1, pg1, pe⟩ := hb sc (upd H2 D (SetO X.w D (fun _ => false) 0)) sc.heap.objs.size (cellsFrom (sc.heap.objs.size + 1) scope.names (cloFrom X.env.cells scope.names [])) fp
  show codeAny _ _ (.compStart (twoFor el t0 i0 t1 i1 scope pos) 0 (.ref it) (.ref D) (compEnvC scope (cellsFrom (sc.heap.objs.size + 1) scope.names (cloFrom X.env.cells scope.names [])) sc.heap.objs.size X.env)) (compPost (model X.prog X.w) X.A X.xe use Qf (.ref D) sc.heap.objs.size) { sc with heap := pushCells (sc.heap.push { cls := .type "dict", data := .dict #[] }) scope.names }
  have nfp : ∀ b ∈ fp, (upd H2 D (SetO X.w D (fun _ => false) 0)) b = none := fun b hb => (fc b hb).1.1
  generalize hce : compEnvC scope (cellsFrom (sc.heap.objs.size + 1) scope.names (cloFrom X.env.cells scope.names [])) sc.heap.objs.size X.env = ce at Id pg pi1 pg1 pe ⊢
  have cL : ce.locals = sc.heap.objs.size := by subst hce; rfl
  generalize hHc : upd H2 D (SetO X.w D (fun _ => false) 0) = Hc at Ic Id pg pi1 pg1 pe w0 nfp fc
  generalize hsd : ({ sc with heap := pushCells (sc.heap.push { cls := .type "dict", data := .dict #[] }) scope.names } : Shared) = sd at Id ⊢
  have std : tn 0 sd.heap := T.keep _ _ _ stc fun b _ o e => by rw [← hsd]; exact pushCells_keeps _ _ _ _ (Heap.get?_push_of_some _ e)
  have at0 : ∀ {σ' : L2.St} {H' : Hp} {u : Shared}, Inv (X.blk sc Hc scope ce fp) [] σ' H' u → (∀ b ∈ fp, H' b = none) → ∀ b ∈ fp, FpOk (X.blk sc Hc scope ce fp) [] H' b := fun {σ' H' u} K hn b hb =>
    ⟨hn b hb, (K.ok.exf b hb).1, K.ok.exfs b hb, .inl hb, fun x c e => (K.ok.exf b hb).2 x c e, fun p hp => absurd (show p ∈ ([] : List (Addr × Obj)) ++ [] from hp) (by simp)⟩
  let ρ0 := wipe σ (own.map (·.2))
  let P0 : Nat → Shared → Prop := fun n u => ∃ i H', Inv (X.blk sc Hc scope ce fp) [] ρ0 H' u ∧ tn i u.heap ∧ (∀ b ∈ fp, H' b = none) ∧ W i n H'
  have loop : codeAny (model X.prog X.w) X.A (.compLoop (twoFor el t0 i0 t1 i1 scope pos) 0 (.ref it) (.ref D) ce) (compPost (model X.prog X.w) X.A X.xe use Qf (.ref D) sc.heap.objs.size) sd := by
    refine outer_for (hs1 ce) P0 ?_ m0 sd ⟨0, Hc, Id, std, nfp, w0⟩
    rintro n s5 ⟨i, H5, I5, st5, n5, w5⟩
    rcases turn i n H5 w5 with ⟨stop, qq⟩ | ⟨go, B, hB, goes⟩
    · refine thnF (T.done (X.blk sc Hc scope ce fp) rfl rfl rfl hc i [] s5 _ H5 (fun _ _ => False) I5 (at0 I5 n5) st5 stop) fun r s6 ⟨hr, I6⟩ => ?_
      subst hr
      have I7 : Inv X pins σ H5 s6 := Ic.call' (ch := fp) I6.os I6.base I6.hok I6.bare fun b hb => ⟨(fc b hb).1.2.2.2.1, (fc b hb).1.2.1, (fc b hb).1.2.2.2.2.1, (fc b hb).1.2.2.2.2.2⟩
      have nC : H5 sc.heap.objs.size = none := cL ▸ (I6.free : H5 ce.locals = none)
      obtain ⟨m, hn, _⟩ := I6.loc
      exact hR D sc.heap.objs.size s6 m H5 I7 qq (cL ▸ (hn : s6.heap.Ns ce.locals m)) (Ic.fpOk (Nat.le_refl _) nC)
    · refine thnF (T.item (X.blk sc Hc scope ce fp) rfl rfl rfl hc i [] s5 _ H5 (fun _ _ => False) I5 (at0 I5 n5) st5 go) fun r s6 ⟨u, hr, h6⟩ => ?_
      subst hr
      refine thnF h6 fun _ s7 ⟨x, H7, I7, r7, y7, st7, n7⟩ => ?_
      refine thnF (pg.run _ s7 _ H7 x u _ (I7.pinned (at0 I7 n7) (T.obj _ _ st7)) r7 (goes x H7 y7)) fun _ s8 ⟨σ8, H8, I8, hw8, q8⟩ => ?_
      refine thnF (pi1.run _ s8 σ8 H8 _ I8 q8) fun xv s9 hx => thnF hx fun jv sA hA => ?_
      obtain ⟨it1, fp1, tn1, J1, HA, rfl, IA, T1, stA, fA, V, ⟨k0, v0⟩, turn1⟩ := hA
      have len8 : ρ0.length = σ8.length := by show (wipe σ (own.map (·.2))).length = _; rw [← hw8, wipe_length]
      have keep8 : ∀ (j : Nat) v, ρ0[j]? = some (some v) → (wipe σ8 vs1)[j]? = some (some v) := fun j v e => by
        have e : (wipe σ (own.map (·.2)))[j]? = some (some v) := e
        rw [← hw8] at e
        obtain ⟨e1, e2⟩ := wipe_some e
        rw [wipe_out fun z => e2 (hv j z)]
        exact e1
      -- one turn of the first for is done
      have fin : ∀ {u : Shared} {H' : Hp}, Inv (X.blk sc Hc scope ce fp) ([] ++ pinsAt fp s7.heap) (wipe σ8 vs1) H' u → B H' → ∃ m, m < n ∧ P0 m u := fun {u H'} K bb => by
        obtain ⟨m', hm, w'⟩ := hB H' bb
        have pin : ∀ b ∈ fp, ∀ o, s7.heap.get? b = some o → u.heap.get? b = some o ∧ H' b = none := fun b hb o e =>
          let z := K.pin (b, o) (List.mem_append_right _ (List.mem_append_right _ (mem_pinsAt hb e)))
          ⟨z.1, z.2.1⟩
        refine ⟨m', hm, i + 1, H', (K.unpinned (pins := [])).weak (len8.trans (wipe_length σ8 vs1).symm) keep8, T.keep _ _ _ st7 fun b hb o e => (pin b hb o e).1, fun b hb => ?_, w'⟩
        obtain ⟨o, e, _⟩ := T.obj _ _ st7 b hb
        exact (pin b hb o e).2
      have at1 : ∀ {H' : Hp}, (∀ b ∈ fp1, H' b = none) → ∀ b ∈ fp1, FpOk (X.blk sc Hc scope ce fp) ([] ++ pinsAt fp s7.heap) H' b := fun hn b hb => ⟨hn b hb, (fA b hb).2⟩
      let P1 : Nat → Shared → Prop := fun k u => ∃ j H', Inv (X.blk sc Hc scope ce fp) ([] ++ pinsAt fp s7.heap) (wipe σ8 vs1) H' u ∧ tn1 j u.heap ∧ (∀ b ∈ fp1, H' b = none) ∧ V j k H'
      have loop1 : codeAny (model X.prog X.w) X.A (.compLoop (twoFor el t0 i0 t1 i1 scope pos) 1 (.ref it1) (.ref D) ce) (fun r u => match r with
          | .ok _ => ∃ m, m < n ∧ P0 m u
          | .error _ => False) sA := by
        refine inner_for P1 ?_ k0 sA ⟨0, HA, IA.weak (wipe_length _ _) (fun j v e => (wipe_some e).1), stA, fun b hb => (fA b hb).1, v0⟩
        rintro k sB ⟨j, HB, IB, stB, nB, vB⟩
        rcases turn1 j k HB vB with ⟨stop1, b1⟩ | ⟨go1, B1, hB1, goes1⟩
        · refine thnF (T1.done (X.blk sc Hc scope ce fp) rfl rfl rfl hc j _ sB (wipe σ8 vs1) HB (fun _ _ => False) IB (at1 nB) stB stop1) fun r sC ⟨hr, IC⟩ => ?_
          subst hr
          exact fin IC b1
        · refine thnF (T1.item (X.blk sc Hc scope ce fp) rfl rfl rfl hc j _ sB (wipe σ8 vs1) HB (fun _ _ => False) IB (at1 nB) stB go1) fun r sC ⟨u1, hr, hC⟩ => ?_
          subst hr
          refine thnF hC fun _ sE ⟨x1, HE, IE, rE, yE, stE, nE⟩ => ?_
          refine thnF (pg1.run _ sE (wipe σ8 vs1) HE x1 u1 _ (IE.pinned (at1 nE) (T1.obj _ _ stE)) rE (goes1 x1 HE yE)) fun _ sF ⟨σF, HF, IF, hwF, qF⟩ => ?_
          refine thnF (pe.run _ sF σF HF _ IF qF) fun z sG ⟨yv, HG, IG, rG, c, S, num, ey, hDG, room, bb⟩ => ?_
          subst ey
          refine addK_ok (X := X.blk sc Hc scope ce fp) IG hDG room rG fun sH IH => ?_
          obtain ⟨k', hk, v'⟩ := hB1 _ bb
          have pin : ∀ b ∈ fp1, ∀ o, sE.heap.get? b = some o → sH.heap.get? b = some o ∧ _ = none := fun b hb o e =>
            let z := IH.pin (b, o) (List.mem_append_right _ (List.mem_append_right _ (mem_pinsAt hb e)))
            ⟨z.1, z.2.1⟩
          refine ⟨k', hk, j + 1, _, IH.unpinned.weak (by rw [← hwF, wipe_length]) (fun j v e => by rw [← hwF] at e; exact (wipe_some e).1), T1.keep _ _ _ stE fun b hb o e => (pin b hb o e).1, fun b hb => ?_, v'⟩
          obtain ⟨o, e, _⟩ := T1.obj _ _ stE b hb
          exact (pin b hb o e).2
      exact inner_begins loop1 (T1.self X.A 0 _ _ _ stA loop1)
  exact PpSet.codeAny_compStart_set loop (T.self X.A 0 _ _ _ std loop)
end
end FD
set_option Elab.async false
set_option linter.all false
set_option maxRecDepth 100000
set_option maxHeartbeats 4000000
namespace FD
open PySem PySem.Spec PyProof.Rows L2
/-! # sorted({x for l in s for x in l}), three names -/
def lotsOf : List D → Option (List (List Int))
  | [] => some []
  | .tup xs :: ds => (intsOf xs).bind fun ns => (lotsOf ds).map (ns :: ·)
  | _ => none
def unionD : D → Option D
  | .lst ds => (lotsOf ds).bind fun Ls => if Ls.flatten.eraseDups.length ≤ 60 then some (.lst ((sortSet Ls.flatten).map .int)) else none
  | _ => none
@[simp] def cUnion (s l x : Nat) : FE := fun ρ g => match ρ[s]? with
  | some (.dt d) => if (ρ[l]?).isSome = true ∧ (ρ[x]?).isSome = true ∧ l ≠ x then lift (unionD d) g else none
  | _ => none
section
variable {X : Cx} {ah : Option Addr} {E : L2.St → XK} {c : DC}
theorem lots_at {S : Hp} : ∀ {vs : List V} {ds : List D} {Ls : List (List Int)}, Dns c S vs ds → lotsOf ds = some Ls → vs.length = Ls.length ∧ ∀ (i : Nat) (L : List Int), Ls[i]? = some L → ∃ a, vs[i]? = some (.ref a) ∧ SqT c.K S a (L.map V.int)
  | _, _, _, .nil, e => by
    simp [lotsOf] at e
    subst e
    exact ⟨rfl, fun i L h => by simp at h⟩
  | _, _, _, .cons h hs, e => by
    cases h <;> simp only [lotsOf] at e <;> try cases e
    rename_i a ws xs ht hw
    cases q : intsOf xs with
    | none => rw [q] at e; cases e
    | some ns =>
      rw [q] at e
      simp only [Option.bind_some, Option.map_eq_some_iff] at e
      obtain ⟨Ls, e1, rfl⟩ := e
      obtain ⟨k1, k2⟩ := lots_at hs e1
      have hv := intsOf_ok hw q
      subst hv
      refine ⟨by simp [k1], fun i L h => ?_⟩
      cases i with
      | zero =>
        have : ns = L := by simpa using h
        subst this
        exact ⟨a, rfl, ht⟩
      | succ i => exact k2 i L (by simpa using h)
theorem Rep.junk {F : Fx} {ρ : List En} {g : Gh} {σ : L2.St} {H S : Hp} (R : Rep F ρ g σ H S) {p : Addr} (o : HO) (hp : H p = none) : Rep F ρ g σ (upd H p o) S := by
  refine ⟨fun b u e => by rw [upd_ne (ne_of_none (R.sub _ _ e) hp)]; exact R.sub _ _ e, R.hand.up1 (R.new_ah hp), fun b u e h => by rw [upd_ne (ne_of_none (R.keep b u e h) hp)]; exact R.keep b u e h, R.stay, fun j e h => ?_, R.apart⟩
  obtain ⟨so, h1, h2⟩ := R.slots j e h
  refine ⟨so, h1, ?_⟩
  cases e with
  | un => trivial
  | dt d => exact h2
  | hold ks zs =>
    obtain ⟨q, vs, e1, e2, e3, e4, e5, e6⟩ := h2
    exact ⟨q, vs, e1, e2, e3, e4, by rw [upd_ne (ne_of_none e5 hp)]; exact e5, e6⟩
theorem wipe2 (σ : L2.St) (vs : List Nat) : L2.wipe (L2.wipe σ vs) vs = L2.wipe σ vs := by
  apply List.ext_getElem?
  intro j
  rw [wipe_get, wipe_get, wipe_length]
  split <;> rfl
theorem SqT.junk {K : PySem.W.Frag} {H : Hp} {a D : Addr} {o : HO} {xs : List V} (h : SqT K H a xs) (hD : H D = none) : SqT K (upd H D o) a xs := Same.tup (Same.upd_new hD) h
theorem SqL.junk {K : PySem.W.Frag} {H : Hp} {a D : Addr} {o : HO} {xs : List V} (h : SqL K H a xs) (hD : H D = none) : SqL K (upd H D o) a xs := Same.sql (Same.upd_new hD) h
theorem ed_append (as bs : List Int) : (as ++ bs).eraseDups.length = as.eraseDups.length + ((bs.removeAll as).eraseDups).length := by
  rw [List.eraseDups_append, List.length_append]
theorem ed_one (as : List Int) (c : Int) : (as ++ [c]).eraseDups.length = if c ∈ as then as.eraseDups.length else as.eraseDups.length + 1 := by
  rw [ed_append]
  by_cases h : c ∈ as
  · rw [if_pos h]
    have : [c].removeAll as = [] := by simp [List.removeAll, h]
    rw [this]; rfl
  · rw [if_neg h]
    have : [c].removeAll as = [c] := by simp [List.removeAll, h]
    rw [this]; rfl
theorem re_union {w : World} (s l x : Nat) : RE c E (fun σ H Q => tSc2 w (iSeq c.K (tVar s)) (gName l) (iSeq c.K (tVar l)) (gName x) (tVar x) [l, x] [x] σ H fun v H2 => rSortedSet w [v] H2 Q) (cUnion s l x) := by
  refine ⟨fun F ρ g σ H S Q e R G => ?_⟩
  simp only [cUnion] at G
  split at G
  case h_2 => exact G.elim
  rename_i d hd
  by_cases hc : (ρ[l]?).isSome = true ∧ (ρ[x]?).isSome = true ∧ l ≠ x
  case neg => rw [if_neg hc] at G; exact G.elim
  rw [if_pos hc] at G
  obtain ⟨cl, cx, nlx⟩ := hc
  have inσ : ∀ {j : Nat}, (ρ[j]?).isSome = true → j < σ.length := fun {j} h => by
    obtain ⟨en, hen⟩ := Option.isSome_iff_exists.mp h
    obtain ⟨so, k, _⟩ := R.slots j en hen
    exact (List.getElem?_eq_some_iff.mp k).1
  have ll := inσ cl
  have lx := inσ cx
  obtain ⟨so, h1, v, rfl, hv⟩ := R.slots s _ hd
  cases hv with
  | @lst a vs ds ha hvs =>
    simp only [unionD] at G
    cases q : lotsOf ds with
    | none => rw [q] at G; exact G.elim
    | some Ls =>
    rw [q] at G
    simp only [Option.bind_some] at G
    by_cases hn : Ls.flatten.eraseDups.length ≤ 60
    case neg => rw [if_neg hn] at G; exact G.elim
    rw [if_pos hn] at G
    obtain ⟨len, each⟩ := lots_at hvs q
    rw [e] at each
    have hA : SqL c.K H a vs := SqL.of (R.sub _ _ ha)
    have hE : ∀ (i : Nat) (L : List Int), Ls[i]? = some L → ∃ b, vs[i]? = some (.ref b) ∧ SqT c.K H b (L.map V.int) := fun i L h => by
      obtain ⟨b, k1, k2⟩ := each i L h
      exact ⟨b, k1, Same.tup R.sub k2⟩
    refine ⟨.ref a, h1, a, rfl, .inl ⟨⟨vs, hA⟩, fun D hD => ?_⟩⟩
    have neA : ∀ (St : Int → Bool) (n : Nat), SqL c.K (upd H D (SetO w D St n)) a vs := fun St n => SqL.junk hA hD
    let W : Nat → Nat → Hp → Prop := fun i m H' => m = Ls.length - i ∧ i ≤ Ls.length ∧ ∃ (St : Int → Bool) (n : Nat), H' = upd H D (SetO w D St n) ∧ (∀ k, St k = true ↔ k ∈ (Ls.take i).flatten) ∧ n = (Ls.take i).flatten.eraseDups.length
    refine ⟨W, ⟨Ls.length, by simp, Nat.zero_le _, _, 0, rfl, fun k => by simp, by simp⟩, ?_⟩
    rintro i m _ ⟨rfl, hi, St, n, rfl, hS, hnl⟩
    by_cases hlt : i < Ls.length
    · obtain ⟨L, hL⟩ : ∃ L, Ls[i]? = some L := ⟨_, List.getElem?_eq_getElem hlt⟩
      obtain ⟨b, vb, tb⟩ := hE i L hL
      have tk : Ls.take (i + 1) = Ls.take i ++ [L] := by
        rw [List.take_succ, hL]; rfl
      have fk : (Ls.take (i + 1)).flatten = (Ls.take i).flatten ++ L := by rw [tk]; simp
      have cut : Ls.flatten = (Ls.take i).flatten ++ L ++ (Ls.drop (i + 1)).flatten := by
        have := congrArg List.flatten (List.take_append_drop (i + 1) Ls)
        rw [List.flatten_append, fk] at this
        exact this.symm
      have le : ∀ j, ((Ls.take i).flatten ++ L.take j).eraseDups.length ≤ 60 := fun j => by
        have e : Ls.flatten = ((Ls.take i).flatten ++ L.take j) ++ (L.drop j ++ (Ls.drop (i + 1)).flatten) := by
          rw [cut]
          simp only [List.append_assoc]
          congr 1
          rw [← List.append_assoc, List.take_append_drop]
        rw [e, ed_append] at hn
        omega
      refine .inr ⟨⟨vs, _, neA St n, vb⟩, W (i + 1) (Ls.length - (i + 1)), fun H' p => ⟨_, by omega, p⟩, ?_⟩
      rintro y _ ⟨rfl, hy⟩
      have ey : y = .ref b := by
        have := hy vs (neA St n)
        rw [vb] at this
        exact (Option.some.inj this).symm
      subst ey
      have w0 : (L2.wipe σ [l, x]).length = σ.length := wipe_length _ _
      refine ⟨(wipe_set (by simp)).trans (wipe2 σ [l, x]), .ref b, by rw [List.getElem?_set_self (by omega)], b, rfl, .inr ⟨⟨_, SqT.junk tb hD⟩, ?_⟩⟩
      let VV2 : Nat → Nat → Hp → Prop := fun j k H' => k = L.length - j ∧ j ≤ L.length ∧ ∃ (St : Int → Bool) (n : Nat), H' = upd H D (SetO w D St n) ∧ (∀ k, St k = true ↔ k ∈ (Ls.take i).flatten ++ L.take j) ∧ n = ((Ls.take i).flatten ++ L.take j).eraseDups.length
      refine ⟨VV2, ⟨L.length, by simp, Nat.zero_le _, St, n, rfl, by simpa using hS, by simpa using hnl⟩, ?_⟩
      rintro j k _ ⟨rfl, hj, St1, n1, rfl, hS1, hn1⟩
      have tbD : SqT c.K (upd H D (SetO w D St1 n1)) b (L.map V.int) := SqT.junk tb hD
      by_cases hjt : j < L.length
      · obtain ⟨z, hz⟩ : ∃ z, L[j]? = some z := ⟨_, List.getElem?_eq_getElem hjt⟩
        have vz : (L.map V.int)[j]? = some (.int z) := by rw [List.getElem?_map, hz]; rfl
        refine .inr ⟨⟨_, _, tbD, vz⟩, VV2 (j + 1) (L.length - (j + 1)), fun H' p => ⟨_, by omega, p⟩, ?_⟩
        rintro y _ ⟨rfl, hy⟩
        have ey : y = .int z := by
          have := hy _ tbD
          rw [vz] at this
          exact (Option.some.inj this).symm
        subst ey
        have tz : L.take (j + 1) = L.take j ++ [z] := by rw [List.take_succ, hz]; rfl
        have ln := le j
        refine ⟨(wipe_set (by simp)).trans (wipe2 _ [x]), .int z, by rw [List.getElem?_set_self (by rw [wipe_length, List.length_set, wipe_length]; omega)], z, St1, n1, rfl, upd_same, by unfold scanBound; omega, rfl, by omega, _, _, upd_upd, fun k => ?_, ?_⟩
        · rw [tz, ← List.append_assoc, List.mem_append, ← hS1 k]
          simp
        · rw [tz, ← List.append_assoc, ed_one, hn1]
          by_cases hm : z ∈ (Ls.take i).flatten ++ L.take j
          · rw [if_pos hm, if_pos ((hS1 z).mpr hm)]
          · rw [if_neg hm, if_neg (fun h => hm ((hS1 z).mp h))]
      · have ej : j = L.length := by omega
        subst ej
        refine .inl ⟨⟨_, tbD, by simp⟩, rfl, by omega, St1, n1, rfl, fun k => ?_, ?_⟩
        · rw [fk, hS1 k, List.take_length]
        · rw [fk]; rw [List.take_length] at hn1; exact hn1
    · have ei : i = Ls.length := by omega
      subst ei
      rw [List.take_length] at hS hnl
      refine .inl ⟨⟨vs, neA St n, by omega⟩, D, St, n, rfl, upd_same, by omega, fun out p so mem ln hp => ?_⟩
      have eo : out = sortSet Ls.flatten := sortSet_of so fun k => (mem k).trans (hS k)
      subst eo
      exact G.new (R.junk _ hD) hp (.lst upd_same (Dns.ints _))
  | _ => simp only [unionD, lift] at G; exact G.elim
end
end FD
set_option Elab.async false
set_option linter.all false
set_option maxRecDepth 100000
set_option maxHeartbeats 4000000
namespace FD
open PySem PySem.Spec PyProof.Rows L2
section
variable {X : Cx} {ah : Option Addr} {E : L2.St → XK}
theorem pe_sc2 {el t0 i0 t1 i1 : Expr} {scope : Scope} {own : List (PySem.Str × Nat)} {vs1 : List Nat} {pos : Pos} {ti ti1 : TI} {g g1 : TG} {te : TE} (hc : X.calm = true) (hN : X.N.Nodup) (hi : PI X t0 i0 ti) (ok : BlkOk X.N X.env.scope scope own) (hv : ∀ i ∈ vs1, i ∈ own.map (·.2))
    (hb : ∀ (s : Shared) (H : Hp) (C : Addr) (cl : List (PySem.Str × Addr)) (fp : List Addr), PG (X.blk s H scope (compEnvC scope cl C X.env) fp) t0 g ∧ PI (X.blk s H scope (compEnvC scope cl C X.env) fp) t1 i1 ti1 ∧ PG (X.blk s H scope (compEnvC scope cl C X.env) fp) t1 g1 ∧ PE (X.blk s H scope (compEnvC scope cl C X.env) fp) el te)
    (hs : ∀ x, foldedSetIterable i0 X.env x = pure x) (hs1 : ∀ env x, foldedSetIterable i1 env x = pure x) : PE X (twoFor el t0 i0 t1 i1 scope pos) (tSc2 X.w ti g ti1 g1 te (own.map (·.2)) vs1) := by
  refine ⟨fun pins s σ H Q I h => ?_⟩
  rw [PpSet.eval_SetComp]
  refine sc2_ok hc hN I hi ok hv hb hs hs1 h fun D C u m H' K q hn f => ⟨m, hn, fun h'' sb => ?_⟩
  obtain ⟨f0, f1, f2, f3, f4, f5⟩ := f
  exact ⟨.ref D, H', K.turned (t' := u.toks) (fun b o hb e => (sb.2 b hb).trans e) f0 f1 f3 f4 f5, rfl, q⟩
/-- sorted({x for l in s for x in l}) -/
theorem pf_union (s l x : Nat) {sn ln xn : Str} {scope : Scope} {p p0 p1 p2 p3 p4 q pos : Pos} (hm : X.mg "sorted" = none) (hN : X.N.Nodup) (ok : BlkOk X.N X.env.scope scope [(ln, l), (xn, x)])
    (hs : PE X (.Name sn p1) (tVar s)) (h0 : ∀ i : BI, PG (bx X scope i) (.Name ln p0) (gName l)) (h1 : ∀ i : BI, PE (bx X scope i) (.Name ln p3) (tVar l)) (h2 : ∀ i : BI, PG (bx X scope i) (.Name xn p2) (gName x)) (h3 : ∀ i : BI, PE (bx X scope i) (.Name xn p4) (tVar x))
    (hg : Gl X "sorted" := by rfl) (hc : X.calm = true := by rfl) (hf0 : ∀ y, foldedSetIterable (.Name sn p1) X.env y = pure y := by intro _; rfl) (hf1 : ∀ env y, foldedSetIterable (.Name ln p3) env y = pure y := by intro _ _; rfl)
    (na : starEach [twoFor (.Name xn p4) (.Name ln p0) (.Name sn p1) (.Name xn p2) (.Name ln p3) scope q] X.env = (false, eval (twoFor (.Name xn p4) (.Name ln p0) (.Name sn p1) (.Name xn p2) (.Name ln p3) scope q) X.env) :: starEach [] X.env := by rfl) :
    PF X ah E (.Call (.Name "sorted" p) [twoFor (.Name xn p4) (.Name ln p0) (.Name sn p1) (.Name xn p2) (.Name ln p3) scope q] [] pos) (cUnion s l x) := by
  have e := pe_sc2 (X := X) (vs1 := [x]) (pos := q) (ti1 := iSeq X.K (tVar l)) (g := gName l) (g1 := gName x) (te := tVar x) hc hN (pi_seq hs) ok (by simp) (fun a b C cl fp => ⟨h0 (a, b, C, cl, fp), pi_seq (h1 (a, b, C, cl, fp)), h2 (a, b, C, cl, fp), h3 (a, b, C, cl, fp)⟩) hf0 hf1
  exact ⟨_, pe_callB (cr_sortedSet hc) hg hm (by decide +kernel) (pa_cons e pa_nil na) (by decide) (by decide) na rfl, re_union (w := X.w) s l x⟩
end
end FD
set_option Elab.async false
set_option linter.all false
set_option maxRecDepth 100000
set_option maxHeartbeats 2000000
namespace FD
open PySem L2 PyProof.Rows
/-! # rows of a try that store nothing, and raise or not -/
def GotK (F : Fx) (S : Hp) (σ : L2.St) (E : XK) (Z : Ends) : M Fl → Prop
  | some (.ok (.nx ρ) g) => ∀ H' S', Same S S' → Rep F ρ g σ H' S' → Z.nx σ H'
  | m => GotS F S E Z m
structure RSk (c : DC) (E : L2.St → XK) (t : TS) (f : FS) : Prop where
  run : ∀ (F : Fx) (ρ : List En) (g : Gh) (σ : L2.St) (H S : Hp) (Z : Ends), F.c = c → Rep F ρ g σ H S → GotK F S σ (E σ) Z (f ρ g) → t Z σ H
def PFK (X : Cx) (ah : Option Addr) (E : L2.St → XK) (s : Stmt) (f : FS) : Prop := ∃ t, PS X s t ∧ RSk (dc X ah) E t f
section
variable {X : Cx} {ah : Option Addr} {E : L2.St → XK}
theorem GotK.toS {F : Fx} {S : Hp} {σ : L2.St} {E : XK} {Z : Ends} {m : M Fl} (G : GotK F S σ E Z m) (h : ∀ ρ g, m ≠ some (.ok (.nx ρ) g)) : GotS F S E Z m := by
  cases m with
  | none => exact G
  | some o => cases o with
    | ok f g => cases f with
      | nx ρ => exact (h ρ g rfl).elim
      | bk ρ => exact G
      | ct ρ => exact G
      | rt d => exact G
    | ex c ks ds g => exact G
theorem pfk_ifret {c e : Expr} {fc : FT} {fe : FE} {p pos : Pos} (hc : PFT X ah E c fc) (he : PF X ah E e fe) : PFK X ah E (.If c [.Return (some e) p] [] pos) (sIf fc (sRet fe) sNx) := by
  obtain ⟨t, p1, r⟩ := hc
  obtain ⟨u, q, s⟩ := pfws_one (pfw_ret (pos := p) he)
  refine ⟨_, ps_if p1 q pss_nil, ⟨fun F ρ g σ H S Z e R G => ?_⟩⟩
  refine r.run F ρ g σ H S _ e R ?_
  simp only [sIf] at G
  cases h : fc ρ g with
  | none => simp only [M.bd, h] at G; exact G
  | some o => cases o with
    | ok a g1 =>
      simp only [M.bd, h] at G
      intro w H1 S1 sm R1 rl
      cases rl
      cases a with
      | true =>
        rw [if_pos rfl] at G
        refine s.run F ρ g1 σ H1 S1 Z e R1 ?_
        have G' : GotS F S (E σ) Z (sRet fe ρ g1) := by
          refine GotK.toS G fun ρ2 g2 z => ?_
          simp only [sRet] at z
          cases hz : fe ρ g1 with
          | none => rw [hz] at z; cases z
          | some o => cases o with
            | ok a g1 => rw [hz] at z; cases z
            | ex a b c d => rw [hz] at z; cases z
        exact G'.mono sm
      | false =>
        rw [if_neg (by decide)] at G
        exact G H1 S1 sm R1
    | ex a b c d => simp only [M.bd, h] at G; exact G
theorem pfws_consK {s : Stmt} {rest : List Stmt} {a b : FS} (ha : PFK X ah E s a) (hb : PFws X ah E rest b) : PFws X ah E (s :: rest) (sSeq a b) := by
  obtain ⟨t, p, r⟩ := ha
  obtain ⟨u, q, s⟩ := hb
  refine ⟨_, pss_cons p q, ⟨fun F ρ g σ H S Z e R G => r.run F ρ g σ H S _ e R ?_⟩⟩
  unfold sSeq at G
  cases h : a ρ g with
  | none => rw [h] at G; exact G
  | some o => cases o with
    | ok f g1 => cases f with
      | nx ρ1 => rw [h] at G; exact fun H' S' sm R' => s.run F ρ1 g1 σ H' S' Z e R' (GotS.mono G sm)
      | bk ρ1 => rw [h] at G; exact G
      | ct ρ1 => rw [h] at G; exact G
      | rt d => rw [h] at G; exact G
    | ex cc ks ds g1 => rw [h] at G; exact G
end
end FD
set_option Elab.async false
set_option linter.all false
set_option maxRecDepth 100000
set_option maxHeartbeats 2000000
namespace FD
open PySem L2 PyProof.Rows
/-! # x[e] of a list that x alone holds -/
@[simp] def cOIx (i : Nat) (b : FE) : FE := fun ρ g => match ρ[i]? with
  | some (.hold none xs) => (b ρ g).bd fun k g2 => match k with
    | .int n => lift (atI xs n) g2
    | _ => none
  | _ => none
section
variable {X : Cx} {ah : Option Addr} {Es : L2.St → XK} {c : DC}
theorem pf_oix (i : Nat) {x : Str} {e1 : Expr} {b : FE} {p1 pos : Pos} (hb : PF X ah Es e1 b) (hS : PlainIx e1) (hN : X.N[i]? = some x := by rfl) (hv : Vis X.env.scope x := by first | exact Or.inl rfl | exact Or.inr (Or.inl rfl) | exact Or.inr (Or.inr rfl)) (hd : (x == ("__debug__" : Str)) = false := by decide)
    (hcd : (x == ("__classdict__" : Str)) = false := by decide) : PF X ah Es (.Subscript (.Name x p1) e1 pos) (cOIx i b) := by
  obtain ⟨t2, q2, r2⟩ := hb
  refine ⟨_, pe_ix ix_list (pe_var hN hv hd hcd) q2 hS, ⟨fun F ρ g σ H S Q e R G => ?_⟩⟩
  simp only [cOIx] at G
  split at G
  case h_2 => exact G.elim
  rename_i xs hi
  obtain ⟨so, h1, p, vs, rfl, h2, h3, h4, h5, h6⟩ := R.slots i _ hi
  refine ⟨.ref p, h1, ?_⟩
  refine r2.step e R G fun H2 S2 g2 k dk sm2 R2 hk G => ?_
  split at G
  case h_2 => exact G.elim
  rename_i n
  cases hk.intE
  obtain ⟨so, k1, p', ws, k0, k2, k3, k4, k5, k6⟩ := R2.slots i _ hi
  rw [h1] at k1; cases k1; cases k0
  cases ho : atI xs n with
  | none => rw [ho] at G; exact G.elim
  | some d =>
    rw [ho] at G
    obtain ⟨v, e1, e2⟩ := atI_map k6 ho
    have k5' : H2 p = some (.lst ws) := k5
    exact ⟨p, ws, n, v, rfl, rfl, SqL.of k5', e1, G.ret R2 e2⟩
end
section
variable {X : Cx} {ah : Option Addr} {E : XK} {c : DC}
/-- x = list(e), a list that x alone holds -/
@[simp] def sOwnC (i : Nat) (a : FA) : FS := fun ρ g => (a ρ g).bd fun xs g1 => match listD xs with
  | some (.lst ys) => some (.ok (.nx (ρ.set i (.own ys))) g1)
  | _ => none
theorem pfs_ownC (i : Nat) {x : Str} {e : Expr} {es : List Expr} {a : FA} {p p1 pos pos' : Pos} (hN : X.N.Nodup) (hm : X.mg "list" = none) (ha : PFA X ah (fun _ => E) (e :: es) a) (hi : X.N[i]? = some x := by rfl) (hx : Loc X.env.scope x := by first | exact Or.inl rfl | exact Or.inr rfl) (hs : swapsWith (.Call (.Name "list" p) (e :: es) [] p1) (some (.Name x pos')) pos.line X.env = pure false := by rfl)
    (hf : X.fn x = true ∨ X.env.scope.names.lookup x = some .local := by first | exact .inl rfl | exact .inr rfl)
    (hg : Gl X "list" := by rfl) (he : starEach (e :: es) X.env = (false, eval e X.env) :: starEach es X.env := by rfl) (hpl : (backTo p1 (starEach es X.env)).any (·.1) = false := by rfl) : PFS X ah E (.Assign [.Name x pos'] (.Call (.Name "list" p) (e :: es) [] p1) pos) (sOwnC i a) := by
  obtain ⟨t, q, r⟩ := ha
  refine ⟨_, ps_set hN hi hx (pe_callTy call_list_of hg hm (by decide +kernel) q (by decide) (by decide) he hpl) hs hf, ⟨fun F ρ g σ H S Z e R G => ?_⟩⟩
  simp only [sOwnC] at G
  refine r.stepS e R G fun H1 S1 g1 vs ds sm R1 hv G => ?_
  split at G
  case h_2 => exact G.elim
  rename_i ys hl
  unfold listD at hl
  split at hl
  · cases hl
    obtain ⟨v, rfl, hw⟩ := hv.one
    cases hw with
    | tup h hs => exact ⟨_, _, rfl, .inr (Same.tup R1.sub h), fun l hl => G _ _ S1 (Same.refl S1) (R1.setOwn i hl (e.symm ▸ hs))⟩
  · cases hl
    obtain ⟨v, rfl, hw⟩ := hv.one
    cases hw with
    | lst h hs => exact ⟨_, _, rfl, .inl (SqL.of (R1.sub _ _ h)), fun l hl => G _ _ S1 (Same.refl S1) (R1.setOwn i hl (e.symm ▸ hs))⟩
  · cases hl
end
section
variable {X : Cx} {ah : Option Addr} {E : L2.St → XK} {c : DC}
/-- a tuple as a test -/
def toBU : D → Option Bool
  | .tup xs => some (!xs.isEmpty)
  | _ => none
@[simp] def cTU (a : FE) : FT := fun ρ g => (a ρ g).bd fun x g1 => lift (toBU x) g1
theorem pft_tupT {e : Expr} {a : FE} (ha : PF X ah E e a) (he : ∀ whole, isTrue e X.env whole = (do let v ← whole; standAt e.pos; holding [v] (truthy v)) := by intro _; rfl) : PFT X ah E e (cTU a) := by
  obtain ⟨t, q, s⟩ := ha
  refine ⟨_, pt_truth q he, ?_⟩
  refine RG.bind (r := fun σ x H1 (Q : Bool → Hp → Prop) => ∃ k, TruV X.K x H1 k ∧ Q k H1) (k := fun ρ x g1 => lift (toBU x) g1) s fun F ρ g σ H S Q x d e R hx G => ?_
  cases hx with
  | @tup p vs ds h hs =>
    simp only [toBU, lift] at G
    have eK : F.c.K = X.K := by rw [e]
    refine ⟨!vs.isEmpty, .inr (.inl ⟨vs, by have := Same.tup R.sub h; exact this, rfl⟩), ?_⟩
    have el : vs.isEmpty = ds.isEmpty := by
      cases hs <;> rfl
    rw [el]
    exact G.ret R rfl
  | _ => simp only [toBU, lift] at G; exact G.elim
end
end FD
set_option Elab.async false
set_option linter.all false
set_option maxRecDepth 100000
set_option maxHeartbeats 2000000
namespace FD
open PySem L2 PyProof.Rows
section
variable {X : Cx} {ah : Option Addr} {E : L2.St → XK} {c : DC}
/-! # sum of a list of numbers, a list backwards -/
def sumD : List D → Option D
  | [.lst ds] => (intsD ds).map fun ns => .int ns.sum
  | _ => none
theorem cs_sum : CallS c (rSum c.K) sumD := by
  intro E F ρ g σ H S Q vs ds e R hx G
  subst e
  unfold sumD at G
  split at G
  · rename_i ds
    obtain ⟨v, rfl, hv⟩ := hx.one
    cases hv with
    | lst h hs =>
      cases q : intsD ds with
      | none => rw [q] at G; exact G.elim
      | some ns =>
        rw [q] at G
        have hv := intsD_of hs q
        subst hv
        exact ⟨_, ns, rfl, SqL.of (R.sub _ _ h), G.ret R (.int _)⟩
  · exact G.elim
def revD : D → Option D
  | .lst xs => some (.lst xs.reverse)
  | _ => none
theorem Dns.reverse {c : DC} {H : Hp} : ∀ {vs : List V} {ds : List D}, Dns c H vs ds → Dns c H vs.reverse ds.reverse
  | _, _, .nil => .nil
  | _, _, .cons h hs => by
    rw [List.reverse_cons, List.reverse_cons]
    exact (Dns.reverse hs).append (.cons h .nil)
theorem pf_rev {e : Expr} {a : FE} {k : Nat} {p1 p2 p3 pos : Pos} (ha : PF X ah E e a) : PF X ah E (.Subscript e (.Slice none none (some (.UnaryOp .USub (.Constant (.int 1) k p1) p2)) p3) pos) (c1 revD a) := by
  obtain ⟨t, q, s⟩ := ha
  refine ⟨_, pe_revL q, ?_⟩
  refine RG.bind (r := fun σ x H1 (Q : VK) => ∃ a xs, x = .ref a ∧ SqL X.K H1 a xs ∧ ∀ p, H1 p = none → Q (.ref p) (upd H1 p (.lst xs.reverse))) (k := fun ρ x g1 => lift (revD x) g1) s fun F ρ g σ H S Q x d e R hx G => ?_
  cases hx with
  | @lst p vs ds h hs =>
    simp only [revD, lift] at G
    exact ⟨_, vs, rfl, SqL.of (R.sub _ _ h), fun l hl => G.new R hl (.lst upd_same ((Dns.reverse (e.symm ▸ hs)).mono (R.tosame _ hl)))⟩
  | _ => simp only [revD, lift] at G; exact G.elim
end
end FD
set_option Elab.async false
set_option linter.all false
set_option maxRecDepth 100000
set_option maxHeartbeats 2000000
namespace FD
open PySem PySem.Spec PyProof.Rows L2
/-! # the top's run, looked at piece by piece (a kernel run each: less memory) -/
noncomputable abbrev topEnd (r : PySem.W.OpenRow) (M : Nat) (w : World) (os : OsState) : Option PySem.W.SharedT := HandSHeadRun.endF (HandSHeadRun.stepQ (HandSHeadRun.denQ HandSHeadRun.tabQ) r.prog w) M r.prog w os
noncomputable abbrev topK (n : Nat) (s : PySem.W.SharedT) : PySem.W.Frag := He.frG (HandSHeadRun.getT s) (He.asD (HandSHeadRun.getT s) n)
theorem run_join {r : PySem.W.OpenRow} {q : Program} {M n : Nat} {loose : List Str} {w : World} {fas : List He.Fa} {fns : List He.DefD} {ex : PySem.W.Frag → Bool} (k : Nat)
    (a : HandSHeadRun.RunEq r q PySem.W.Hook.none (fun _ => ()) M loose w)
    (b : ∀ os, (topEnd r M w os).map (fun s => fas.all fun f => f.ok (topK n s)) = some true)
    (c1 : ∀ os, (topEnd r M w os).map (fun s => (fns.take k).all fun d => d.ok (topK n s)) = some true)
    (c2 : ∀ os, (topEnd r M w os).map (fun s => (fns.drop k).all fun d => d.ok (topK n s)) = some true)
    (d : ∀ os, (topEnd r M w os).map (fun s => fns.map fun d => He.fnW (topK n s) d.at_) = some (fns.map He.DefD.val))
    (e : ∀ os, (topEnd r M w os).map (fun s => ex (topK n s)) = some true) :
    HandSHeadRun.RunEq r q (hookF n fas fns ex) (fun s => obsF n fas fns ex (HandSHeadRun.getT s)) M loose w := by
  intro os
  have a := a os
  have b := b os
  have c1 := c1 os
  have c2 := c2 os
  have d := d os
  have e := e os
  show (topEnd r M w os).map _ = _
  have a : (topEnd r M w os).map _ = _ := a
  cases h : topEnd r M w os with
  | none => rw [h] at e; cases e
  | some s =>
    rw [h] at a b c1 c2 d e
    have a := Option.some.inj a
    have b : (fas.all fun f => f.ok (topK n s)) = true := Option.some.inj b
    have c1 : ((fns.take k).all fun d => d.ok (topK n s)) = true := Option.some.inj c1
    have c2 : ((fns.drop k).all fun d => d.ok (topK n s)) = true := Option.some.inj c2
    have d : fns.map (fun d => He.fnW (topK n s) d.at_) = fns.map He.DefD.val := Option.some.inj d
    have e : ex (topK n s) = true := Option.some.inj e
    have a1 := congrArg Prod.fst a
    have a2 := congrArg (fun z => z.2.1) a
    refine congrArg some (Prod.ext a1 (Prod.ext a2 ?_))
    show (He.obsD fas fns (topK n s), ex (topK n s)) = (He.valD fns, true)
    have hc : (fns.all fun d => d.ok (topK n s)) = true := by
      rw [← List.take_append_drop k fns, List.all_append, c1, c2]; rfl
    unfold He.obsD He.valD
    rw [b, hc, d, e]; rfl
end FD
set_option Elab.async false
set_option linter.all false
set_option maxRecDepth 100000
set_option maxHeartbeats 2000000
namespace FD
open PySem L2 PyProof.Rows
/-! # abs, sorted, index, extend, pop -/
section
variable {X : Cx} {ah : Option Addr} {E : L2.St → XK} {c : DC}
def absD : List D → Option D
  | [.int i] => some (.int (if i < 0 then -i else i))
  | _ => none
theorem cs_abs : CallS c (fun xs H Q => ∃ i, xs = [.int i] ∧ Q (.int (if i < 0 then -i else i)) H) absD := by
  intro E F ρ g σ H S Q vs ds e R hx G
  unfold absD at G
  split at G
  · obtain ⟨v, rfl, hv⟩ := hx.one
    cases hv
    exact ⟨_, rfl, G.ret R (.int _)⟩
  · exact G.elim
def sortI (ns : List Int) : List Int := ns.mergeSort (fun a b => decide (a ≤ b))
theorem sortI_of {ns out : List Int} (hp : out.Perm ns) (hs : out.Pairwise (· ≤ ·)) : out = sortI ns := by
  have h3 := List.pairwise_mergeSort (le := fun a b : Int => decide (a ≤ b)) (fun a b c h1 h2 => by simp at *; omega) (fun a b => by simp; omega) ns
  exact List.Perm.eq_of_pairwise (le := fun a b : Int => a ≤ b) (fun a b _ _ h1 h2 => by omega) hs (h3.imp fun {a b} h => by simpa using h) (hp.trans (List.mergeSort_perm _ _).symm)
/-- sorted(xs), a list or a tuple of fewer than 64 whole numbers -/
def sortD : List D → Option D
  | [.lst ds] => (intsD ds).bind fun ns => if ns.length < 64 then some (.lst ((sortI ns).map .int)) else none
  | [.tup ds] => none
  | _ => none
theorem cs_sorted : CallS c (rSorted c.K) sortD := by
  intro E F ρ g σ H S Q vs ds e R hx G
  subst e
  unfold sortD at G
  split at G
  · rename_i ds
    obtain ⟨v, rfl, hv⟩ := hx.one
    cases hv with
    | lst h hs =>
      cases q : intsD ds with
      | none => rw [q] at G; exact G.elim
      | some ns =>
        rw [q] at G
        have hv := intsD_of hs q
        subst hv
        simp only [Option.bind_some] at G
        by_cases hl : ns.length < 64
        · rw [if_pos hl] at G
          refine ⟨_, ns, rfl, SqL.of (R.sub _ _ h), hl, fun ns' p h1 h2 hn => ?_⟩
          have e := sortI_of h1 h2
          subst e
          exact G.new R hn (.lst upd_same (Dns.ints _))
        · rw [if_neg hl] at G; exact G.elim
  · exact G.elim
  · exact G.elim
/-- xs.index(z) of whole numbers -/
def indexD (ds : List D) : D → Option D
  | .int z => (intsD ds).bind fun ns => if ns.findIdx (· == z) < ns.length then some (.int (ns.findIdx (· == z) : Nat)) else none
  | _ => none
@[simp] def cIdxOf (a b : FE) : FE := fun ρ g => (a ρ g).bd fun x g1 => match x with
  | .lst ds => (b ρ g1).bd fun y g2 => lift (indexD ds y) g2
  | _ => none
end
section
variable {X : Cx} {ah : Option Addr} {E : XK} {c : DC}
/-- x.extend(e): the own list grows by a list -/
@[simp] def sExt (i : Nat) (a : FE) : FS := fun ρ g => match ρ[i]? with
  | some (.hold none xs) => (a ρ g).bd fun y g1 => match y with
    | .lst ys => if xs.length + ys.length ≤ 1000 then some (.ok (.nx (ρ.set i (.own (xs ++ ys)))) g1) else none
    | _ => none
  | _ => none
theorem pfs_ext (i : Nat) {x : Str} {e : Expr} {a : FE} {p1 p2 p3 pos : Pos} (ha : PF X ah (fun _ => E) e a) (hN : X.N[i]? = some x := by rfl) (hv : Vis X.env.scope x := by first | exact Or.inl rfl | exact Or.inr (Or.inl rfl) | exact Or.inr (Or.inr rfl)) (hd : (x == ("__debug__" : Str)) = false := by decide)
    (hcd : (x == ("__classdict__" : Str)) = false := by decide)
    (hbase : attributeBase (.Name x p1) "extend" X.env (eval (.Name x p1) X.env) = eval (.Name x p1) X.env := by rfl)
    (hfew : ((backTo p3 (starEach [e] X.env)).all (fun x => !x.1) && (backToKw p3 (keywordEach [] X.env)).all (fun x => x.1.isSome)
      && decide ([e].length + ([] : List Keyword).length + (if ([] : List Keyword).isEmpty then 0 else 1) < 30)) = true := by rfl)
    (hline : (p2.endLine == p3.line) = true := by rfl) (hst : starEach [e] X.env = (false, eval e X.env) :: starEach [] X.env := by rfl) (hplain : (backTo p3 (starEach [] X.env)).any (·.1) = false := by rfl)
    (hs : swapsWith (.Call (.Attribute (.Name x p1) "extend" p2) [e] [] p3) none pos.line X.env = pure false := by rfl) : PFS X ah E (.Expr (.Call (.Attribute (.Name x p1) "extend" p2) [e] [] p3) pos) (sExt i a) := by
  obtain ⟨t, q, r⟩ := ha
  refine ⟨_, ps_expr (pe_bm PySem.F.plainAttrs_list PySem.F.slot_list_extend PySem.F.type_list_extend mt_extend (pe_var hN hv hd hcd) (pa_cons q pa_nil hst) hbase hfew hline hst hplain) hs, ⟨fun F ρ g σ H S Z e R G => ?_⟩⟩
  simp only [sExt] at G
  split at G
  case h_2 => exact G.elim
  rename_i xs hi
  obtain ⟨so, h1, p, vs, rfl, h2, h3, h4, h5, h6⟩ := R.slots i _ hi
  refine ⟨.ref p, h1, .inl ⟨rfl, _, SqL.of h5⟩, ?_⟩
  refine r.stepS e R G fun H1 S1 g1 y d sm R1 hy G => ?_
  obtain ⟨so, k1, p', ws, k0, k2, k3, k4, k5, k6⟩ := R1.slots i _ hi
  rw [h1] at k1; cases k1; cases k0
  cases hy with
  | @lst b us ys hb hys =>
    simp only at G
    by_cases hl : xs.length + ys.length ≤ 1000
    case neg => rw [if_neg hl] at G; exact G.elim
    rw [if_pos hl] at G
    exact ⟨p, b, ws, us, rfl, rfl, k5, R1.sub _ _ hb, by rw [k6.length, hys.length]; exact Nat.le_of_lt (small1000 hl), G _ _ S1 (Same.refl _) (R1.writeOwn hi h1 (k6.append (e.symm ▸ hys)))⟩
  | _ => simp only at G; exact G.elim
/-- x.append(y.pop(e)) of two own lists -/
@[simp] def sAppPop (i j : Nat) (a : FE) : FS := fun ρ g => match ρ[i]? with
  | some (.hold none xs) => match ρ[j]? with
    | some (.hold none zs) => (a ρ g).bd fun y g1 => match y with
      | .int k => if 0 ≤ k ∧ k < (zs.length : Int) ∧ zs.length ≤ 1000 ∧ xs.length ≤ 1000 ∧ i ≠ j then match zs[k.toNat]? with
          | some z => some (.ok (.nx ((ρ.set j (.own (zs.eraseIdx k.toNat))).set i (.own (xs ++ [z])))) g1)
          | none => none
        else none
      | _ => none
    | _ => none
  | _ => none
theorem seq_at {k : Int} {n : Nat} (h0 : 0 ≤ k) (h1 : k < (n : Int)) : seqIndex? k n = some k.toNat := by
  unfold seqIndex?
  have h2 : ¬ k < 0 := by omega
  simp [h2, h0, h1]
theorem Dns.eraseIdx {C : DC} {H : Hp} : ∀ {vs : List V} {ds : List D} (k : Nat), Dns C H vs ds → Dns C H (vs.eraseIdx k) (ds.eraseIdx k)
  | _, _, _, .nil => .nil
  | _, _, 0, .cons _ hs => hs
  | _, _, k + 1, .cons h hs => .cons h (Dns.eraseIdx k hs)
theorem Dns.at {C : DC} {H : Hp} : ∀ {vs : List V} {ds : List D} {k : Nat} {d : D}, Dns C H vs ds → ds[k]? = some d → ∃ v, vs[k]? = some v ∧ Dn C H v d
  | _, _, _, _, .nil, e => by simp at e
  | _, _, 0, _, .cons h _, e => by cases e; exact ⟨_, rfl, h⟩
  | _, _, k + 1, _, .cons _ hs, e => Dns.at (k := k) hs e
theorem pfs_appPop (i j : Nat) {x y : Str} {e : Expr} {a : FE} {p1 p2 p3 p4 p5 p6 pos : Pos} (ha : PF X ah (fun _ => E) e a) (hN : X.N[i]? = some x := by rfl) (hM : X.N[j]? = some y := by rfl)
    (hv : Vis X.env.scope x := by first | exact Or.inl rfl | exact Or.inr (Or.inl rfl) | exact Or.inr (Or.inr rfl)) (hw : Vis X.env.scope y := by first | exact Or.inl rfl | exact Or.inr (Or.inl rfl) | exact Or.inr (Or.inr rfl))
    (hd : (x == ("__debug__" : Str)) = false := by decide) (hcd : (x == ("__classdict__" : Str)) = false := by decide) (hd2 : (y == ("__debug__" : Str)) = false := by decide) (hcd2 : (y == ("__classdict__" : Str)) = false := by decide)
    (hbase : attributeBase (.Name x p1) "append" X.env (eval (.Name x p1) X.env) = eval (.Name x p1) X.env := by rfl)
    (hbase2 : attributeBase (.Name y p4) "pop" X.env (eval (.Name y p4) X.env) = eval (.Name y p4) X.env := by rfl)
    (hfew2 : ((backTo p6 (starEach [e] X.env)).all (fun x => !x.1) && (backToKw p6 (keywordEach [] X.env)).all (fun x => x.1.isSome)
      && decide ([e].length + ([] : List Keyword).length + (if ([] : List Keyword).isEmpty then 0 else 1) < 30)) = true := by rfl)
    (hline2 : (p5.endLine == p6.line) = true := by rfl) (hst2 : starEach [e] X.env = (false, eval e X.env) :: starEach [] X.env := by rfl) (hplain2 : (backTo p6 (starEach [] X.env)).any (·.1) = false := by rfl)
    (hfew : ((backTo p3 (starEach [.Call (.Attribute (.Name y p4) "pop" p5) [e] [] p6] X.env)).all (fun x => !x.1) && (backToKw p3 (keywordEach [] X.env)).all (fun x => x.1.isSome)
      && decide ([Expr.Call (.Attribute (.Name y p4) "pop" p5) [e] [] p6].length + ([] : List Keyword).length + (if ([] : List Keyword).isEmpty then 0 else 1) < 30)) = true := by rfl)
    (hline : (p2.endLine == p3.line) = true := by rfl) (hst : starEach [.Call (.Attribute (.Name y p4) "pop" p5) [e] [] p6] X.env = (false, eval (.Call (.Attribute (.Name y p4) "pop" p5) [e] [] p6) X.env) :: starEach [] X.env := by rfl) (hplain : (backTo p3 (starEach [] X.env)).any (·.1) = false := by rfl)
    (hs : swapsWith (.Call (.Attribute (.Name x p1) "append" p2) [.Call (.Attribute (.Name y p4) "pop" p5) [e] [] p6] [] p3) none pos.line X.env = pure false := by rfl) :
    PFS X ah E (.Expr (.Call (.Attribute (.Name x p1) "append" p2) [.Call (.Attribute (.Name y p4) "pop" p5) [e] [] p6] [] p3) pos) (sAppPop i j a) := by
  obtain ⟨t, q, r⟩ := ha
  refine ⟨_, ps_expr (pe_bm PySem.F.plainAttrs_list PySem.F.slot_list_append PySem.F.type_list_append mt_append (pe_var hN hv hd hcd) (pa_cons (pe_bm PySem.F.plainAttrs_list PySem.F.slot_list_pop PySem.F.type_list_pop mt_popAt (pe_var hM hw hd2 hcd2) (pa_cons q pa_nil hst2) hbase2 hfew2 hline2 hst2 hplain2) pa_nil hst) hbase hfew hline hst hplain) hs, ⟨fun F ρ g σ H S Z e R G => ?_⟩⟩
  simp only [sAppPop] at G
  split at G
  case h_2 => exact G.elim
  rename_i xs hi
  split at G
  case h_2 => exact G.elim
  rename_i zs hj
  obtain ⟨so, h1, p, vs, rfl, h2, h3, h4, h5, h6⟩ := R.slots i _ hi
  obtain ⟨so, j1, p', ws, rfl, j2, j3, j4, j5, j6⟩ := R.slots j _ hj
  refine ⟨.ref p, h1, .inl ⟨rfl, _, SqL.of h5⟩, ?_⟩
  refine ⟨.ref p', j1, .inl ⟨rfl, _, SqL.of j5⟩, ?_⟩
  refine r.stepS e R G fun H1 S1 g1 y d sm R1 hy G => ?_
  cases hy with
  | int k =>
    simp only at G
    by_cases hc : 0 ≤ k ∧ k < (zs.length : Int) ∧ zs.length ≤ 1000 ∧ xs.length ≤ 1000 ∧ i ≠ j
    case neg => rw [if_neg hc] at G; exact G.elim
    rw [if_pos hc] at G
    obtain ⟨k0, k1, lz, lx, ne⟩ := hc
    obtain ⟨so, b1, pb, ub, b2, b3, b4, b5, b6, b7⟩ := R1.slots j _ hj
    rw [j1] at b1; cases b1; cases b2
    cases hz : zs[k.toNat]? with
    | none => rw [hz] at G; exact G.elim
    | some z =>
      rw [hz] at G
      obtain ⟨v, hv1, hv2⟩ := Dns.at b7 hz
      have len := b7.length
      refine ⟨p', ub, k, k.toNat, v, rfl, rfl, b6, by omega, by omega, by rw [len]; exact seq_at k0 k1, hv1, ?_⟩
      have R2 := R1.writeOwn hj j1 (b7.eraseIdx k.toNat)
      have hi2 : (ρ.set j (.own (zs.eraseIdx k.toNat)))[i]? = some (.own xs) := by rw [set_get (Ne.symm ne)]; exact hi
      obtain ⟨so, c1, pc, uc, c2, c3, c4, c5, c6, c7⟩ := R2.slots i _ hi2
      rw [h1] at c1; cases c1; cases c2
      exact ⟨p, uc, v, rfl, rfl, c6, by rw [c7.length]; exact small1000 lx, G _ _ S1 (Same.refl _) (R2.writeOwn hi2 h1 (c7.append (.cons (e ▸ hv2) .nil)))⟩
  | _ => simp only at G; exact G.elim
end
section
variable {X : Cx} {ah : Option Addr} {E : L2.St → XK} {c : DC}
theorem flat_ints' (ns : List Int) : (ns.map V.int).all flatV = true := by
  rw [List.all_map]
  exact List.all_eq_true.mpr fun n _ => rfl
/-- xs.index(z) -/
theorem pf_index {o e : Expr} {fo fe : FE} {p2 p3 : Pos} (ho : PF X ah E o fo) (he : PF X ah E e fe)
    (hbase : attributeBase o "index" X.env (eval o X.env) = eval o X.env := by rfl)
    (hfew : ((backTo p3 (starEach [e] X.env)).all (fun x => !x.1) && (backToKw p3 (keywordEach [] X.env)).all (fun x => x.1.isSome)
      && decide ([e].length + ([] : List Keyword).length + (if ([] : List Keyword).isEmpty then 0 else 1) < 30)) = true := by rfl)
    (hline : (p2.endLine == p3.line) = true := by rfl) (hst : starEach [e] X.env = (false, eval e X.env) :: starEach [] X.env := by rfl) (hplain : (backTo p3 (starEach [] X.env)).any (·.1) = false := by rfl) : PF X ah E (.Call (.Attribute o "index" p2) [e] [] p3) (cIdxOf fo fe) := by
  obtain ⟨t, q, r⟩ := ho
  obtain ⟨t2, q2, r2⟩ := he
  refine ⟨_, pe_bm PySem.F.plainAttrs_list PySem.F.slot_list_index PySem.F.type_list_index mt_index q (pa_cons q2 pa_nil hst) hbase hfew hline hst hplain, ⟨fun F ρ g σ H S Q e R G => ?_⟩⟩
  refine r.step e R G fun H1 S1 g1 x dx sm R1 hx G => ?_
  cases hx with
  | @lst p vs ds h hs =>
    refine ⟨.inl ⟨rfl, _, SqL.of (R1.sub _ _ h)⟩, ?_⟩
    refine r2.step e R1 G fun H2 S2 g2 y dy sm2 R2 hy G => ?_
    cases hy with
    | int z =>
      simp only [indexD] at G
      cases hq : intsD ds with
      | none => rw [hq] at G; exact G.elim
      | some ns =>
        rw [hq] at G
        have hv := intsD_of hs hq
        subst hv
        simp only [Option.bind_some] at G
        by_cases hl : ns.findIdx (· == z) < ns.length
        case neg => rw [if_neg hl] at G; exact G.elim
        rw [if_pos hl] at G
        have hz := List.findIdx_getElem (p := (· == z)) (xs := ns) (w := hl)
        refine ⟨p, ns.map V.int, .int z, ns.findIdx (· == z), .int (ns[ns.findIdx (· == z)]), rfl, rfl, SqL.of (R2.sub _ _ (sm2 _ _ h)), rfl, flat_ints' ns, by rw [List.getElem?_map, List.getElem?_eq_getElem hl]; rfl, ?_, fun m z' hm hz' => ?_, G.ret R2 (.int _)⟩
        · simp [eqV]
          simpa using hz
        · rw [List.getElem?_map, Option.map_eq_some_iff] at hz'
          obtain ⟨u, hu, rfl⟩ := hz'
          obtain ⟨hml, rfl⟩ := List.getElem?_eq_some_iff.mp hu
          have := List.not_of_lt_findIdx hm
          simp [eqV]
          simpa using this
    | _ => simp only [indexD, lift] at G; exact G.elim
  | _ => simp only at G; exact G.elim
end
section
variable {X : Cx} {ah : Option Addr} {E : L2.St → XK} {c : DC}
/-! ### isinstance(x, dict) -/
def isDictD : D → Option D
  | .non => some (.bl false)
  | .bl _ => some (.bl false)
  | .int _ => some (.bl false)
  | .str _ => some (.bl false)
  | .tup _ => some (.bl false)
  | .lst _ => some (.bl false)
  | .emp => some (.bl true)
  | _ => none
theorem kitB_dict : kitB "NoneType" "dict" = some false ∧ kitB "bool" "dict" = some false ∧ kitB "int" "dict" = some false ∧ kitB "str" "dict" = some false ∧ kitB "tuple" "dict" = some false ∧ kitB "list" "dict" = some false ∧ kitB "dict" "dict" = some true := by decide +kernel
theorem re_isDict {te : TE} {a : FE} (ha : RE c E te a) : RE c E (tCB (rIsi c.K) (tCons te (tCons (tC (.ty "dict")) tNil))) (c1 isDictD a) := by
  refine RG.bind (r := fun σ x H1 (Q : VK) => rIsi c.K [x, .ty "dict"] H1 Q) (k := fun ρ x g1 => lift (isDictD x) g1) ha fun F ρ g σ H S Q x d e R hx G => ?_
  obtain ⟨k0, k1, k2, k3, k4, k5, k6⟩ := kitB_dict
  cases hx with
  | non => exact ⟨_, _, _, _, _, rfl, .ty "dict", .base .non, kit_ty k0, G.ret R (.bl _)⟩
  | bl b => exact ⟨_, _, _, _, _, rfl, .ty "dict", .base (.bl b), kit_ty k1, G.ret R (.bl _)⟩
  | int b => exact ⟨_, _, _, _, _, rfl, .ty "dict", .base (.int b), kit_ty k2, G.ret R (.bl _)⟩
  | str b => exact ⟨_, _, _, _, _, rfl, .ty "dict", .base (.str b), kit_ty k3, G.ret R (.bl _)⟩
  | tup h hs =>
    refine ⟨_, _, .type "tuple", _, _, rfl, .ty "dict", ?_, kit_ty k4, G.ret R (.bl _)⟩
    rcases Same.tup R.sub h with (h | ⟨o, h⟩) | ⟨o, its, n, h, hc, _⟩
    · exact .base (.tup h)
    · exact .fTuple h
    · exact .kTuple h hc
  | lst h hs => exact ⟨_, _, _, _, _, rfl, .ty "dict", .base (.lst (R.sub _ _ h)), kit_ty k5, G.ret R (.bl _)⟩
  | emp h => exact ⟨_, _, _, _, _, rfl, .ty "dict", .base (.dK (R.sub _ _ h)), kit_ty k6, G.ret R (.bl _)⟩
  | obj m h k hs => exact G.elim
  | hnd h => exact G.elim
  | rng h => exact G.elim
  | scr h => exact G.elim
  | dct h l hs => exact G.elim
theorem pf_isDict {e : Expr} {a : FE} {p p2 pos : Pos} (hm : X.mg "isinstance" = none) (hm2 : X.mg "dict" = none) (ha : PF X ah E e a) (hg : Gl X "isinstance" := by rfl) (hg2 : Gl X "dict" := by rfl)
    (he : starEach [e, .Name "dict" p2] X.env = (false, eval e X.env) :: starEach [.Name "dict" p2] X.env := by rfl) (he2 : starEach [.Name "dict" p2] X.env = (false, eval (.Name "dict" p2) X.env) :: starEach [] X.env := by rfl) (hpl : (backTo pos (starEach [.Name "dict" p2] X.env)).any (·.1) = false := by rfl) :
    PF X ah E (.Call (.Name "isinstance" p) [e, .Name "dict" p2] [] pos) (c1 isDictD a) := by
  obtain ⟨u, q, s⟩ := ha
  refine ⟨_, pe_callB call_isi hg hm (by decide +kernel) (pa_cons q (pa_cons (pe_bltn (v := .ty "dict") hg2 hm2 (by decide +kernel) rfl (by decide +kernel) (by decide +kernel)) pa_nil he2) he) (by decide) (by decide) he hpl, ?_⟩
  exact re_isDict (c := dc X ah) s
end
section
variable {X : Cx} {ah : Option Addr} {E : XK} {c : DC}
@[simp] def sPar3 (i j l : Nat) (a : FA) : FS := fun ρ g => (a ρ g).bd fun xs g1 => match xs with
  | [x, y, z] => some (.ok (.nx (((ρ.set i (.dt x)).set j (.dt y)).set l (.dt z))) g1)
  | _ => none
theorem Dns.three' {C : DC} {S : Hp} {vs : List V} {x y z : D} (h : Dns C S vs [x, y, z]) : ∃ u v w, vs = [u, v, w] ∧ Dn C S u x ∧ Dn C S v y ∧ Dn C S w z := by
  cases h with
  | cons h1 h => cases h with
    | cons h2 h => cases h with
      | cons h3 h => cases h; exact ⟨_, _, _, rfl, h1, h2, h3⟩
theorem pfs_par3 (i j l : Nat) {x y z : Str} {a b d : Expr} {fa : FA} {px py pz pt pt2 pos : Pos} {kt k2 : _} (hc : X.calm = true) (hN : X.N.Nodup) (ha : PFA X ah (fun _ => E) [a, b, d] fa) (hij : i ≠ j := by decide) (hil : i ≠ l := by decide) (hjl : j ≠ l := by decide) (hi : X.N[i]? = some x := by rfl) (hj : X.N[j]? = some y := by rfl) (hl : X.N[l]? = some z := by rfl)
    (hx : X.env.scope.names.lookup x = some .local := by rfl) (hy : X.env.scope.names.lookup y = some .local := by rfl) (hz : X.env.scope.names.lookup z = some .local := by rfl)
    (hw : swappedStores [.Tuple [.Name x px, .Name y py, .Name z pz] kt pt] (.Tuple [a, b, d] k2 pt2) X.env = pure (some [x, y, z]) := by rfl)
    (hs : swapsWithSole [.Tuple [.Name x px, .Name y py, .Name z pz] kt pt] (.Tuple [a, b, d] k2 pt2) pos.line X.env = pure false := by rfl) :
    PFS X ah E (.Assign [.Tuple [.Name x px, .Name y py, .Name z pz] kt pt] (.Tuple [a, b, d] k2 pt2) pos) (sPar3 i j l fa) := by
  obtain ⟨t, p, r⟩ := ha
  refine ⟨_, ps_par3 hc hN hi hj hl hij hil hjl hx hy hz p hw hs, ?_⟩
  refine RS.bind (r := fun Z σ vs H1 => ∃ u v w, vs = [u, v, w] ∧ Z.nx (((σ.set i (some u)).set j (some v)).set l (some w)) H1) (k := fun ρ xs g1 => match xs with
    | [x, y, z] => some (.ok (.nx (((ρ.set i (.dt x)).set j (.dt y)).set l (.dt z))) g1)
    | _ => none) r fun F ρ g σ H S Z vs ds e R hx G => ?_
  split at G
  · obtain ⟨u, v, w, rfl, h1, h2, h3⟩ := Dns.three' hx
    rw [← e] at h1 h2 h3
    exact ⟨u, v, w, rfl, G _ H S (Same.refl S) (((R.set i h1).set j h2).set l h3)⟩
  · exact G.elim
end
end FD
set_option Elab.async false
set_option linter.all false
set_option maxRecDepth 100000
set_option maxHeartbeats 2000000
namespace FD
open PySem L2 PyProof.Rows
/-! # x, y, z = [], [a], b: two own lists and a value at once -/
/-- the own ones out of sight -/
def hidE (ρ : List En) : List En := ρ.map hideE
theorem Rep.hide {F : Fx} {ρ g σ H S} (R : Rep F ρ g σ H S) : Rep ⟨F.c, H, S⟩ (hidE ρ) g σ H S := by
  have B := R.bare.sub_frame
  refine ⟨B.sub, B.hand, B.keep, B.stay, fun i en h => ?_, fun i j p xs ys h1 h2 h3 h4 => ?_⟩
  · unfold hidE at h
    rw [List.getElem?_map, Option.map_eq_some_iff] at h
    obtain ⟨e0, h1, h2⟩ := h
    obtain ⟨so, k1, k2⟩ := R.slots i e0 h1
    refine ⟨so, k1, ?_⟩
    subst h2
    cases e0 with
    | un => trivial
    | hold ks xs => trivial
    | dt d => exact k2
  · unfold hidE at h1
    rw [List.getElem?_map, Option.map_eq_some_iff] at h1
    obtain ⟨e0, _, h2⟩ := h1
    cases e0 <;> simp [hideE] at h2
/-- a list that lies there and that nothing speaks of becomes a name's own -/
theorem Rep.adopt {F : Fx} {ρ g σ H S} (R : Rep F ρ g σ H S) (i : Nat) {p : Addr} {kx : Option (List Int)} {vs : List V} {xs : List D} (h : H p = some (shO kx vs)) (hS : S p = none) (hE : F.HE p = none) (ha : F.c.ah ≠ some p)
    (hn : ∀ (j : Nat) (ys : Option (List Int) × List D), ρ[j]? = some (.hold ys.1 ys.2) → σ[j]? = some (some (.ref p)) → i = j) (hs : Dns F.c S vs xs) : Rep F (ρ.set i (.hold kx xs)) g (σ.set i (some (.ref p))) H S := by
  refine ⟨R.sub, R.hand, R.keep, R.stay, fun j e he => ?_, fun j k q xs' ys' h1 h2 h3 h4 => ?_⟩
  · rcases get_set he with ⟨rfl, rfl⟩ | ⟨ne, he⟩
    · have hl : i < ρ.length := by
        have := (List.getElem?_eq_some_iff.mp he).1
        simpa using this
      obtain ⟨so, h1, _⟩ := R.slots i (ρ[i]) (List.getElem?_eq_getElem hl)
      exact ⟨some (.ref p), set_at h1, p, vs, rfl, hS, hE, ha, h, hs⟩
    · obtain ⟨so, h1, h2⟩ := R.slots j e he
      exact ⟨so, by rw [set_get ne]; exact h1, h2⟩
  · rcases get_set h1 with ⟨z1, _⟩ | ⟨n1, h1⟩
    · rcases get_set h2 with ⟨z2, _⟩ | ⟨n2, h2⟩
      · rw [← z1, ← z2]
      · rw [set_get n2] at h4
        subst z1
        rcases get_set h3 with ⟨_, z⟩ | ⟨n, _⟩
        · cases z; exact hn k _ h2 h4
        · exact absurd rfl n
    · rw [set_get n1] at h3
      rcases get_set h2 with ⟨z2, _⟩ | ⟨n2, h2⟩
      · subst z2
        rcases get_set h4 with ⟨_, z⟩ | ⟨n, _⟩
        · cases z; exact (hn j _ h1 h3).symm
        · exact absurd rfl n
      · rw [set_get n2] at h4
        exact R.apart j k q xs' ys' h1 h2 h3 h4
section
variable {X : Cx} {ah : Option Addr} {E : XK} {c : DC}
@[simp] def sOwn3 (i j l : Nat) (a b : FE) : FS := fun ρ g => (a (hidE ρ) g).bd fun x g1 => (b (hidE ρ) g1).bd fun y g2 => some (.ok (.nx (((ρ.set i (.own [])).set j (.own [x])).set l (.dt y))) g2)
theorem step_hid {β α : Type} {rel : Rl β α} {c : DC} {t : TX β} {fa : List En → Gh → M α} (ha : RG rel c (fun _ => E) t fa) {F : Fx} {ρ : List En} {g : Gh} {σ : L2.St} {H S : Hp} {Z : Ends} {k : α → Gh → M Fl} {r : β → Hp → Prop}
    (e : F.c = c) (R : Rep F ρ g σ H S) (G : GotS F S E Z ((fa (hidE ρ) g).bd k)) (hk : ∀ H1 S1 g1 b a, Same S S1 → Rep ⟨F.c, H, S⟩ (hidE ρ) g1 σ H1 S1 → rel F.c S1 b a → GotS F S1 E Z (k a g1) → r b H1) : t σ H r := by
  refine ha.run ⟨F.c, H, S⟩ (hidE ρ) g σ H S _ e R.hide ?_
  cases h : fa (hidE ρ) g with
  | none => simp only [M.bd, h] at G; exact G
  | some o => cases o with
    | ok a g1 =>
      simp only [M.bd, h] at G
      exact fun b H1 S1 sm R1 rl => hk H1 S1 g1 b a sm R1 rl (G.mono sm)
    | ex cc ks ds g1 =>
      simp only [M.bd, h] at G
      exact fun A dd H' S' m sm B x => G A dd H' S' m sm (R.bare.behind sm B) x
theorem pfs_own3 (i j l : Nat) {x y z : Str} {e1 e2 : Expr} {a b : FE} {px py pz pt pt2 p1 p2 pos : Pos} {kt k2 : _} (hc : X.calm = true) (hN : X.N.Nodup) (ha : PF X ah (fun _ => E) e1 a) (hb : PF X ah (fun _ => E) e2 b) (hij : i ≠ j := by decide) (hil : i ≠ l := by decide) (hjl : j ≠ l := by decide)
    (hi : X.N[i]? = some x := by rfl) (hj : X.N[j]? = some y := by rfl) (hl : X.N[l]? = some z := by rfl)
    (hx : Loc X.env.scope x := by first | exact Or.inl rfl | exact Or.inr rfl) (hy : Loc X.env.scope y := by first | exact Or.inl rfl | exact Or.inr rfl) (hz : Loc X.env.scope z := by first | exact Or.inl rfl | exact Or.inr rfl)
    (fx : X.fn x = true ∨ X.env.scope.names.lookup x = some .local := by first | exact .inl rfl | exact .inr rfl) (fy : X.fn y = true ∨ X.env.scope.names.lookup y = some .local := by first | exact .inl rfl | exact .inr rfl) (fz : X.fn z = true ∨ X.env.scope.names.lookup z = some .local := by first | exact .inl rfl | exact .inr rfl)
    (g1 : starEach [.List [] p1, .List [e1] p2, e2] X.env = (false, eval (.List [] p1) X.env) :: starEach [.List [e1] p2, e2] X.env := by rfl) (g2 : starEach [.List [e1] p2, e2] X.env = (false, eval (.List [e1] p2) X.env) :: starEach [e2] X.env := by rfl) (g3 : starEach [e2] X.env = (false, eval e2 X.env) :: starEach [] X.env := by rfl) (g4 : starEach [e1] X.env = (false, eval e1 X.env) :: starEach [] X.env := by rfl)
    (hw : swappedStores [.Tuple [.Name x px, .Name y py, .Name z pz] kt pt] (.Tuple [.List [] p1, .List [e1] p2, e2] k2 pt2) X.env = pure none := by rfl)
    (hs : swapsWithSole [.Tuple [.Name x px, .Name y py, .Name z pz] kt pt] (.Tuple [.List [] p1, .List [e1] p2, e2] k2 pt2) pos.line X.env = pure false := by rfl)
    (q0 : (assignEach [.Name x px, .Name y py, .Name z pz] X.env).length = 3 := by rfl) (q1 : (assignEach [.Name x px, .Name y py, .Name z pz] X.env).findIdx? (·.1) = none := by rfl)
    (q2 : (assignEach [.Name x px, .Name y py, .Name z pz] X.env).map (·.2) = assign (.Name x px) X.env :: (assignEach [.Name y py, .Name z pz] X.env).map (·.2) := by rfl) (q3 : (assignEach [.Name y py, .Name z pz] X.env).map (·.2) = assign (.Name y py) X.env :: (assignEach [.Name z pz] X.env).map (·.2) := by rfl) (q4 : (assignEach [.Name z pz] X.env).map (·.2) = assign (.Name z pz) X.env :: (assignEach [] X.env).map (·.2) := by rfl)
    (q5 : (assignEach [.Tuple [.Name x px, .Name y py, .Name z pz] kt pt] X.env).map (·.2) = [assign (.Tuple [.Name x px, .Name y py, .Name z pz] kt pt) X.env] := by rfl) :
    PFS X ah E (.Assign [.Tuple [.Name x px, .Name y py, .Name z pz] kt pt] (.Tuple [.List [] p1, .List [e1] p2, e2] k2 pt2) pos) (sOwn3 i j l a b) := by
  obtain ⟨t, p, r⟩ := ha
  obtain ⟨t2, p2', r2⟩ := hb
  refine ⟨_, ps_asg (pe_tup (pa_cons (pe_lst pa_nil) (pa_cons (pe_lst (pa_cons p pa_nil g4)) (pa_cons p2' pa_nil g3) g2) g1)) (pg_tup hc (pgs_cons (pg_name hN hi hx fx) (pgs_cons (pg_name hN hj hy fy) (pgs_cons (pg_name hN hl hz fz) pgs_nil q4) q3) q2) q0 q1) hs hw q5, ⟨fun F ρ g σ H S Z e R G => ?_⟩⟩
  simp only [sOwn3] at G
  refine ⟨Nat.zero_le _, fun P1 hP1 => ?_⟩
  have nS1 : S P1 = none := R.sub.free hP1
  have nE1 := R.new_HE hP1
  have nA1 := R.new_ah hP1
  have J1 := R.junk (.lst []) hP1
  refine step_hid r e J1 G fun H2 S2 g1 v d sm B1 hd G => ?_
  have k1 : H2 P1 = some (.lst []) := B1.keep P1 _ upd_same nA1
  have s1 : S2 P1 = none := B1.stay P1 (by show upd H P1 (.lst []) P1 ≠ none; rw [upd_same]; simp) nS1
  have R2 : Rep F ρ g1 σ H2 S2 := J1.back sm B1.bare
  refine ⟨by show 1 ≤ sizeLine; rw [sizeLine_eq]; omega, fun P2 hP2 => ?_⟩
  have nS2 : S2 P2 = none := R2.sub.free hP2
  have nE2 := R2.new_HE hP2
  have nA2 := R2.new_ah hP2
  have n12 : P1 ≠ P2 := ne_of_none k1 hP2
  have J2 := R2.junk (.lst [v]) hP2
  refine step_hid r2 e J2 G fun H3 S3 g2 w d2 sm2 B2 hd2 G => ?_
  have k2 : H3 P2 = some (.lst [v]) := B2.keep P2 _ upd_same nA2
  have k1' : H3 P1 = some (.lst []) := B2.keep P1 _ (by show upd H2 P2 (.lst [v]) P1 = _; rw [upd_ne n12]; exact k1) nA1
  have s1' : S3 P1 = none := B2.stay P1 (by show upd H2 P2 (.lst [v]) P1 ≠ none; rw [upd_ne n12, k1]; simp) s1
  have s2' : S3 P2 = none := B2.stay P2 (by show upd H2 P2 (.lst [v]) P2 ≠ none; rw [upd_same]; simp) nS2
  have R3 : Rep F ρ g2 σ H3 S3 := J2.back sm2 B2.bare
  refine ⟨by show 3 ≤ sizeLine; rw [sizeLine_eq]; omega, fun P3 hP3 => ?_⟩
  refine ⟨P3, [.ref P1, .ref P2, w], rfl, .inl (.inl upd_same), rfl, .ref P1, _, rfl, .ref P2, _, rfl, w, _, rfl, rfl, ?_⟩
  have J3 := R3.junk (.tup [.ref P1, .ref P2, w]) hP3
  have A1 := J3.adopt i (kx := none) (vs := []) (xs := []) (by rw [upd_ne (ne_of_none k1' hP3)]; exact k1') s1' nE1 nA1 (fun m ys hm hσ => by
    obtain ⟨so, c1, q, us, c2, _, _, _, c5, _⟩ := R.slots m _ hm
    rw [hσ] at c1; cases c1
    cases c2
    rw [hP1] at c5; cases c5) .nil
  have A2 := A1.adopt j (kx := none) (vs := [v]) (xs := [d]) (by rw [upd_ne (ne_of_none k2 hP3)]; exact k2) s2' nE2 nA2 (fun m ys hm hσ => by
    exfalso
    rcases get_set hm with ⟨rfl, _⟩ | ⟨ne, hm⟩
    · rcases get_set hσ with ⟨_, z⟩ | ⟨n, _⟩
      · cases z; exact n12 rfl
      · exact n rfl
    · rw [set_get ne] at hσ
      obtain ⟨so, c1, q, us, c2, _, _, _, c5, _⟩ := R2.slots m _ hm
      rw [hσ] at c1; cases c1
      cases c2
      rw [hP2] at c5; cases c5) (.cons (hd.mono sm2) .nil)
  exact G _ _ S3 (Same.refl _) (A2.set l hd2)
end
section
variable {X : Cx} {ah : Option Addr} {Es : L2.St → XK} {c : DC}
/-- len(x) of an own list -/
@[simp] def cOLen (i : Nat) : FE := fun ρ g => match ρ[i]? with
  | some (.hold none xs) => some (.ok (.int (xs.length : Nat)) g)
  | _ => none
theorem pf_olen (i : Nat) {x : Str} {p p1 pos : Pos} (hm : X.mg "len" = none) (hN : X.N[i]? = some x := by rfl) (hv : Vis X.env.scope x := by first | exact Or.inl rfl | exact Or.inr (Or.inl rfl) | exact Or.inr (Or.inr rfl)) (hd : (x == ("__debug__" : Str)) = false := by decide)
    (hcd : (x == ("__classdict__" : Str)) = false := by decide) (hg : Gl X "len" := by rfl)
    (he : starEach [.Name x p1] X.env = (false, eval (.Name x p1) X.env) :: starEach [] X.env := by rfl) (hpl : (backTo pos (starEach [] X.env)).any (·.1) = false := by rfl) : PF X ah Es (.Call (.Name "len" p) [.Name x p1] [] pos) (cOLen i) := by
  refine ⟨_, pe_callB call_len_seq hg hm PySem.boot_len (pa_cons (pe_var hN hv hd hcd) pa_nil he) (by decide) (by decide) he hpl, ⟨fun F ρ g σ H S Q e R G => ?_⟩⟩
  simp only [cOLen] at G
  split at G
  case h_2 => exact G.elim
  rename_i xs hi
  obtain ⟨so, h1, p', vs, rfl, h2, h3, h4, h5, h6⟩ := R.slots i _ hi
  refine ⟨.ref p', h1, p', vs, rfl, .inl (SqL.of h5), ?_⟩
  rw [h6.length]
  exact G.ret R (.int _)
end
end FD
set_option Elab.async false
set_option linter.all false
set_option maxRecDepth 100000
set_option maxHeartbeats 2000000
namespace FD
open PySem L2 PyProof.Rows
/-! # y = {k: v for .. if ..}, keys whole numbers: an own dict -/
section
variable {X : Cx} {ah : Option Addr} {E : XK} {c : DC}
theorem ps_setDcL {i : Nat} {y : Str} {py : Pos} {kx vx tg iter : Expr} {ifs : List Expr} {scope : Scope} {own : List (Str × Nat)} {pos spos : Pos} {wi : TI} {g : TG} {tt : TT} {tk tv : TE} (hc : X.calm = true) (hN : X.N.Nodup) (hy : X.N[i]? = some y) (hyl : X.env.scope.names.lookup y = some .local)
    (hsw : swapsWith (.DictComp kx vx [⟨tg, iter, ifs, 0⟩] scope pos) (some (.Name y py)) spos.line X.env = pure true) (hi : PI X tg iter wi) (ok : BlkOk X.N X.env.scope scope own)
    (hg : ∀ (s : Shared) (H : Hp) (C : Addr) (cl : List (Str × Addr)) (fp : List Addr), PG (X.blk s H scope (compEnvC scope cl C X.env) fp) tg g) (ht : ∀ (s : Shared) (H : Hp) (C : Addr) (cl : List (Str × Addr)) (fp : List Addr), PTs (X.blk s H scope (compEnvC scope cl C X.env) fp) ifs tt)
    (hk : ∀ (s : Shared) (H : Hp) (C : Addr) (cl : List (Str × Addr)) (fp : List Addr), PE (X.blk s H scope (compEnvC scope cl C X.env) fp) kx tk)
    (he : ∀ (s : Shared) (H : Hp) (C : Addr) (cl : List (Str × Addr)) (fp : List Addr), PE (X.blk s H scope (compEnvC scope cl C X.env) fp) vx tv) (hs : ∀ x, foldedSetIterable iter X.env x = pure x := by intro _; rfl) :
    PS X (.Assign [.Name y py] (.DictComp kx vx [⟨tg, iter, ifs, 0⟩] scope pos) spos) (tAsg (tDc wi g tt tk tv (own.map (·.2))) (gName i)) := by
  refine ⟨fun pins s σ H D I h => ?_⟩
  rw [exec_Assign_Name_used _ _ _ _ hsw]
  refine wpAny_bind (wpAny_standAt (wpAny_bind ?_))
  have h : tDc wi g tt tk tv (own.map (·.2)) σ H (fun x H1 => gName i x σ H1 D.nx) := h
  refine wpAny_bind (thn (dc_core (pos' := firstIterPos [⟨tg, iter, ifs, 0⟩] pos) (use := some (assign (.Name y py) X.env)) (Qf := fun _ s' => SP X pins D .next s') hc hN I hi ok hg ht hk he hs h fun L C s' m H' I' q hn f => ?_) fun _ s' hq => wpAny_pure (wpAny_pure hq))
  show wpAny _ _ (assign (.Name y py) X.env (.ref L)) _ _ _
  refine wpAny_assign_Name (store_ok2 (v := V.ref L) I' hN hy (.inl hyl) rfl (fun s2 I2 ⟨a, sb, ha⟩ => ?_) (.inr hyl))
  obtain ⟨f0, f1, f2, f3, f4, f5⟩ := f
  have haC : C ≠ a := by
    rcases ha with z | z
    · rw [z]; exact f1
    · exact fun e => f4 y a z e.symm
  refine ⟨m, hn.sameBut sb haC, fun h3 sb3 => ?_⟩
  exact ⟨_, H', I2.turned (t' := s2.toks) (fun b o hb e => (sb3.2 b hb).trans e) f0 f1 f3 f4 f5, q⟩
theorem sw_trueD {kx vx : Expr} {gs : List Comprehension} {scope : Scope} {pos py : Pos} {y : Str} {l : Nat} {env : PySem.Env} (hk : env.scope.kind = .function) (hy : env.scope.names.lookup y = some .local) (hl : (py.line == pos.line) = true)
    (ha : (scope.names.any fun (n, k) => n == y && (k == .local || k == .cell)) = false) : swapsWith (.DictComp kx vx gs scope pos) (some (.Name y py)) l env = pure true := by
  have ky : env.kindOf y = some .local := hy
  have hb : env.blockKind = .function := by unfold Env.blockKind; rw [hk]; rfl
  unfold swapsWith
  simp only [hb, ky, ha, Expr.pos, hl]
  rfl
/-- the keys and values in turn -/
def dcompD (gs : FG) (ft : FT) (fk fv : FE) : List D → List En → List Int → List D → Gh → M (List Int × List D)
  | [], ρ, ks, xs, g => some (.ok (ks, xs) g)
  | d :: ds, ρ, ks, xs, g => match gs d ρ with
    | none => none
    | some ρ1 => match ft ρ1 g with
      | some (.ok true g1) => match fk ρ1 g1 with
        | some (.ok (.int k) g2) => match fv ρ1 g2 with
          | some (.ok y g3) => if ks.length ≤ 999 then dcompD gs ft fk fv ds ρ (dKs ks k) (dXs ks xs k y) g3 else none
          | _ => none
        | _ => none
      | some (.ok false g1) => dcompD gs ft fk fv ds ρ ks xs g1
      | _ => none
@[simp] def sOwnDc (i : Nat) (fi : FI) (vs : List Nat) (gs : FG) (ft : FT) (fk fv : FE) : FS := fun ρ g => (fi ρ g).bd fun ds g1 => match dcompD gs ft fk fv ds (blkE ρ vs) [] [] g1 with
  | some (.ok p g2) => some (.ok (.nx (ρ.set i (.ownd p.1 p.2))) g2)
  | _ => none
theorem dcompD_cons {gs : FG} {ft : FT} {fk fv : FE} {d : D} {ds : List D} {ρ : List En} {ks : List Int} {xs : List D} {g : Gh} {r : List Int × List D} {gE : Gh} (h : dcompD gs ft fk fv (d :: ds) ρ ks xs g = some (.ok r gE)) :
    ∃ ρ1 b g1, gs d ρ = some ρ1 ∧ ft ρ1 g = some (.ok b g1) ∧ ((b = true ∧ ∃ k g2 y g3, fk ρ1 g1 = some (.ok (.int k) g2) ∧ fv ρ1 g2 = some (.ok y g3) ∧ ks.length ≤ 999 ∧ dcompD gs ft fk fv ds ρ (dKs ks k) (dXs ks xs k y) g3 = some (.ok r gE)) ∨ (b = false ∧ dcompD gs ft fk fv ds ρ ks xs g1 = some (.ok r gE))) := by
  unfold dcompD at h
  split at h
  · cases h
  rename_i ρ1 e1
  split at h
  · rename_i g1 e2
    split at h
    · rename_i k g2 e3
      split at h
      · rename_i y g3 e4
        split at h
        · rename_i hl
          exact ⟨ρ1, true, g1, e1, e2, .inl ⟨rfl, k, g2, y, g3, e3, e4, hl, h⟩⟩
        · cases h
      · cases h
    · cases h
  · rename_i g1 e2
    exact ⟨ρ1, false, g1, e1, e2, .inr ⟨rfl, h⟩⟩
  · cases h
theorem rs_dc {wi : TI} {fi : FI} {tg : TG} {gs : FG} {tt : TT} {ft : FT} {tk tv : TE} {fk fv : FE} {vs : List Nat} (i0 : Nat) (hi : @RG It (List D) rI c (fun _ => E) wi fi) (hg : RTg c tg gs) (hw : TGw tg vs) (hm : TGm tg) (ht : RT c (fun _ => E0) tt ft) (hk : RE c (fun _ => E0) tk fk) (he : RE c (fun _ => E0) tv fv) :
    RS c E (tAsg (tDc wi tg tt tk tv vs) (gName i0)) (sOwnDc i0 fi vs gs ft fk fv) := by
  refine RS.bind (rel := rI) (r := fun Z σ J H1 => ∀ D, H1 D = none → ∃ W : Nat → Nat → Hp → Prop, (∃ m, W 0 m (upd H1 D (.dK []))) ∧ ∀ i m H, W i m H →
    (J.stop i H ∧ gName i0 (.ref D) σ H Z.nx) ∨ (J.go i H ∧ ∃ Nx : Hp → Prop, (∀ H', Nx H' → ∃ m', m' < m ∧ W (i + 1) m' H') ∧ ∀ x H', J.yld i H x H' → tg x (wipe σ vs) H' fun σ2 H2 => wipe σ2 vs = wipe σ vs ∧ tt σ2 H2 fun b H3 =>
      if b = true then tk σ2 H3 fun y H4 => tv σ2 H4 fun z H5 => ∃ kvs k, y = kV k ∧ H5 D = some (.dK kvs) ∧ kvs.length < sizeLine ∧ Nx (upd H5 D (.dK (putK kvs k z))) else Nx H3))
    (k := fun ρ ds g1 => match dcompD gs ft fk fv ds (blkE ρ vs) [] [] g1 with
      | some (.ok p g2) => some (.ok (.nx (ρ.set i0 (.ownd p.1 p.2))) g2)
      | _ => none) hi fun F ρ g σ H S Z J ds e R hJ G => ?_
  intro p hp
  cases hc : dcompD gs ft fk fv ds (blkE ρ vs) [] [] g with
  | none => rw [hc] at G; exact G.elim
  | some o =>
  rw [hc] at G
  cases o with
  | ex cc ks es g1 => exact G.elim
  | ok r gE =>
  simp only at G
  have pah : F.c.ah ≠ some p := R.new_ah hp
  have R0 := R.sub_frame
  let Pv : Nat → Hp → Prop := fun i H' => ∃ g' S' us ks zs, Same S S' ∧ Rep ⟨F.c, H, S⟩ [] g' [] H' S' ∧ H' p = some (.dK (kvO ks us)) ∧ ks.length = us.length ∧ S' p = none ∧ Dns F.c S' us zs ∧ dcompD gs ft fk fv (ds.drop i) (blkE ρ vs) ks zs g' = some (.ok r gE)
  refine ⟨fun i m H' => m = ds.length - i ∧ i ≤ ds.length ∧ Pv i H', ⟨ds.length, by simp, Nat.zero_le _, g, S, [], [], [], Same.refl S, R0.write1 (R.sub.free hp) hp pah, upd_same, rfl, R.sub.free hp, .nil, hc⟩, ?_⟩
  rintro i m H' ⟨rfl, hi', g', S', us, ks, zs, sm, R', hD, hkl, hS, hz, hcr⟩
  by_cases hlt : i < ds.length
  · refine .inr ?_
    rw [drop_of hlt] at hcr
    obtain ⟨ρ1, b, g1, e1, e2, alt⟩ := dcompD_cons hcr
    have RI := Rep.inner (F' := ⟨F.c, H, S⟩) R vs sm rfl R'
    obtain ⟨go, yl⟩ := hJ.go ⟨F.c, H', S'⟩ _ g' (wipe σ vs) H' S' i ds[i] e sm RI (List.getElem?_eq_getElem hlt)
    refine ⟨go, Pv (i + 1), fun H2 p' => ⟨ds.length - (i + 1), by omega, rfl, hlt, p'⟩, fun x H1 y => ?_⟩
    obtain ⟨S1, sm1, R1, hx⟩ := yl x H1 y
    have hgw := hw x (wipe σ vs) H1 (fun σ2 H2 => tt σ2 H2 fun b H3 =>
      if b = true then tk σ2 H3 fun y H4 => tv σ2 H4 fun z H5 => ∃ kvs k, y = kV k ∧ H5 p = some (.dK kvs) ∧ kvs.length < sizeLine ∧ Pv (i + 1) (upd H5 p (.dK (putK kvs k z))) else Pv (i + 1) H3)
    have ww : wipe (wipe σ vs) vs = wipe σ vs := by
      apply List.ext_getElem?
      intro j
      rw [wipe_get, wipe_get, wipe_length]
      split <;> rfl
    refine hm.mono _ _ _ _ _ (fun σ2 H2 q => ⟨q.2.trans ww, q.1⟩) (hgw ?_)
    refine hg.run ⟨F.c, H', S'⟩ _ g' (wipe σ vs) H1 S1 x _ _ e R1 hx ?_
    rw [e1]
    intro σ2 R2
    refine ht.run ⟨F.c, H', S'⟩ _ g' σ2 H1 S1 _ e R2 ?_
    rw [e2]
    intro b' H3 S3 sm3 R3 hb
    have hb : b' = b := hb
    subst hb
    have keep : ∀ {ρx gx σx Hx Sx}, Rep ⟨F.c, H', S'⟩ ρx gx σx Hx Sx → Hx p = some (.dK (kvO ks us)) ∧ Sx p = none := fun {ρx gx σx Hx Sx} Rx => ⟨Rx.keep p _ hD pah, Rx.stay p (by show H' p ≠ none; rw [hD]; simp) hS⟩
    rcases alt with ⟨rfl, kk, g2, y, g3, e3, e4, hl9, e5⟩ | ⟨rfl, e4⟩
    · rw [if_pos rfl]
      refine hk.run ⟨F.c, H', S'⟩ _ g1 σ2 H3 S3 _ e R3 ?_
      rw [e3]
      intro k' H4 S4 sm4 R4 hk4
      cases hk4.intE
      refine he.run ⟨F.c, H', S'⟩ _ g2 σ2 H4 S4 _ e R4 ?_
      rw [e4]
      intro y' H5 S5 sm5 R5 hy5
      obtain ⟨k1, k2⟩ := keep R5
      have sm' : Same S' S5 := sm1.trans (sm3.trans (sm4.trans sm5))
      refine ⟨kvO ks us, Sum.inl kk, rfl, k1, by rw [kvO_len _ _ hkl]; exact small1000 (by omega), g3, S5, dXs ks us kk y', dKs ks kk, dXs ks zs kk y, sm.trans sm', (Rep.behind R' sm' R5.bare).write1 k2 hp pah, by rw [upd_same, kvO_put kk y' hkl], ?_, k2, Dns.dXs hy5 ks (hz.mono sm'), e5⟩
      unfold dKs FD.dXs
      by_cases hc2 : ks.contains kk = true
      · rw [if_pos hc2, if_pos hc2]
        have q : ∀ (ks : List Int) (us : List V), ks.length = us.length → (dWith ks us kk y').length = ks.length := by
          intro ks
          induction ks with
          | nil => intro us h; cases us <;> rfl
          | cons a ks ih =>
            intro us h
            cases us with
            | nil => simp at h
            | cons u us => simp only [dWith, List.length_cons, ih us (by simpa using h)]
        rw [q ks us hkl]
      · rw [if_neg hc2, if_neg hc2]
        simp [hkl]
    · rw [if_neg (by simp)]
      obtain ⟨k1, k2⟩ := keep R3
      have sm' : Same S' S3 := sm1.trans sm3
      exact ⟨g1, S3, us, ks, zs, sm.trans sm', Rep.behind R' sm' R3.bare, k1, hkl, k2, hz.mono sm', e4⟩
  · have e1 : i = ds.length := by omega
    subst e1
    rw [List.drop_length] at hcr
    simp only [dcompD] at hcr
    cases hcr
    refine .inl ⟨hJ.stop ⟨F.c, H, S⟩ _ _ [] H' S' e sm R', ?_⟩
    have RB : Rep F ρ gE σ H' S' := R.back sm R'
    exact G _ H' S' sm (RB.adopt i0 (kx := some ks) (vs := us) (xs := zs) hD hS (R.new_HE hp) pah (fun m ys hm' hσ => by
      obtain ⟨so, c1, q, us', c2, _, _, _, c5, _⟩ := R.slots m _ hm'
      rw [hσ] at c1; cases c1
      cases c2
      rw [hp] at c5; cases c5) hz)
/-- y = {k: v for tg in iter if ..} -/
theorem pfs_ownDc (i : Nat) {y : Str} {py : Pos} {kx vx tg iter : Expr} {ifs : List Expr} {scope : Scope} (own : List (Str × Nat)) {pos spos : Pos} {fi : FI} {gs : FG} {ft : FT} {fk fv : FE} (hN : X.N.Nodup) (hi : PFI X ah (fun _ => E) tg iter fi)
    (hg : ∀ i : BI, PFG (bx X scope i) ah tg gs (own.map (·.2))) (ht : ∀ i : BI, PFTs (bx X scope i) ah ifs ft) (hk : ∀ i : BI, PF (bx X scope i) ah (fun _ => E0) kx fk) (he : ∀ i : BI, PF (bx X scope i) ah (fun _ => E0) vx fv)
    (ok : BlkOk X.N X.env.scope scope own) (hsw : swapsWith (.DictComp kx vx [⟨tg, iter, ifs, 0⟩] scope pos) (some (.Name y py)) spos.line X.env = pure true)
    (hy : X.N[i]? = some y := by rfl) (hyl : X.env.scope.names.lookup y = some .local := by rfl) (hc : X.calm = true := by rfl) (hs : ∀ x, foldedSetIterable iter X.env x = pure x := by intro _; rfl) :
    PFS X ah E (.Assign [.Name y py] (.DictComp kx vx [⟨tg, iter, ifs, 0⟩] scope pos) spos) (sOwnDc i fi (own.map (·.2)) gs ft fk fv) := by
  obtain ⟨t, p, r⟩ := hi
  obtain ⟨tg', pg, rg, wg, mg⟩ := all_PG (Y := bx X scope) (c := dc X ah) (fun _ => rfl) hg
  obtain ⟨tt, pt, rt⟩ := all_PTs (Y := bx X scope) (c := dc X ah) (fun _ => rfl) ht
  obtain ⟨tk, pk, rk⟩ := all_PE (Y := bx X scope) (c := dc X ah) (fun _ => rfl) hk
  obtain ⟨te, pe, re⟩ := all_PE (Y := bx X scope) (c := dc X ah) (fun _ => rfl) he
  exact ⟨_, ps_setDcL hc hN hy hyl hsw p ok (fun s H C cl fp => pg (s, H, C, cl, fp)) (fun s H C cl fp => pt (s, H, C, cl, fp)) (fun s H C cl fp => pk (s, H, C, cl, fp)) (fun s H C cl fp => pe (s, H, C, cl, fp)) hs, rs_dc i r rg wg mg rt rk re⟩
end
end FD
set_option Elab.async false
set_option linter.all false
set_option maxRecDepth 100000
set_option maxHeartbeats 2000000
namespace FD
open PySem PySem.Spec PyProof.Rows L2
/-! # list(d.values()) of an own dict -/
section
variable {X : Cx}
def tListVals (td : TE) : TE := fun σ H Q => td σ H fun x H1 => ∃ a kvs, x = V.ref a ∧ H1 a = some (.dK kvs) ∧ ∀ q, H1 q = none → Q (.ref q) (upd H1 q (.lst (kvs.map (·.2))))
theorem pe_listVals {o : Expr} {p pos apos mpos : Pos} {td : TE} (hc : X.calm = true) (hg : Gl X "list") (hm : X.mg "list" = none) (hd : PE X o td) (hbase : attributeBase o "values" X.env (eval o X.env) = eval o X.env := by rfl) (hline : (apos.endLine == mpos.line) = true := by rfl)
    (hse : starEach [Expr.Call (.Attribute o "values" apos) [] [] mpos] X.env = [(false, eval (Expr.Call (.Attribute o "values" apos) [] [] mpos) X.env)] := by rfl) :
    PE X (.Call (.Name "list" p) [.Call (.Attribute o "values" apos) [] [] mpos] [] pos) (tListVals td) := by
  refine ⟨fun pins s σ H Q I h => ?_⟩
  refine wpAny_Call_Name_kw (ld_blt I hg hm (u := .type "list") (by first | rfl | decide +kernel) ?_ (by first | decide +kernel | decide) (by first | decide +kernel | decide))
  rw [hse]
  refine PySem.callWith_type1 (wpAny_Call_method0_late hbase hline (thn (hd.run pins s σ H _ I h) fun v s1 ⟨x, H1, I1, r1, a, kvs, ex, ha, q⟩ => ?_))
  subst ex
  obtain rfl : v = Value.ref a := r1
  obtain ⟨hz, hsys, vs, rel, dof⟩ := dk_of I1.hok ha
  obtain ⟨ep, dat⟩ := dof.dictAt
  have dat' := dat
  obtain ⟨ob, es, ho, ex, hdat, hko, hpr, hnd⟩ := dat'
  refine ⟨"dict", "dict.values", F.plainAttrs_dict, F.slot_dict_values, F.type_dict_values, ⟨ob, ho, ex.1⟩, fun b e => ?_, Calls.callWith_builtin rfl (PySem.evalArgs_none ?_)⟩
  · cases e
    exact ⟨ob, ho, ex.2.1⟩
  refine call_meetsIn F.slot_dict_values ⟨ob, ho, ex.1⟩ F.entry_dict_values (F.args_dict_values_1 _) (meets_dict_values (mixKind X.prog X.w) a hsys) ⟨⟨vs, dof⟩, ?_⟩
  have k1 : ∀ b u, s1.heap.get? b = some u → (s1.heap.push { cls := .type "dict_values", data := .fields #[.ref a] }).get? b = some u := fun b u e => Heap.get?_push_of_some _ e
  have dat1 : (s1.heap.push { cls := .type "dict_values", data := .fields #[.ref a] }).DictAt (mixKind X.prog X.w) a vs ep := dat.keep k1
  have hl : kvs.length = vs.length := KV.length rel
  have I2 : Inv X pins σ H1 { s1 with heap := s1.heap.push { cls := .type "dict_values", data := .fields #[.ref a] } } := I1.kept (t' := s1.toks) k1
  refine PySem.W.kdl_call (PySem.W.kdl_values (knd := mixKind X.prog X.w) (d := a) (kvs := vs) (ep := ep)) (I.ok.hd hc) ⟨⟨_, Heap.get?_push_size _ rfl, rfl, rfl⟩, dat1⟩ (by rw [← hl]; exact hz) fun h' tk acc' c' hkeep hS hacc => ?_
  refine ⟨.ref _, upd H1 _ (.lst (kvs.map (·.2))), I2.laid hkeep (Nat.le_refl _) (show ObjOk X.prog X.w _ _ _ (.lst (kvs.map (·.2))) from ⟨?_, acc'.toList, c', ?_, ?_⟩), rfl, q _ (I2.hok.fresh (Nat.le_refl _))⟩
  · rw [List.length_map]; exact hz
  · have el : acc'.toList.length = acc'.size := by simp
    refine vals_of_at (by rw [List.length_map, el, hacc.1, hl]) fun j x w h1 h2 => ?_
    obtain ⟨k, hky⟩ := hacc.2 j w (by rw [← Array.getElem?_toList]; exact h2)
    obtain ⟨y, e1, e2⟩ := KV.at' rel hky
    rw [List.getElem?_map, e1] at h1
    cases h1
    exact e2
  · rw [Array.toArray_toList]; exact hS
end
section
variable {X : Cx} {ah : Option Addr} {Es : L2.St → XK} {c : DC}
@[simp] def cOVals (i : Nat) : FE := fun ρ g => match ρ[i]? with
  | some (.hold (some ks) xs) => if ks.length = xs.length then some (.ok (.lst xs) g) else none
  | _ => none
theorem kvO_vals : ∀ (ks : List Int) (vs : List V), ks.length = vs.length → (kvO ks vs).map (·.2) = vs
  | [], [], _ => rfl
  | k :: ks, v :: vs, h => by
    simp only [kvO, List.map_cons, kvO_vals ks vs (by simpa using h)]
  | [], _ :: _, h => by simp at h
  | _ :: _, [], h => by simp at h
/-- list(x.values()) of an own dict -/
theorem pf_ovals (i : Nat) {x : Str} {p p1 pos apos mpos : Pos} (hm : X.mg "list" = none) (hN : X.N[i]? = some x := by rfl) (hv : Vis X.env.scope x := by first | exact Or.inl rfl | exact Or.inr (Or.inl rfl) | exact Or.inr (Or.inr rfl)) (hd : (x == ("__debug__" : Str)) = false := by decide)
    (hcd : (x == ("__classdict__" : Str)) = false := by decide) (hc : X.calm = true := by rfl) (hg : Gl X "list" := by rfl) (hbase : attributeBase (.Name x p1) "values" X.env (eval (.Name x p1) X.env) = eval (.Name x p1) X.env := by rfl) (hline : (apos.endLine == mpos.line) = true := by rfl)
    (hse : starEach [Expr.Call (.Attribute (.Name x p1) "values" apos) [] [] mpos] X.env = [(false, eval (Expr.Call (.Attribute (.Name x p1) "values" apos) [] [] mpos) X.env)] := by rfl) : PF X ah Es (.Call (.Name "list" p) [.Call (.Attribute (.Name x p1) "values" apos) [] [] mpos] [] pos) (cOVals i) := by
  refine ⟨_, pe_listVals hc hg hm (pe_var hN hv hd hcd) hbase hline hse, ⟨fun F ρ g σ H S Q e R G => ?_⟩⟩
  simp only [cOVals] at G
  split at G
  case h_2 => exact G.elim
  rename_i ks xs hi
  obtain ⟨so, h1, p', vs, rfl, h2, h3, h4, h5, h6⟩ := R.slots i _ hi
  by_cases hl : ks.length = xs.length
  case neg => rw [if_neg hl] at G; exact G.elim
  rw [if_pos hl] at G
  refine ⟨.ref p', h1, p', kvO ks vs, rfl, h5, fun q hq => ?_⟩
  rw [kvO_vals ks vs (by rw [hl, h6.length])]
  exact G.new R hq (.lst upd_same (h6.mono (R.tosame _ hq)))
end
end FD
set_option Elab.async false
set_option linter.all false
set_option maxRecDepth 100000
set_option maxHeartbeats 4000000
namespace FD
open PySem PySem.Spec L2 PyProof.Rows
/-! # len(set(x)), sorted(set(x)) of a list or a tuple of whole numbers -/
abbrev bareSet (w : World) : Obj := { cls := .type "set", dict := none, data := .set #[] 0 (.fresh 0 0 (!w.params.followText "set-order")) }
section
variable {P : Program} {w : World} {A : Around} {E : Value → Shared → Prop} {s : Shared}
set_option maxRecDepth 100000 in
set_option maxHeartbeats 3200000 in
theorem set_of_list {l : Addr} {xs : Array Value} (ns : List Int) {Q : Value → Shared → Prop} (hh : A.handled = none) (hl : s.heap.IsList l xs) (hx : IntsAre xs.toList ns) (hb : ns.length + 1 < scanBound)
    (done : ∀ (hp : Heap) (t c : Nat), SetR w hp s.heap.objs.size (fun j => decide (j ∈ ns)) c → c ≤ ns.length → (∀ b o, s.heap.get? b = some o → hp.get? b = some o) → Q (.ref s.heap.objs.size) { s with heap := hp, toks := t }) :
    wpAny (model P w) A (call (.type "set") [.ref l]) Q E s := by
  have sz : xs.size = ns.length := by rw [← IntsAre.length hx, Array.length_toList]
  obtain ⟨c, tl, hmro⟩ := F.called_set.mro
  have m1 := F.called_set.made
  have m2 := F.called_set.sub
  refine wpAny_call (codeAny_of_tree (show wpAny _ _ (callAny (.type "set") _) _ _ _ from wpAny_pure ⟨Code.quiet_builtin _ (by decide +kernel), codeAny_builtin F.entry_type_call ?_⟩))
  rw [Around.under_plain (weight_type_call_type "set" [.ref l] []) rfl]
  have m3 := F.called_set.notType
  have m4 := F.called_set.canCreate
  have m5 := F.typeCall_set_1 (.ref l)
  repeat any_goals (first | assumption | wp_step)
  refine codeAny_mono (code_set_led1 (.ref l) (E := E) (Q₁ := fun obj s1 => obj = .ref s.heap.objs.size ∧ s1 = { s with heap := s.heap.push (bareSet w) }) ⟨rfl, rfl⟩) fun r s1 hr => ?_
  match r, hr with
  | .error e, hr => exact hr
  | .ok (.ret obj), hr =>
    obtain ⟨rfl, rfl⟩ := hr
    have got : (s.heap.push (bareSet w)).get? s.heap.objs.size = some (bareSet w) := Heap.get?_push_size _ rfl
    have hT : Shared.TypeIs { s with heap := s.heap.push (bareSet w) } (.ref s.heap.objs.size) "set" := ⟨_, got, rfl⟩
    have m6 := F.called_set.init.lookup
    have m7 := F.called_set.init.bind (.ref s.heap.objs.size)
    repeat any_goals (first | assumption | wp_step)
    refine codeAny_mono (codeAny_call_builtin (R := wants (fun r s2 => r = .none ∧ ∃ hp t c, s2 = { s with heap := hp, toks := t } ∧ SetR w hp s.heap.objs.size (fun j => decide (j ∈ ns)) c ∧ c ≤ ns.length ∧ (∀ b o, s.heap.get? b = some o → hp.get? b = some o)) E) F.called_set.init.plain F.entry_set_init (check_set_init_1 hT ?_)) fun r2 s2 hr2 => ?_
    · obtain ⟨ol, hol, hcl, nl, hdl⟩ := hl
      obtain ⟨ocls, odict, odata, oslots⟩ := ol
      simp only at hcl hdl
      subst hcl; subst hdl
      have k1 : (s.heap.push (bareSet w)).get? l = some { cls := .type "list", dict := odict, data := .seq xs nl, slots := oslots } := Heap.get?_push_of_some _ hol
      have k2 := F.sub_list_set
      have k3 := F.sub_list_frozenset
      have k4 : (Value.type "list" == Value.type "dict") = false := by decide
      have k5 : (s.heap.push (bareSet w)).IsList l xs := ⟨_, k1, rfl, nl, rfl⟩
      unfold Builtin.«set.__init__» noKeywords Builtin.Frozenset.updateFrom
      generalize hPI : pyIter = PI
      wp_walk
      subst hPI
      refine wpAny_pyIter_list k5 (wpAny_bind (wpAny_runValue ?_))
      have lt : l < s.heap.objs.size := Heap.lt_size hol
      have h3 : A.in1.in1.in1.handled = none := by simp [hh]
      have ne : l ≠ (s.heap.push (bareSet w)).objs.size := by rw [Heap.size_push]; exact Nat.ne_of_lt (Nat.lt_succ_of_lt lt)
      have free : s.heap.objs.size ∉ [(s.heap.push (bareSet w)).objs.size, l] := by
        rw [Heap.size_push]
        intro z
        rcases List.mem_cons.mp z with z | z
        · exact absurd z (Nat.ne_of_lt (Nat.lt_succ_self _))
        · exact absurd (List.mem_singleton.mp z) (Nat.ne_of_gt lt)
      have val : ∀ (i : Nat) (v : Value), xs[i]? = some v → ∃ k t, ns[i]? = some k ∧ v = .int k t := fun i v hv => by
        have hi : i < ns.length := by rw [← sz]; exact (Array.getElem?_eq_some_iff.mp hv).1
        obtain ⟨t, e⟩ := PyProof.Rows.IntsAre.int_at hx i v (by rw [Array.getElem?_toList]; exact hv)
        exact ⟨ns[i], t, List.getElem?_eq_getElem hi, by rw [e, List.getD_eq_getElem?_getD, List.getElem?_eq_getElem hi] <;> rfl⟩
      refine set_update_ints ((Walks.list h3 _ l ne xs).toS) s.heap.objs.size free ns sz hb val (xs.size - 0) 0 _ (by omega) (Nat.zero_le _) ⟨⟨_, Heap.get?_push_size _ rfl, rfl, rfl⟩, (k5.push _)⟩ ?z0 ?zR
      case z0 =>
        have q : ((s.heap.push (bareSet w)).push { cls := .type "list_iterator", data := .fields #[.ref l, .int 0 0] }).get? s.heap.objs.size = some (bareSet w) := Heap.get?_push_of_some _ got
        exact ⟨0, Nat.le_refl 0, setR_new_at q⟩
      case zR =>
        intro s' c' hm hc' hS'
        obtain ⟨hp, g2, d', tk', os'⟩ := s'
        have eg : g2 = s.gens := hm.gens
        have ed : d' = s.drawn := hm.drawn
        have eo : os' = s.os := hm.os
        subst eg; subst ed; subst eo
        refine (show wpAny _ _ _ _ _ _ from wpAny_pure ?_)
        rw [sz] at hc'
        refine (show wpAny _ _ (ret Value.none) _ _ _ from wpAny_pure ⟨rfl, hp, tk', c', rfl, hS', hc', fun b o e => ?_⟩)
        have b0 : b < s.heap.objs.size := Heap.lt_size e
        have b2 : b ≠ (s.heap.push (bareSet w)).objs.size := by rw [Heap.size_push]; exact Nat.ne_of_lt (Nat.lt_succ_of_lt b0)
        refine hm.heap b o (fun z => ?_) (Heap.get?_push_of_some _ (Heap.get?_push_of_some _ e))
        rcases List.mem_cons.mp z with z | z
        · exact absurd z (Nat.ne_of_lt b0)
        · exact b2 (List.mem_singleton.mp z)
    · match r2, hr2 with
      | .error e, hr2 => exact hr2
      | .ok (.ret r), hr2 =>
        obtain ⟨rfl, hp, t, c', rfl, z1, z2, z3⟩ := hr2
        repeat any_goals (first | assumption | wp_step)
        exact done _ _ _ z1 z2 z3
      | .ok .next, hr2 => exact hr2.elim
      | .ok .brk, hr2 => exact hr2.elim
      | .ok .cont, hr2 => exact hr2.elim
  | .ok .next, hr => exact hr.elim
  | .ok .brk, hr => exact hr.elim
  | .ok .cont, hr => exact hr.elim
end
end FD
namespace FD
open PySem L2 PyProof.Rows
section
variable {X : Cx} {ah : Option Addr} {E : L2.St → XK} {c : DC}
abbrev SqTL (K : PySem.W.Frag) (H : Hp) (l : Addr) (vs : List V) : Prop := SqT K H l vs ∨ SqL K H l vs
/-- set(x) stands; what follows of it -/
theorem set_either {pins : List (Addr × Obj)} {σ : L2.St} {H : Hp} {s : Shared} {l : Addr} {ns : List Int} {A : Around} {Ex : Value → Shared → Prop} {Q : Value → Shared → Prop} (I : Inv X pins σ H s) (hA : A.handled = none) (hq : SqTL X.K H l (ns.map V.int)) (hl : ns.length ≤ 1000)
    (done : ∀ (hp : Heap) (t c : Nat), SetR X.w hp s.heap.objs.size (fun j => decide (j ∈ ns)) c → c ≤ ns.length → (∀ b o, s.heap.get? b = some o → hp.get? b = some o) → Q (.ref s.heap.objs.size) { s with heap := hp, toks := t }) :
    wpAny (model X.prog X.w) A (call (.type "set") [.ref l]) Q Ex s := by
  rcases hq with hq | hq
  · obtain ⟨its, r, pl, hz⟩ := I.tuple hq
    have hi : IntsAre its.toArray.toList ns := RZ.intsAre_vals (by simpa using r)
    exact call_set_tupI ns hA (show s.heap.IsTuple l its.toArray from pl) hi (by unfold scanBound; omega) done
  · obtain ⟨its, r, pl, hz⟩ := I.list hq
    have hi : IntsAre its.toArray.toList ns := RZ.intsAre_vals (by simpa using r)
    exact set_of_list ns hA pl.isList hi (by unfold scanBound; omega) done
theorem setR_count {w : World} {h : Heap} {a : Addr} {ns : List Int} {c : Nat} (R : SetR w h a (fun j => decide (j ∈ ns)) c) : c = unlike ns := by
  obtain ⟨o, es, ep, t, ho, hex, hd, g, nd, hm3, hb, hf, hn, hr, hl2⟩ := R
  have := unlike_of (ns := ns) nd fun j => by rw [← hm3 j, decide_eq_true_eq]
  rw [← this, List.length_map, Array.length_toList, hn]
def tLenSet2 (K : PySem.W.Frag) (ta : TE) : TE := fun σ H Q => ta σ H fun x H1 => ∃ (l : Addr) (ns : List Int), x = .ref l ∧ SqTL K H1 l (ns.map V.int) ∧ ns.length ≤ 1000 ∧ Q (.int (unlike ns : Nat)) H1
theorem pe_lenSet2 {a : Expr} {ta : TE} {p p2 q pos : Pos} (hg : Gl X "len") (hm : X.mg "len" = none) (hg2 : Gl X "set") (hm2 : X.mg "set" = none) (ha : PE X a ta) (hc : X.calm = true)
    (na : starEach [a] X.env = (false, eval a X.env) :: starEach [] X.env) : PE X (.Call (.Name "len" p) [.Call (.Name "set" p2) [a] [] q] [] pos) (tLenSet2 X.K ta) := by
  refine ⟨fun pins s σ H Q I h => Call_ (ld_blt I hg hm boot_len (callWith_builtin1 (args_cons (Call_ (ld_blt I hg2 hm2 boot_set (callWith_type1 (args_cons (thn (ha.run pins s σ H _ I h) fun v s1 ⟨x, H1, I1, r1, q1⟩ => args_nil ?_) na) na rfl))) rfl) rfl rfl))⟩
  obtain ⟨l, ns, rfl, hq, hl, q1⟩ := q1
  cases r1
  refine set_either I1 (I1.ok.hd hc) hq hl fun h' tk c R1 hcn k => args_nil ?_
  have e := setR_count R1
  obtain ⟨o, es, ep, t, ho, hex, hd, g, nd, hm3, hb, hf, hn, hr, hl2⟩ := R1
  have I2 : Inv X pins σ H1 { s1 with heap := h', toks := tk } := I1.kept fun b o e => k b o e
  exact call_len_set ho hex hd hf (by rw [hn]; omega) ⟨.int (unlike ns : Nat), H1, I2.tok _, ⟨_, by rw [← e, hn]⟩, q1⟩
def tSortSet2 (K : PySem.W.Frag) (ta : TE) : TE := fun σ H Q => ta σ H fun x H1 => ∃ (l : Addr) (ns : List Int), x = .ref l ∧ SqTL K H1 l (ns.map V.int) ∧ ns.length ≤ 1000 ∧ unlike ns ≤ 60 ∧
  ∀ out : List Int, out.Pairwise (· < ·) → (∀ k, k ∈ out ↔ k ∈ ns) → ∀ p, H1 p = none → Q (.ref p) (upd H1 p (.lst (out.map V.int)))
theorem pe_sortSet2 {a : Expr} {ta : TE} {p p2 q pos : Pos} (hg : Gl X "sorted") (hm : X.mg "sorted" = none) (hg2 : Gl X "set") (hm2 : X.mg "set" = none) (ha : PE X a ta) (hc : X.calm = true)
    (na : starEach [a] X.env = (false, eval a X.env) :: starEach [] X.env) : PE X (.Call (.Name "sorted" p) [.Call (.Name "set" p2) [a] [] q] [] pos) (tSortSet2 X.K ta) := by
  refine ⟨fun pins s σ H Q I h => Call_ (ld_blt I hg hm (by decide +kernel : bootBuiltins "sorted" = some (.builtin "sorted")) (callWith_builtin1 (args_cons (Call_ (ld_blt I hg2 hm2 boot_set (callWith_type1 (args_cons (thn (ha.run pins s σ H _ I h) fun v s1 ⟨x, H1, I1, r1, q1⟩ => args_nil ?_) na) na rfl))) rfl) rfl rfl))⟩
  obtain ⟨l, ns, rfl, hq, hl, hu, q1⟩ := q1
  cases r1
  refine set_either I1 (I1.ok.hd hc) hq hl fun h' tk c R1 hcn k => args_nil ?_
  have ec := setR_count R1
  have I2 : Inv X pins σ H1 { s1 with heap := h', toks := tk } := I1.kept fun b o e => k b o e
  obtain ⟨s2, hs2⟩ : ∃ s2 : Shared, s2 = { s1 with heap := h', toks := tk } := ⟨_, rfl⟩
  have R2 : SetR X.w s2.heap s1.heap.objs.size (fun j => decide (j ∈ ns)) c := by rw [hs2]; exact R1
  rw [← hs2] at I2 ⊢
  refine sorted_set (s := s2) R2 (I1.ok.hd hc) (by omega : c < 64) fun s' p out c' ms k' g o hp hg' hi' hs hm' hl' => ?_
  have len : (ms.map V.int).length ≤ sizeLine := by rw [List.length_map, hl', sizeLine_eq]; omega
  have hn : H1 p = none := I2.hok.fresh hp
  have J : Inv X pins σ (upd H1 p (.lst (ms.map V.int))) { s2 with heap := s'.heap, gens := s'.gens, drawn := s'.drawn, toks := s'.toks } :=
    I2.call (ch := []) (Un.laid k' hp hn) (I2.hok.laid k' hp ⟨len, out.toList, c', vals_of_ints hi', hg'⟩) (by rw [g]; exact I2.bare) (fun _ z => nomatch z)
  have e : s' = { s2 with heap := s'.heap, gens := s'.gens, drawn := s'.drawn, toks := s'.toks } := by
    cases s'; cases s2; cases o; rfl
  rw [e]
  exact ⟨.ref p, _, J, rfl, q1 ms hs (fun j => by rw [hm' j, decide_eq_true_eq]) p hn⟩
def seqD : D → Option (List D)
  | .tup ds => some ds
  | .lst ds => some ds
  | _ => none
theorem Dn.seqTL {S H : Hp} {x : V} {d : D} {ds : List D} (h : Dn c S x d) (e : seqD d = some ds) (sub : Same S H) : ∃ l vs, x = .ref l ∧ SqTL c.K H l vs ∧ Dns c S vs ds := by
  cases h with
  | tup h hs => cases e; exact ⟨_, _, rfl, .inl (Same.tup sub h), hs⟩
  | lst h hs => cases e; exact ⟨_, _, rfl, .inr (SqL.of (sub _ _ h)), hs⟩
  | _ => cases e
def lenSet2D (d : D) : Option D := (seqD d).bind fun ds => (intsOf ds).bind fun ns => if ns.length ≤ 1000 then some (.int (unlike ns : Nat)) else none
theorem pf_lenSet2 {e : Expr} {a : FE} {p p2 q pos : Pos} (hm : X.mg "len" = none) (hm2 : X.mg "set" = none) (ha : PF X ah E e a) (hg : Gl X "len" := by rfl) (hg2 : Gl X "set" := by rfl) (hc : X.calm = true := by rfl)
    (na : starEach [e] X.env = (false, eval e X.env) :: starEach [] X.env := by rfl) : PF X ah E (.Call (.Name "len" p) [.Call (.Name "set" p2) [e] [] q] [] pos) (c1 lenSet2D a) := by
  obtain ⟨t, u, r⟩ := ha
  refine ⟨_, pe_lenSet2 hg hm hg2 hm2 u hc na, ?_⟩
  refine RG.bind (r := fun σ x H1 (Q : VK) => ∃ (l : Addr) (ns : List Int), x = .ref l ∧ SqTL X.K H1 l (ns.map V.int) ∧ ns.length ≤ 1000 ∧ Q (.int (unlike ns : Nat)) H1) (k := fun ρ x g1 => lift (lenSet2D x) g1) r fun F ρ g σ H S Q x d e R hx G => ?_
  cases qs : seqD d with
  | none => simp only [lenSet2D, qs] at G; exact G.elim
  | some ds =>
    cases qi : intsOf ds with
    | none => simp only [lenSet2D, qs, qi, Option.bind_some] at G; exact G.elim
    | some ns =>
      simp only [lenSet2D, qs, qi, Option.bind_some] at G
      by_cases hl : ns.length ≤ 1000
      · rw [if_pos hl] at G
        obtain ⟨l, vs, rfl, h1, h2⟩ := hx.seqTL qs R.sub
        have hv := intsOf_ok h2 qi
        subst hv
        exact ⟨_, ns, rfl, h1, hl, G.ret R (.int _)⟩
      · rw [if_neg hl] at G; exact G.elim
def sortSet2D (d : D) : Option D := (seqD d).bind fun ds => (intsOf ds).bind fun ns => if ns.length ≤ 1000 ∧ unlike ns ≤ 60 then some (.lst ((sortSet ns).map .int)) else none
theorem pf_sortSet2 {e : Expr} {a : FE} {p p2 q pos : Pos} (hm : X.mg "sorted" = none) (hm2 : X.mg "set" = none) (ha : PF X ah E e a) (hg : Gl X "sorted" := by rfl) (hg2 : Gl X "set" := by rfl) (hc : X.calm = true := by rfl)
    (na : starEach [e] X.env = (false, eval e X.env) :: starEach [] X.env := by rfl) : PF X ah E (.Call (.Name "sorted" p) [.Call (.Name "set" p2) [e] [] q] [] pos) (c1 sortSet2D a) := by
  obtain ⟨t, u, r⟩ := ha
  refine ⟨_, pe_sortSet2 hg hm hg2 hm2 u hc na, ?_⟩
  refine RG.bind (r := fun σ x H1 (Q : VK) => ∃ (l : Addr) (ns : List Int), x = .ref l ∧ SqTL X.K H1 l (ns.map V.int) ∧ ns.length ≤ 1000 ∧ unlike ns ≤ 60 ∧
  ∀ out : List Int, out.Pairwise (· < ·) → (∀ k, k ∈ out ↔ k ∈ ns) → ∀ p, H1 p = none → Q (.ref p) (upd H1 p (.lst (out.map V.int)))) (k := fun ρ x g1 => lift (sortSet2D x) g1) r fun F ρ g σ H S Q x d e R hx G => ?_
  cases qs : seqD d with
  | none => simp only [sortSet2D, qs] at G; exact G.elim
  | some ds =>
    cases qi : intsOf ds with
    | none => simp only [sortSet2D, qs, qi, Option.bind_some] at G; exact G.elim
    | some ns =>
      simp only [sortSet2D, qs, qi, Option.bind_some] at G
      by_cases hl : ns.length ≤ 1000 ∧ unlike ns ≤ 60
      · rw [if_pos hl] at G
        obtain ⟨l, vs, rfl, h1, h2⟩ := hx.seqTL qs R.sub
        have hv := intsOf_ok h2 qi
        subst hv
        refine ⟨_, ns, rfl, h1, hl.1, hl.2, fun out o1 o2 p hp => ?_⟩
        have := sortSet_of o1 o2
        subst this
        exact G.new R hp (.lst upd_same (Dns.ints _))
      · rw [if_neg hl] at G; exact G.elim
theorem intsOf_ints : ∀ ns : List Int, intsOf (ns.map .int) = some ns
  | [] => rfl
  | n :: ns => by simp [intsOf, intsOf_ints ns]
theorem sortSet2_ints {ns : List Int} (h1 : ns.length ≤ 1000) (h2 : unlike ns ≤ 60) : sortSet2D (.lst (ns.map .int)) = some (.lst ((sortSet ns).map .int)) ∧ sortSet2D (.tup (ns.map .int)) = some (.lst ((sortSet ns).map .int)) := by
  simp only [sortSet2D, seqD, Option.bind_some, intsOf_ints, if_pos (And.intro h1 h2), and_self]
theorem lenSet2_ints {ns : List Int} (h1 : ns.length ≤ 1000) : lenSet2D (.lst (ns.map .int)) = some (.int (unlike ns : Nat)) ∧ lenSet2D (.tup (ns.map .int)) = some (.int (unlike ns : Nat)) := by
  simp only [lenSet2D, seqD, Option.bind_some, intsOf_ints, if_pos h1, and_self]
end
end FD
set_option Elab.async false
set_option linter.all false
set_option maxRecDepth 100000
set_option maxHeartbeats 2000000
namespace FD
open PySem L2 PyProof.Rows
/-! # dicts by whole numbers as data: laid once, never changed -/
theorem kvO_get : ∀ {ks : List Int} {vs : List V} {i : Nat} {k : Int} {v : V}, ks[i]? = some k → vs[i]? = some v → (kvO ks vs)[i]? = some (Sum.inl k, v)
  | [], _, i, _, _, h, _ => by simp at h
  | _ :: _, [], i, _, _, _, h => by simp at h
  | a :: ks, b :: vs, 0, k, v, h1, h2 => by
    have e1 : a = k := by simpa using h1
    have e2 : b = v := by simpa using h2
    subst e1; subst e2; rfl
  | a :: ks, b :: vs, i + 1, k, v, h1, h2 => by
    have := kvO_get (ks := ks) (vs := vs) (i := i) (k := k) (v := v) (by simpa using h1) (by simpa using h2)
    simpa [kvO] using this
theorem kvO_length : ∀ {ks : List Int} {vs : List V}, ks.length = vs.length → (kvO ks vs).length = vs.length
  | [], [], _ => rfl
  | _ :: ks, _ :: vs, h => by simp [kvO, kvO_length (ks := ks) (vs := vs) (by simpa using h)]
  | [], _ :: _, h => by simp at h
  | _ :: _, [], h => by simp at h
/-- laid for good, though its place was spoken of while it grew -/
theorem Rep.lay {F : Fx} {ρ g σ H S} (R : Rep F ρ g σ H S) {p : Addr} (o : HO) (hS : S p = none) (hE : F.HE p = none) (ha : F.c.ah ≠ some p)
    (hn : ∀ (j : Nat) (ys : Option (List Int) × List D), ρ[j]? = some (.hold ys.1 ys.2) → σ[j]? ≠ some (some (.ref p))) : Rep F ρ g σ (upd H p o) (upd S p o) := by
  have sm : Same S (upd S p o) := Same.upd_new hS
  refine ⟨Same.upd_both R.sub p o, ?_, fun b u e h => ?_, fun b e h => ?_, fun j e he => ?_, R.apart⟩
  · have h := R.hand.up1 (o := o) ha
    unfold HandAt at h ⊢
    cases e : F.c.ah with
    | none => trivial
    | some a =>
      rw [e] at h
      obtain ⟨h1, q, h2, h3⟩ := h
      have ne : a ≠ p := fun z => ha (by rw [e, z])
      exact ⟨by rw [upd_ne ne]; exact h1, q, h2, sm _ _ h3⟩
  · have ne : b ≠ p := fun z => by rw [z, hE] at e; cases e
    rw [upd_ne ne]
    exact R.keep b u e h
  · have ne : b ≠ p := fun z => e (by rw [z]; exact hE)
    rw [upd_ne ne]; exact R.stay b e h
  · obtain ⟨so, h1, h2⟩ := R.slots j e he
    refine ⟨so, h1, ?_⟩
    cases e with
    | un => trivial
    | dt d => obtain ⟨v, e1, e2⟩ := h2; exact ⟨v, e1, e2.mono sm⟩
    | hold ks xs =>
      obtain ⟨q, vs, e1, e2, e3, e4, e5, e6⟩ := h2
      have ne : q ≠ p := fun z => by
        subst z
        exact hn j (ks, xs) he (by rw [h1, e1])
      exact ⟨q, vs, e1, by rw [upd_ne ne]; exact e2, e3, e4, by rw [upd_ne ne]; exact e5, e6.mono sm⟩
section
variable {X : Cx} {ah : Option Addr} {E : XK} {c : DC}
theorem ps_setDcF {i : Nat} {y : Str} {py : Pos} {kx vx tg iter : Expr} {ifs : List Expr} {scope : Scope} {own : List (Str × Nat)} {pos spos : Pos} {wi : TI} {g : TG} {tt : TT} {tk tv : TE} (hc : X.calm = true) (hN : X.N.Nodup) (hy : X.N[i]? = some y) (hyl : X.env.scope.names.lookup y = some .local)
    (hsw : swapsWith (.DictComp kx vx [⟨tg, iter, ifs, 0⟩] scope pos) (some (.Name y py)) spos.line X.env = pure true) (hi : PI X tg iter wi) (ok : BlkOk X.N X.env.scope scope own)
    (hg : ∀ (s : Shared) (H : Hp) (C : Addr) (cl : List (Str × Addr)) (fp : List Addr), PG (X.blk s H scope (compEnvC scope cl C X.env) fp) tg g) (ht : ∀ (s : Shared) (H : Hp) (C : Addr) (cl : List (Str × Addr)) (fp : List Addr), PTs (X.blk s H scope (compEnvC scope cl C X.env) fp) ifs tt)
    (hk : ∀ (s : Shared) (H : Hp) (C : Addr) (cl : List (Str × Addr)) (fp : List Addr), PE (X.blk s H scope (compEnvC scope cl C X.env) fp) kx tk)
    (he : ∀ (s : Shared) (H : Hp) (C : Addr) (cl : List (Str × Addr)) (fp : List Addr), PE (X.blk s H scope (compEnvC scope cl C X.env) fp) vx tv) (hs : ∀ x, foldedSetIterable iter X.env x = pure x := by intro _; rfl) :
    PS X (.Assign [.Name y py] (.DictComp kx vx [⟨tg, iter, ifs, 0⟩] scope pos) spos) (tAsg (tDc wi g tt tk tv (own.map (·.2))) fun x σ H N => ∃ d kvs, x = .ref d ∧ H d = some (.dK kvs) ∧ ∀ o, gName i x σ (upd H d (.frz o (.dK kvs))) N) := by
  refine ⟨fun pins s σ H D I h => ?_⟩
  rw [exec_Assign_Name_used _ _ _ _ hsw]
  refine wpAny_bind (wpAny_standAt (wpAny_bind ?_))
  have h : tDc wi g tt tk tv (own.map (·.2)) σ H (fun x H1 => ∃ d kvs, x = .ref d ∧ H1 d = some (.dK kvs) ∧ ∀ o, gName i x σ (upd H1 d (.frz o (.dK kvs))) D.nx) := h
  refine wpAny_bind (thn (dc_core (pos' := firstIterPos [⟨tg, iter, ifs, 0⟩] pos) (use := some (assign (.Name y py) X.env)) (Qf := fun _ s' => SP X pins D .next s') hc hN I hi ok hg ht hk he hs h fun L C s' m H' I' q hn f => ?_) fun _ s' hq => wpAny_pure (wpAny_pure hq))
  obtain ⟨d, kvs, ed, hd, q⟩ := q
  have ed : L = d := by cases ed; rfl
  subst ed
  show wpAny _ _ (assign (.Name y py) X.env (.ref L)) _ _ _
  refine wpAny_assign_Name (store_ok2 (v := V.ref L) I' hN hy (.inl hyl) rfl (fun s2 I2 ⟨a, sb, ha⟩ => ?_) (.inr hyl))
  obtain ⟨f0, f1, f2, f3, f4, f5⟩ := f
  have haC : C ≠ a := by
    rcases ha with z | z
    · rw [z]; exact f1
    · exact fun e => f4 y a z e.symm
  refine ⟨m, hn.sameBut sb haC, fun h3 sb3 => ?_⟩
  have I3 := I2.turned (t' := s2.toks) (fun b o hb e => (sb3.2 b hb).trans e) f0 f1 f3 f4 f5
  obtain ⟨od, I4⟩ := I3.lock hd trivial
  exact ⟨_, _, I4, q od⟩
@[simp] def sDct (i : Nat) (fi : FI) (vs : List Nat) (gs : FG) (ft : FT) (fk fv : FE) : FS := fun ρ g => (fi ρ g).bd fun ds g1 => match dcompD gs ft fk fv ds (blkE ρ vs) [] [] g1 with
  | some (.ok p g2) => some (.ok (.nx (ρ.set i (.dt (.dct p.1 p.2)))) g2)
  | _ => none
theorem rs_dct {wi : TI} {fi : FI} {tg : TG} {gs : FG} {tt : TT} {ft : FT} {tk tv : TE} {fk fv : FE} {vs : List Nat} (i0 : Nat) (hi : @RG It (List D) rI c (fun _ => E) wi fi) (hg : RTg c tg gs) (hw : TGw tg vs) (hm : TGm tg) (ht : RT c (fun _ => E0) tt ft) (hk : RE c (fun _ => E0) tk fk) (he : RE c (fun _ => E0) tv fv) :
    RS c E (tAsg (tDc wi tg tt tk tv vs) fun x σ H N => ∃ d kvs, x = .ref d ∧ H d = some (.dK kvs) ∧ ∀ o, gName i0 x σ (upd H d (.frz o (.dK kvs))) N) (sDct i0 fi vs gs ft fk fv) := by
  refine RS.bind (rel := rI) (r := fun Z σ J H1 => ∀ D, H1 D = none → ∃ W : Nat → Nat → Hp → Prop, (∃ m, W 0 m (upd H1 D (.dK []))) ∧ ∀ i m H, W i m H →
    (J.stop i H ∧ ∃ d kvs, V.ref D = .ref d ∧ H d = some (.dK kvs) ∧ ∀ o, gName i0 (.ref D) σ (upd H d (.frz o (.dK kvs))) Z.nx) ∨ (J.go i H ∧ ∃ Nx : Hp → Prop, (∀ H', Nx H' → ∃ m', m' < m ∧ W (i + 1) m' H') ∧ ∀ x H', J.yld i H x H' → tg x (wipe σ vs) H' fun σ2 H2 => wipe σ2 vs = wipe σ vs ∧ tt σ2 H2 fun b H3 =>
      if b = true then tk σ2 H3 fun y H4 => tv σ2 H4 fun z H5 => ∃ kvs k, y = kV k ∧ H5 D = some (.dK kvs) ∧ kvs.length < sizeLine ∧ Nx (upd H5 D (.dK (putK kvs k z))) else Nx H3))
    (k := fun ρ ds g1 => match dcompD gs ft fk fv ds (blkE ρ vs) [] [] g1 with
      | some (.ok p g2) => some (.ok (.nx (ρ.set i0 (.dt (.dct p.1 p.2)))) g2)
      | _ => none) hi fun F ρ g σ H S Z J ds e R hJ G => ?_
  intro p hp
  cases hc : dcompD gs ft fk fv ds (blkE ρ vs) [] [] g with
  | none => rw [hc] at G; exact G.elim
  | some o =>
  rw [hc] at G
  cases o with
  | ex cc ks es g1 => exact G.elim
  | ok r gE =>
  simp only at G
  have pah : F.c.ah ≠ some p := R.new_ah hp
  have R0 := R.sub_frame
  let Pv : Nat → Hp → Prop := fun i H' => ∃ g' S' us ks zs, Same S S' ∧ Rep ⟨F.c, H, S⟩ [] g' [] H' S' ∧ H' p = some (.dK (kvO ks us)) ∧ ks.length = us.length ∧ S' p = none ∧ Dns F.c S' us zs ∧ dcompD gs ft fk fv (ds.drop i) (blkE ρ vs) ks zs g' = some (.ok r gE)
  refine ⟨fun i m H' => m = ds.length - i ∧ i ≤ ds.length ∧ Pv i H', ⟨ds.length, by simp, Nat.zero_le _, g, S, [], [], [], Same.refl S, R0.write1 (R.sub.free hp) hp pah, upd_same, rfl, R.sub.free hp, .nil, hc⟩, ?_⟩
  rintro i m H' ⟨rfl, hi', g', S', us, ks, zs, sm, R', hD, hkl, hS, hz, hcr⟩
  by_cases hlt : i < ds.length
  · refine .inr ?_
    rw [drop_of hlt] at hcr
    obtain ⟨ρ1, b, g1, e1, e2, alt⟩ := dcompD_cons hcr
    have RI := Rep.inner (F' := ⟨F.c, H, S⟩) R vs sm rfl R'
    obtain ⟨go, yl⟩ := hJ.go ⟨F.c, H', S'⟩ _ g' (wipe σ vs) H' S' i ds[i] e sm RI (List.getElem?_eq_getElem hlt)
    refine ⟨go, Pv (i + 1), fun H2 p' => ⟨ds.length - (i + 1), by omega, rfl, hlt, p'⟩, fun x H1 y => ?_⟩
    obtain ⟨S1, sm1, R1, hx⟩ := yl x H1 y
    have hgw := hw x (wipe σ vs) H1 (fun σ2 H2 => tt σ2 H2 fun b H3 =>
      if b = true then tk σ2 H3 fun y H4 => tv σ2 H4 fun z H5 => ∃ kvs k, y = kV k ∧ H5 p = some (.dK kvs) ∧ kvs.length < sizeLine ∧ Pv (i + 1) (upd H5 p (.dK (putK kvs k z))) else Pv (i + 1) H3)
    have ww : wipe (wipe σ vs) vs = wipe σ vs := by
      apply List.ext_getElem?
      intro j
      rw [wipe_get, wipe_get, wipe_length]
      split <;> rfl
    refine hm.mono _ _ _ _ _ (fun σ2 H2 q => ⟨q.2.trans ww, q.1⟩) (hgw ?_)
    refine hg.run ⟨F.c, H', S'⟩ _ g' (wipe σ vs) H1 S1 x _ _ e R1 hx ?_
    rw [e1]
    intro σ2 R2
    refine ht.run ⟨F.c, H', S'⟩ _ g' σ2 H1 S1 _ e R2 ?_
    rw [e2]
    intro b' H3 S3 sm3 R3 hb
    have hb : b' = b := hb
    subst hb
    have keep : ∀ {ρx gx σx Hx Sx}, Rep ⟨F.c, H', S'⟩ ρx gx σx Hx Sx → Hx p = some (.dK (kvO ks us)) ∧ Sx p = none := fun {ρx gx σx Hx Sx} Rx => ⟨Rx.keep p _ hD pah, Rx.stay p (by show H' p ≠ none; rw [hD]; simp) hS⟩
    rcases alt with ⟨rfl, kk, g2, y, g3, e3, e4, hl9, e5⟩ | ⟨rfl, e4⟩
    · rw [if_pos rfl]
      refine hk.run ⟨F.c, H', S'⟩ _ g1 σ2 H3 S3 _ e R3 ?_
      rw [e3]
      intro k' H4 S4 sm4 R4 hk4
      cases hk4.intE
      refine he.run ⟨F.c, H', S'⟩ _ g2 σ2 H4 S4 _ e R4 ?_
      rw [e4]
      intro y' H5 S5 sm5 R5 hy5
      obtain ⟨k1, k2⟩ := keep R5
      have sm' : Same S' S5 := sm1.trans (sm3.trans (sm4.trans sm5))
      refine ⟨kvO ks us, Sum.inl kk, rfl, k1, by rw [kvO_len _ _ hkl]; exact small1000 (by omega), g3, S5, dXs ks us kk y', dKs ks kk, dXs ks zs kk y, sm.trans sm', (Rep.behind R' sm' R5.bare).write1 k2 hp pah, by rw [upd_same, kvO_put kk y' hkl], ?_, k2, Dns.dXs hy5 ks (hz.mono sm'), e5⟩
      unfold dKs FD.dXs
      by_cases hc2 : ks.contains kk = true
      · rw [if_pos hc2, if_pos hc2]
        have q : ∀ (ks : List Int) (us : List V), ks.length = us.length → (dWith ks us kk y').length = ks.length := by
          intro ks
          induction ks with
          | nil => intro us h; cases us <;> rfl
          | cons a ks ih =>
            intro us h
            cases us with
            | nil => simp at h
            | cons u us => simp only [dWith, List.length_cons, ih us (by simpa using h)]
        rw [q ks us hkl]
      · rw [if_neg hc2, if_neg hc2]
        simp [hkl]
    · rw [if_neg (by simp)]
      obtain ⟨k1, k2⟩ := keep R3
      have sm' : Same S' S3 := sm1.trans sm3
      exact ⟨g1, S3, us, ks, zs, sm.trans sm', Rep.behind R' sm' R3.bare, k1, hkl, k2, hz.mono sm', e4⟩
  · have e1 : i = ds.length := by omega
    subst e1
    rw [List.drop_length] at hcr
    simp only [dcompD] at hcr
    cases hcr
    refine .inl ⟨hJ.stop ⟨F.c, H, S⟩ _ _ [] H' S' e sm R', p, kvO ks us, rfl, hD, fun ob => ?_⟩
    have RB : Rep F ρ gE σ H' S' := R.back sm R'
    have hn : ∀ (j : Nat) (ys : Option (List Int) × List D), ρ[j]? = some (.hold ys.1 ys.2) → σ[j]? ≠ some (some (.ref p)) := fun m ys hm' hσ => by
      obtain ⟨so, c1, q, us', c2, _, _, _, c5, _⟩ := R.slots m _ hm'
      rw [hσ] at c1; cases c1
      cases c2
      rw [hp] at c5; cases c5
    have RL := RB.lay (.frz ob (.dK (kvO ks us))) hS (R.new_HE hp) pah hn
    have sl : Same S' (upd S' p (.frz ob (.dK (kvO ks us)))) := Same.upd_new hS
    exact G _ _ _ (sm.trans sl) (RL.set i0 (.dct upd_same hkl (hz.mono sl)))
/-- y = {k: v for tg in iter if ..}, as data -/
theorem pfs_dct (i : Nat) {y : Str} {py : Pos} {kx vx tg iter : Expr} {ifs : List Expr} {scope : Scope} (own : List (Str × Nat)) {pos spos : Pos} {fi : FI} {gs : FG} {ft : FT} {fk fv : FE} (hN : X.N.Nodup) (hi : PFI X ah (fun _ => E) tg iter fi)
    (hg : ∀ i : BI, PFG (bx X scope i) ah tg gs (own.map (·.2))) (ht : ∀ i : BI, PFTs (bx X scope i) ah ifs ft) (hk : ∀ i : BI, PF (bx X scope i) ah (fun _ => E0) kx fk) (he : ∀ i : BI, PF (bx X scope i) ah (fun _ => E0) vx fv)
    (ok : BlkOk X.N X.env.scope scope own) (hsw : swapsWith (.DictComp kx vx [⟨tg, iter, ifs, 0⟩] scope pos) (some (.Name y py)) spos.line X.env = pure true)
    (hy : X.N[i]? = some y := by rfl) (hyl : X.env.scope.names.lookup y = some .local := by rfl) (hc : X.calm = true := by rfl) (hs : ∀ x, foldedSetIterable iter X.env x = pure x := by intro _; rfl) :
    PFS X ah E (.Assign [.Name y py] (.DictComp kx vx [⟨tg, iter, ifs, 0⟩] scope pos) spos) (sDct i fi (own.map (·.2)) gs ft fk fv) := by
  obtain ⟨t, p, r⟩ := hi
  obtain ⟨tg', pg, rg, wg, mg⟩ := all_PG (Y := bx X scope) (c := dc X ah) (fun _ => rfl) hg
  obtain ⟨tt, pt, rt⟩ := all_PTs (Y := bx X scope) (c := dc X ah) (fun _ => rfl) ht
  obtain ⟨tk, pk, rk⟩ := all_PE (Y := bx X scope) (c := dc X ah) (fun _ => rfl) hk
  obtain ⟨te, pe, re⟩ := all_PE (Y := bx X scope) (c := dc X ah) (fun _ => rfl) he
  exact ⟨_, ps_setDcF hc hN hy hyl hsw p ok (fun s H C cl fp => pg (s, H, C, cl, fp)) (fun s H C cl fp => pt (s, H, C, cl, fp)) (fun s H C cl fp => pk (s, H, C, cl, fp)) (fun s H C cl fp => pe (s, H, C, cl, fp)) hs, rs_dct i r rg wg mg rt rk re⟩
end
/-! ### walks -/
section
variable {X : Cx} {ah : Option Addr} {E : L2.St → XK} {c : DC}
theorem walk_dvals {S : Hp} {a : Addr} {o : Obj} {ks : List Int} {vs : List V} {ds : List D} (h : S a = some (.frz o (.dK (kvO ks vs)))) (hl : ks.length = vs.length) (hs : Dns c S vs ds) : WalkOf c (Itd a o (kvO ks vs)) ds S where
  stop := fun F ρ g σ H S1 e sm R => ⟨R.sub _ _ (sm _ _ h), by rw [kvO_length hl, hs.length]; exact Nat.le_refl _⟩
  go := fun F ρ g σ H S1 i d e sm R hd => by
    obtain ⟨v, hv, hn⟩ := hs.get hd
    have hi := (List.getElem?_eq_some_iff.mp hv).1
    have hk : ks[i]? = some (ks[i]'(by omega)) := List.getElem?_eq_getElem _
    refine ⟨⟨R.sub _ _ (sm _ _ h), by rw [kvO_length hl]; exact hi⟩, fun x H' y => ?_⟩
    obtain ⟨rfl, k, e1⟩ := y
    rw [kvO_get hk hv] at e1
    cases e1
    exact ⟨S1, Same.refl _, R, hn.mono sm⟩
theorem walk_ditems {S : Hp} {a : Addr} {o : Obj} {ks : List Int} {vs : List V} {ds : List D} (h : S a = some (.frz o (.dK (kvO ks vs)))) (hl : ks.length = vs.length) (hs : Dns c S vs ds) : WalkOf c (Iti a o (kvO ks vs)) ((ks.zip ds).map fun p => .tup [.int p.1, p.2]) S where
  stop := fun F ρ g σ H S1 e sm R => ⟨R.sub _ _ (sm _ _ h), by have := hs.length; rw [kvO_length hl]; simp; omega⟩
  go := fun F ρ g σ H S1 i d e sm R hd => by
    rw [List.getElem?_map, Option.map_eq_some_iff] at hd
    obtain ⟨⟨k, dx⟩, hz, rfl⟩ := hd
    rw [List.getElem?_zip_eq_some] at hz
    obtain ⟨hk, hdx⟩ := hz
    obtain ⟨v, hv, hn⟩ := hs.get hdx
    have hi := (List.getElem?_eq_some_iff.mp hv).1
    refine ⟨⟨R.sub _ _ (sm _ _ h), by rw [kvO_length hl]; exact hi⟩, fun x H' y => ?_⟩
    obtain ⟨T, k', v', e1, rfl, nT, rfl⟩ := y
    rw [kvO_get hk hv] at e1
    cases e1
    have st := R.tosame (.tup [kV (Sum.inl k), v]) nT
    exact ⟨_, st, R.up _ nT, .tup (SqT.of upd_same) (.cons (.int _) (.cons ((hn.mono sm).mono st) .nil))⟩
def dvalsD : D → Option (List D)
  | .dct _ xs => some xs
  | _ => none
def ditemsD : D → Option (List D)
  | .dct ks xs => some ((ks.zip xs).map fun p => .tup [.int p.1, p.2])
  | _ => none
@[simp] def iDV (a : FE) : FI := fun ρ g => (a ρ g).bd fun x g1 => lift (dvalsD x) g1
@[simp] def iDI (a : FE) : FI := fun ρ g => (a ρ g).bd fun x g1 => lift (ditemsD x) g1
theorem pfi_dvals {tg e : Expr} {a : FE} {apos cpos : Pos} (ha : PF X ah E e a) (hbase : attributeBase e "values" X.env (eval e X.env) = eval e X.env := by rfl) (hline : (apos.endLine == cpos.line) = true := by rfl) : PFI X ah E tg (.Call (.Attribute e "values" apos) [] [] cpos) (iDV a) := by
  obtain ⟨t, p, r⟩ := ha
  refine ⟨_, pi_values p hbase hline, ?_⟩
  refine RG.bind (rel' := rI) (r := fun σ x H1 (R : It → Hp → Prop) => ∃ d o kvs, x = .ref d ∧ H1 d = some (.frz o (.dK kvs)) ∧ R (Itd d o kvs) H1) (k := fun ρ x g1 => lift (dvalsD x) g1) r fun F ρ g σ H S Q x d e R hx G => ?_
  cases hx with
  | dct h hl hs =>
    refine ⟨_, _, _, rfl, R.sub _ _ h, G.ret R ?_⟩
    show WalkOf F.c _ _ _
    rw [e]
    exact walk_dvals h hl (e ▸ hs)
  | _ => simp only [dvalsD, lift] at G; exact G.elim
theorem pfi_ditems {e : Expr} {a : FE} {apos cpos tpos : Pos} {elts : List Expr} {kk : Nat} (ha : PF X ah E e a) (hbase : attributeBase e "items" X.env (eval e X.env) = eval e X.env := by rfl) (hline : (apos.endLine == cpos.line) = true := by rfl) : PFI X ah E (.Tuple elts kk tpos) (.Call (.Attribute e "items" apos) [] [] cpos) (iDI a) := by
  obtain ⟨t, p, r⟩ := ha
  refine ⟨_, pi_items p hbase hline, ?_⟩
  refine RG.bind (rel' := rI) (r := fun σ x H1 (R : It → Hp → Prop) => ∃ d o kvs, x = .ref d ∧ H1 d = some (.frz o (.dK kvs)) ∧ R (Iti d o kvs) H1) (k := fun ρ x g1 => lift (ditemsD x) g1) r fun F ρ g σ H S Q x d e R hx G => ?_
  cases hx with
  | dct h hl hs =>
    refine ⟨_, _, _, rfl, R.sub _ _ h, G.ret R ?_⟩
    show WalkOf F.c _ _ _
    rw [e]
    exact walk_ditems h hl (e ▸ hs)
  | _ => simp only [ditemsD, lift] at G; exact G.elim
/-! ### d[k], k in d -/
def dixD : D → D → Option D
  | .dct ks xs, .int n => dIx ks xs n
  | _, _ => none
def rDix : R2 := fun x y H Q => ∃ a v, x = .ref a ∧ DGet H a y (some v) ∧ Q v H
theorem os_dix : OpS c rDix dixD := by
  intro E F ρ g σ H S Q x y dx dy e R hx hy G
  cases hx with
  | dct h hl hs =>
    cases hy with
    | int n =>
      rename_i a o ks vs ds
      simp only [dixD] at G
      cases ho : dIx ks ds n with
      | none => rw [ho] at G; exact G.elim
      | some d =>
        rw [ho] at G
        obtain ⟨v, e1, e2⟩ := kvO_val n hs ho
        exact ⟨a, v, rfl, e1 ▸ .inl ⟨kvO ks vs, Sum.inl n, .inr ⟨o, R.sub _ _ h⟩, rfl, rfl⟩, G.ret R (by rw [e]; exact e2)⟩
    | _ => simp only [dixD, lift] at G; exact G.elim
  | _ => simp only [dixD, lift] at G; exact G.elim
theorem pf_dixD {e1 e2 : Expr} {a b : FE} {pos : Pos} (hu : X.A.units + 64 < cLine) (ha : PF X ah E e1 a) (hb : PF X ah E e2 b) (hs : NoSl e2) : PF X ah E (.Subscript e1 e2 pos) (cOp dixD a b) := by
  obtain ⟨t, p, r1⟩ := ha
  obtain ⟨u, q, r2⟩ := hb
  exact ⟨_, pe_dget (by omega) p q hs, re_op os_dix r1 r2⟩
def dinD (no : Bool) : D → D → Option D
  | .int n, .dct ks _ => some (.bl (ks.contains n != no))
  | _, _ => none
def rDin (no : Bool) : R2 := fun y x H Q => ∃ a o, x = .ref a ∧ DGet H a y o ∧ Q (.bl (o.isSome != no)) H
theorem kvO_has (n : Int) : ∀ (ks : List Int) (vs : List V), ks.length = vs.length → (valV (kvO ks vs) (Sum.inl n)).isSome = ks.contains n
  | [], [], _ => rfl
  | k :: ks, v :: vs, h => by
    have ih := kvO_has n ks vs (by simpa using h)
    unfold valV at ih ⊢
    simp only [kvO, List.contains_cons]
    rw [List.find?_cons]
    by_cases e : k = n
    · subst e; simp
    · have e1 : decide ((Sum.inl k : Key) = Sum.inl n) = false := decide_eq_false fun z => e (Sum.inl.inj z)
      have e2 : (n == k) = false := by
        have : ¬ n = k := fun z => e z.symm
        simpa using this
      rw [e2, Bool.false_or]
      simp only [e1]
      simpa using ih
  | [], _ :: _, h => by simp at h
  | _ :: _, [], h => by simp at h
theorem os_din (no : Bool) : OpS c (rDin no) (dinD no) := by
  intro E F ρ g σ H S Q y x dy dx e R hy hx G
  cases hy with
  | int n =>
    cases hx with
    | dct h hl hs =>
      rename_i a o ks vs ds
      simp only [dinD] at G
      exact ⟨a, _, rfl, .inl ⟨kvO ks vs, Sum.inl n, .inr ⟨o, R.sub _ _ h⟩, rfl, rfl⟩, by rw [kvO_has n ks vs hl]; exact G.ret R (.bl _)⟩
    | _ => simp only [dinD, lift] at G; exact G.elim
  | _ => simp only [dinD, lift] at G; exact G.elim
theorem pft_din {e1 e2 : Expr} {a b : FE} {pos : Pos} (hu : X.A.units + 64 < cLine) (ha : PF X ah E e1 a) (hb : PF X ah E e2 b) (hm : behindInMarks .In e2 = false := by first | exact nobehind _ (by decide) (by decide) | rfl) : PFT X ah E (.Compare e1 [.In] [e2] pos) (cT (cOp (dinD false) a b)) := by
  obtain ⟨t, p, r1⟩ := ha
  obtain ⟨u, q, r2⟩ := hb
  refine ⟨_, pt_cmp (pc_din (by omega) p q) hm, ?_⟩
  have r := rt_of (re_op (os_din false) r1 r2)
  have e : (tTest (tOp (rDin false) t u)) = tB (tDIn t u) := by
    funext σ H Q
    simp [tTest, tOp, rDin, tDIn, tB]
  rw [e] at r
  exact r
/-! ### 1 << n -/
def shlD : D → D → Option D := intD fun i j => if 0 ≤ j ∧ j ≤ 1000000 ∧ i.natAbs < 2 ^ 64 then some (.int (i * 2 ^ j.toNat)) else none
end
end FD
set_option Elab.async false
set_option linter.all false
set_option maxRecDepth 100000
set_option maxHeartbeats 2000000
namespace FD
open PySem PySem.Spec PyProof.Rows L2
section
variable {X : Cx} {ah : Option Addr} {E : L2.St → XK} {c : DC}
theorem os_shl : OpS c (L2.rI CPow fun i j => .int (i * 2 ^ j.toNat)) shlD := os_int fun i j d e => by
  split at e
  · rename_i h; cases e; exact ⟨_, fun S => .int _, fun H Q q => ⟨i, j, rfl, rfl, h, q⟩⟩
  · cases e
/-! ### list(d.values()) of data -/
def tListValsF (td : TE) : TE := fun σ H Q => td σ H fun x H1 => ∃ a o kvs, x = V.ref a ∧ H1 a = some (.frz o (.dK kvs)) ∧ ∀ q, H1 q = none → Q (.ref q) (upd H1 q (.lst (kvs.map (·.2))))
theorem pe_listValsF {o : Expr} {p pos apos mpos : Pos} {td : TE} (hc : X.calm = true) (hg : Gl X "list") (hm : X.mg "list" = none) (hd : PE X o td) (hbase : attributeBase o "values" X.env (eval o X.env) = eval o X.env := by rfl) (hline : (apos.endLine == mpos.line) = true := by rfl)
    (hse : starEach [Expr.Call (.Attribute o "values" apos) [] [] mpos] X.env = [(false, eval (Expr.Call (.Attribute o "values" apos) [] [] mpos) X.env)] := by rfl) :
    PE X (.Call (.Name "list" p) [.Call (.Attribute o "values" apos) [] [] mpos] [] pos) (tListValsF td) := by
  refine ⟨fun pins s σ H Q I h => ?_⟩
  refine wpAny_Call_Name_kw (ld_blt I hg hm (u := .type "list") (by first | rfl | decide +kernel) ?_ (by first | decide +kernel | decide) (by first | decide +kernel | decide))
  rw [hse]
  refine PySem.callWith_type1 (wpAny_Call_method0_late hbase hline (thn (hd.run pins s σ H _ I h) fun v s1 ⟨x, H1, I1, r1, a, od, kvs, ex, ha, q⟩ => ?_))
  subst ex
  obtain rfl : v = Value.ref a := r1
  obtain ⟨_, hz, _⟩ := I1.hok a _ ha
  obtain ⟨hsys, ho, ex, es, ep, vs, hdat, _, rel, dat⟩ := I1.frzK ha
  refine ⟨"dict", "dict.values", F.plainAttrs_dict, F.slot_dict_values, F.type_dict_values, ⟨od, ho, ex.1⟩, fun b e => ?_, Calls.callWith_builtin rfl (PySem.evalArgs_none ?_)⟩
  · cases e
    exact ⟨od, ho, ex.2.1⟩
  refine call_meetsIn F.slot_dict_values ⟨od, ho, ex.1⟩ F.entry_dict_values (F.args_dict_values_1 _) (meets_dict_values (mixKind X.prog X.w) a hsys) ⟨⟨vs, dat.dictOf⟩, ?_⟩
  have k1 : ∀ b u, s1.heap.get? b = some u → (s1.heap.push { cls := .type "dict_values", data := .fields #[.ref a] }).get? b = some u := fun b u e => Heap.get?_push_of_some _ e
  have dat1 : (s1.heap.push { cls := .type "dict_values", data := .fields #[.ref a] }).DictAt (mixKind X.prog X.w) a vs ep := dat.keep k1
  have hl : kvs.length = vs.length := KV.length rel
  have I2 : Inv X pins σ H1 { s1 with heap := s1.heap.push { cls := .type "dict_values", data := .fields #[.ref a] } } := I1.kept (t' := s1.toks) k1
  refine PySem.W.kdl_call (PySem.W.kdl_values (knd := mixKind X.prog X.w) (d := a) (kvs := vs) (ep := ep)) (I.ok.hd hc) ⟨⟨_, Heap.get?_push_size _ rfl, rfl, rfl⟩, dat1⟩ (by rw [← hl]; exact hz) fun h' tk acc' c' hkeep hS hacc => ?_
  refine ⟨.ref _, upd H1 _ (.lst (kvs.map (·.2))), I2.laid hkeep (Nat.le_refl _) (show ObjOk X.prog X.w _ _ _ (.lst (kvs.map (·.2))) from ⟨?_, acc'.toList, c', ?_, ?_⟩), rfl, q _ (I2.hok.fresh (Nat.le_refl _))⟩
  · rw [List.length_map]; exact hz
  · have el : acc'.toList.length = acc'.size := by simp
    refine vals_of_at (by rw [List.length_map, el, hacc.1, hl]) fun j x w h1 h2 => ?_
    obtain ⟨k, hky⟩ := hacc.2 j w (by rw [← Array.getElem?_toList]; exact h2)
    obtain ⟨y, e1, e2⟩ := KV.at' rel hky
    rw [List.getElem?_map, e1] at h1
    cases h1
    exact e2
  · rw [Array.toArray_toList]; exact hS
end
section
variable {X : Cx} {ah : Option Addr} {E : XK} {Es : L2.St → XK} {c : DC}
def dvalsL : D → Option D
  | .dct _ xs => some (.lst xs)
  | _ => none
theorem pf_dvalsL {e : Expr} {a : FE} {p pos apos mpos : Pos} (hm : X.mg "list" = none) (ha : PF X ah Es e a) (hc : X.calm = true := by rfl) (hg : Gl X "list" := by rfl) (hbase : attributeBase e "values" X.env (eval e X.env) = eval e X.env := by rfl) (hline : (apos.endLine == mpos.line) = true := by rfl)
    (hse : starEach [Expr.Call (.Attribute e "values" apos) [] [] mpos] X.env = [(false, eval (Expr.Call (.Attribute e "values" apos) [] [] mpos) X.env)] := by rfl) : PF X ah Es (.Call (.Name "list" p) [.Call (.Attribute e "values" apos) [] [] mpos] [] pos) (c1 dvalsL a) := by
  obtain ⟨t, q, r⟩ := ha
  refine ⟨_, pe_listValsF hc hg hm q hbase hline hse, ?_⟩
  refine RG.bind (r := fun σ x H1 (Q : VK) => ∃ a o kvs, x = V.ref a ∧ H1 a = some (.frz o (.dK kvs)) ∧ ∀ q, H1 q = none → Q (.ref q) (upd H1 q (.lst (kvs.map (·.2))))) (k := fun ρ x g1 => lift (dvalsL x) g1) r fun F ρ g σ H S Q x d e R hx G => ?_
  cases hx with
  | dct h hl hs =>
    refine ⟨_, _, _, rfl, R.sub _ _ h, fun q hq => ?_⟩
    rw [kvO_vals _ _ hl]
    exact G.new R hq (.lst upd_same (e ▸ (hs.mono (R.tosame _ hq))))
  | _ => simp only [dvalsL, lift] at G; exact G.elim
end
end FD
set_option Elab.async false
set_option linter.all false
set_option maxRecDepth 100000
set_option maxHeartbeats 2000000
namespace FD
open PySem PySem.Spec PyProof.Rows L2
/-! # the top's run, with a shorter way to what the names reach -/
/-- what these name, the globals' own dict aside -/
def nextQ (g : Addr → Option Obj) (as : List Addr) : List Addr := as.flatMap fun a => match g a with
  | some o => (He.refsD o).filter fun b => !(Nat.beq b mainGlobals)
  | none => []
def moreQ (g : Addr → Option Obj) : Nat → List Addr → List Addr
  | 0, as => as
  | n + 1, as => as ++ moreQ g n (nextQ g as)
def asQ (g : Addr → Option Obj) : List Addr := mainGlobals :: moreQ g 3 (nextQ g [mainGlobals])
def obsQ (fa : List He.Fa) (fn : List He.DefD) (ex : PySem.W.Frag → Bool) (g : Addr → Option Obj) : AlF := (fun K => (He.obsD fa fn K, ex K)) (He.frG g (asQ g))
def hookQ (fa : List He.Fa) (fn : List He.DefD) (ex : PySem.W.Frag → Bool) : PySem.W.Hook where
  α := AlF
  obs := fun s => obsQ fa fn ex s.heap.get?
  val := fun _ => valF fn
  says := fun _ h => ∃ K : PySem.W.Frag, K.In h ∧ He.SaysD fa fn K ∧ ex K = true
  of := fun _ _ e => ⟨_, He.frG_in, congrArg (fun z : AlF => z.1) e, congrArg (fun z : AlF => z.2) e⟩
  keeps := fun _ _ _ ⟨K, hK, c⟩ k => ⟨K, PySem.W.Frag.In.keeps hK k, c⟩
theorem obsQ_eq {fa : List He.Fa} {fn : List He.DefD} {ex : PySem.W.Frag → Bool} {g : Addr → Option Obj} {s : Shared} (h : ∀ a, g a = s.heap.get? a) : obsQ fa fn ex g = (hookQ fa fn ex).obs s := by
  have e : g = s.heap.get? := funext h
  rw [e] <;> rfl
theorem run_joinQ {r : PySem.W.OpenRow} {q : Program} {M : Nat} {loose : List Str} {w : World} {fas : List He.Fa} {fns : List He.DefD} {ex : PySem.W.Frag → Bool}
    (a : HandSHeadRun.RunEq r q PySem.W.Hook.none (fun _ => ()) M loose w)
    (b : ∀ os, (topEnd r M w os).map (fun s => obsQ fas fns ex (HandSHeadRun.getT s)) = some (valF fns)) :
    HandSHeadRun.RunEq r q (hookQ fas fns ex) (fun s => obsQ fas fns ex (HandSHeadRun.getT s)) M loose w := by
  intro os
  have a := a os
  have b := b os
  show (topEnd r M w os).map _ = _
  have a : (topEnd r M w os).map _ = _ := a
  cases h : topEnd r M w os with
  | none => rw [h] at b; cases b
  | some s =>
    rw [h] at a b
    have a := Option.some.inj a
    have b : obsQ fas fns ex (HandSHeadRun.getT s) = valF fns := Option.some.inj b
    have a1 := congrArg Prod.fst a
    have a2 := congrArg (fun z => z.2.1) a
    exact congrArg some (Prod.ext a1 (Prod.ext a2 b))
end FD
set_option Elab.async false
set_option linter.all false
set_option maxRecDepth 100000
set_option maxHeartbeats 2000000
namespace FD
open PySem L2 PyProof.Rows
/-! # [e for x in xs if t for y in ys if u] -/
section
variable {X : Cx} {ah : Option Addr} {E : L2.St → XK} {c : DC}
theorem all_PI {ι : Type} {Y : ι → Cx} {tg iter : Expr} {f : FI} (hc : ∀ i, dc (Y i) ah = c) (h : ∀ i, PFI (Y i) ah E tg iter f) : ∃ t, (∀ i, PI (Y i) tg iter t) ∧ @RG It (List D) rI c E t f := by
  have h' : ∀ i, ∃ t, PI (Y i) tg iter t ∧ @RG It (List D) rI c E t f := fun i => by
    obtain ⟨t, p, r⟩ := h i
    exact ⟨t, p, hc i ▸ r⟩
  by_cases hn : Nonempty ι
  · obtain ⟨i0⟩ := hn
    refine ⟨fun σ H Q => ∀ i, (h' i).choose σ H Q, fun i => ⟨fun pins s σ H Q I hw => (h' i).choose_spec.1.run pins s σ H Q I (hw i)⟩, ⟨fun F ρ g σ H S Q e R G i => ?_⟩⟩
    exact (h' i).choose_spec.2.run F ρ g σ H S Q e R G
  · exact ⟨fun _ _ _ => True, fun i => absurd ⟨i⟩ hn, ⟨fun _ _ _ _ _ _ _ _ _ _ => trivial⟩⟩
theorem TGw.wide {t : TG} {vs0 vs : List Nat} (h : TGw t vs0) (hm : TGm t) (sub : ∀ i ∈ vs0, i ∈ vs) : TGw t vs := fun x σ H Q q => by
  have e : ∀ σ2 : L2.St, wipe σ2 vs0 = wipe σ vs0 → wipe σ2 vs = wipe σ vs := fun σ2 z => by
    have hl : σ2.length = σ.length := by
      have := congrArg List.length z
      rwa [wipe_length, wipe_length] at this
    apply List.ext_getElem?
    intro j
    have zj := congrArg (fun l : L2.St => l[j]?) z
    simp only [wipe_get] at zj
    rw [wipe_get, wipe_get, hl]
    by_cases hj : j ∈ vs
    · by_cases hj0 : j ∈ vs0 <;> simp_all
    · have hj0 : j ∉ vs0 := fun k => hj (sub j k)
      simp_all
  exact hm.mono _ _ _ _ _ (fun σ2 H2 k => ⟨k.1, e σ2 k.2⟩) (h x σ H Q q)
/-- the turns of the outer walk, each with all turns of its inner walk -/
def comp2D (gs : FG) (ft : FT) (fi1 : FI) (vs1 : List Nat) (gs1 : FG) (ft1 : FT) (fe : FE) : List D → List En → Gh → M (List D)
  | [], _, g => some (.ok [] g)
  | d :: ds, ρ, g => match gs d ρ with
    | none => none
    | some ρ1 => match ft ρ1 g with
      | some (.ok true g1) => match fi1 ρ1 g1 with
        | some (.ok ds1 g2) => match compD gs1 ft1 fe ds1 (blkE ρ1 vs1) g2 with
          | some (.ok ys g3) => match comp2D gs ft fi1 vs1 gs1 ft1 fe ds ρ g3 with
            | some (.ok zs g4) => some (.ok (ys ++ zs) g4)
            | _ => none
          | _ => none
        | _ => none
      | some (.ok false g1) => comp2D gs ft fi1 vs1 gs1 ft1 fe ds ρ g1
      | _ => none
@[simp] def cLc2 (fi : FI) (vs : List Nat) (gs : FG) (ft : FT) (fi1 : FI) (vs1 : List Nat) (gs1 : FG) (ft1 : FT) (fe : FE) : FE := fun ρ g => (fi ρ g).bd fun ds g1 => match comp2D gs ft fi1 vs1 gs1 ft1 fe ds (blkE ρ vs) g1 with
  | some (.ok ys g2) => if ys.length ≤ 1000 then some (.ok (.lst ys) g2) else none
  | _ => none
theorem comp2D_cons {gs : FG} {ft : FT} {fi1 : FI} {vs1 : List Nat} {gs1 : FG} {ft1 : FT} {fe : FE} {d : D} {ds : List D} {ρ : List En} {g : Gh} {ys : List D} {g' : Gh} (h : comp2D gs ft fi1 vs1 gs1 ft1 fe (d :: ds) ρ g = some (.ok ys g')) :
    ∃ ρ1 b g1, gs d ρ = some ρ1 ∧ ft ρ1 g = some (.ok b g1) ∧ ((b = true ∧ ∃ ds1 g2 zs g3 rs, fi1 ρ1 g1 = some (.ok ds1 g2) ∧ compD gs1 ft1 fe ds1 (blkE ρ1 vs1) g2 = some (.ok zs g3) ∧ comp2D gs ft fi1 vs1 gs1 ft1 fe ds ρ g3 = some (.ok rs g') ∧ ys = zs ++ rs) ∨ (b = false ∧ comp2D gs ft fi1 vs1 gs1 ft1 fe ds ρ g1 = some (.ok ys g'))) := by
  unfold comp2D at h
  split at h
  · cases h
  rename_i ρ1 e1
  split at h
  · rename_i g1 e2
    split at h
    · rename_i ds1 g2 e3
      split at h
      · rename_i zs g3 e4
        split at h
        · rename_i rs g4 e5
          cases h
          exact ⟨ρ1, true, g1, e1, e2, .inl ⟨rfl, ds1, g2, zs, g3, rs, e3, e4, e5, rfl⟩⟩
        · cases h
      · cases h
    · cases h
  · rename_i g1 e2
    exact ⟨ρ1, false, g1, e1, e2, .inr ⟨rfl, h⟩⟩
  · cases h
theorem re_lc2 {wi wi1 : TI} {fi fi1 : FI} {tg tg1 : TG} {gs gs1 : FG} {tt tt1 : TT} {ft ft1 : FT} {te : TE} {fe : FE} {vs vs1 : List Nat} (hi : @RG It (List D) rI c E wi fi) (hg : RTg c tg gs) (hw : TGw tg vs) (hm : TGm tg) (ht : RT c (fun _ => E0) tt ft)
    (hi1 : @RG It (List D) rI c (fun _ => E0) wi1 fi1) (hg1 : RTg c tg1 gs1) (hw1 : TGw tg1 vs1) (hm1 : TGm tg1) (ht1 : RT c (fun _ => E0) tt1 ft1) (he : RE c (fun _ => E0) te fe) : RE c E (tLc2 wi tg tt wi1 tg1 tt1 te vs vs1) (cLc2 fi vs gs ft fi1 vs1 gs1 ft1 fe) := by
  refine RG.bind (rel := rI) (rel' := Dn) (r := fun σ J H1 (Q : VK) => ∀ D, H1 D = none → ∃ W : Nat → Nat → Hp → Prop, (∃ m, W 0 m (upd H1 D (.lst []))) ∧ ∀ i m H, W i m H →
    (J.stop i H ∧ Q (.ref D) H) ∨ (J.go i H ∧ ∃ Nx : Hp → Prop, (∀ H', Nx H' → ∃ m', m' < m ∧ W (i + 1) m' H') ∧ ∀ x H', J.yld i H x H' → tg x (wipe σ vs) H' fun σ2 H2 => wipe σ2 vs = wipe σ vs ∧ tt σ2 H2 fun b H3 =>
      if b = true then wi1 σ2 H3 fun J1 H4 => ∃ W1 : Nat → Nat → Hp → Prop, (∃ m, W1 0 m H4) ∧ ∀ j k H, W1 j k H →
        (J1.stop j H ∧ Nx H) ∨ (J1.go j H ∧ ∃ Nx1 : Hp → Prop, (∀ H', Nx1 H' → ∃ k', k' < k ∧ W1 (j + 1) k' H') ∧ ∀ x H', J1.yld j H x H' → tg1 x (wipe σ2 vs1) H' fun σ3 H5 => wipe σ3 vs1 = wipe σ2 vs1 ∧ tt1 σ3 H5 fun b H6 =>
          if b = true then te σ3 H6 fun y H7 => ∃ acc, H7 D = some (.lst acc) ∧ acc.length < sizeLine ∧ Nx1 (upd H7 D (.lst (acc ++ [y]))) else Nx1 H6)
      else Nx H3))
    (k := fun ρ ds g1 => match comp2D gs ft fi1 vs1 gs1 ft1 fe ds (blkE ρ vs) g1 with
      | some (.ok ys g2) => if ys.length ≤ 1000 then some (.ok (.lst ys) g2) else none
      | _ => none) hi fun F ρ g σ H S Q J ds e R hJ G => ?_
  intro p hp
  cases hc : comp2D gs ft fi1 vs1 gs1 ft1 fe ds (blkE ρ vs) g with
  | none => rw [hc] at G; exact G.elim
  | some o =>
  rw [hc] at G
  cases o with
  | ex cc ks es g1 => exact G.elim
  | ok ys gE =>
  simp only at G
  by_cases hl : ys.length ≤ 1000
  case neg => rw [if_neg hl] at G; exact G.elim
  rw [if_pos hl] at G
  have pah : F.c.ah ≠ some p := R.new_ah hp
  have R0 := R.sub_frame
  have www : ∀ (τ : L2.St) (us : List Nat), wipe (wipe τ us) us = wipe τ us := fun τ us => by
    apply List.ext_getElem?
    intro j
    rw [wipe_get, wipe_get, wipe_length]
    split <;> rfl
  let Pv : Nat → Hp → Prop := fun i H' => ∃ g' S' us zs rest, Same S S' ∧ Rep ⟨F.c, H, S⟩ [] g' [] H' S' ∧ H' p = some (.lst us) ∧ S' p = none ∧ Dns F.c S' us zs ∧ comp2D gs ft fi1 vs1 gs1 ft1 fe (ds.drop i) (blkE ρ vs) g' = some (.ok rest gE) ∧ zs ++ rest = ys
  refine ⟨fun i m H' => m = ds.length - i ∧ i ≤ ds.length ∧ Pv i H', ⟨ds.length, by simp, Nat.zero_le _, g, S, [], [], ys, Same.refl S, R0.write1 (R.sub.free hp) hp pah, upd_same, R.sub.free hp, .nil, hc, rfl⟩, ?_⟩
  rintro i m H' ⟨rfl, hi', g', S', us, zs, rest, sm, R', hD, hS, hz, hcr, hy⟩
  by_cases hlt : i < ds.length
  · refine .inr ?_
    rw [drop_of hlt] at hcr
    obtain ⟨ρ1, b, g1, e1, e2, alt⟩ := comp2D_cons hcr
    have RI := Rep.inner (F' := ⟨F.c, H, S⟩) R vs sm rfl R'
    obtain ⟨go, yl⟩ := hJ.go ⟨F.c, H', S'⟩ _ g' (wipe σ vs) H' S' i ds[i] e sm RI (List.getElem?_eq_getElem hlt)
    refine ⟨go, Pv (i + 1), fun H2 p' => ⟨ds.length - (i + 1), by omega, rfl, hlt, p'⟩, fun x H1 y => ?_⟩
    obtain ⟨S1, sm1, R1, hx⟩ := yl x H1 y
    refine hm.mono _ _ _ _ _ (fun σ2 H2 q => ⟨q.2.trans (www σ vs), q.1⟩) (hw x (wipe σ vs) H1 _ ?_)
    refine hg.run ⟨F.c, H', S'⟩ _ g' (wipe σ vs) H1 S1 x _ _ e R1 hx ?_
    rw [e1]
    intro σ2 R2
    refine ht.run ⟨F.c, H', S'⟩ _ g' σ2 H1 S1 _ e R2 ?_
    rw [e2]
    intro b' H3 S3 sm3 R3 hb
    have hb : b' = b := hb
    subst hb
    have keep : ∀ {ρx gx σx Hx Sx}, Rep ⟨F.c, H', S'⟩ ρx gx σx Hx Sx → Hx p = some (.lst us) ∧ Sx p = none := fun {ρx gx σx Hx Sx} Rx => ⟨Rx.keep p _ hD pah, Rx.stay p (by show H' p ≠ none; rw [hD]; simp) hS⟩
    rcases alt with ⟨rfl, ds1, g2, ys1, g3, rs, e3, e4, e5, rfl⟩ | ⟨rfl, e4⟩
    · rw [if_pos rfl]
      refine hi1.run ⟨F.c, H', S'⟩ _ g1 σ2 H3 S3 _ e R3 ?_
      rw [e3]
      intro J1 H4 S4 sm4 R4 hJ1
      obtain ⟨k1, k2⟩ := keep R4
      have sm' : Same S' S4 := sm1.trans (sm3.trans sm4)
      let Pw : Nat → Hp → Prop := fun j H'' => ∃ g'' S'' us1 zs1 rest1, Same S4 S'' ∧ Rep ⟨F.c, H, S⟩ [] g'' [] H'' S'' ∧ H'' p = some (.lst us1) ∧ S'' p = none ∧ Dns F.c S'' us1 zs1 ∧ compD gs1 ft1 fe (ds1.drop j) (blkE ρ1 vs1) g'' = some (.ok rest1 g3) ∧ zs1 ++ rest1 = zs ++ ys1
      refine ⟨fun j m H'' => m = ds1.length - j ∧ j ≤ ds1.length ∧ Pw j H'', ⟨ds1.length, by simp, Nat.zero_le _, g2, S4, us, zs, ys1, Same.refl S4, Rep.behind R' sm' R4.bare, k1, k2, hz.mono sm', e4, rfl⟩, ?_⟩
      rintro j m H'' ⟨rfl, hj', g'', S'', us1, zs1, rest1, smj, Rj, hDj, hSj, hzj, hcj, hyj⟩
      by_cases hlj : j < ds1.length
      · refine .inr ?_
        rw [drop_of hlj] at hcj
        obtain ⟨ρ2, b2, h1, q1, q2, alt2⟩ := compD_cons hcj
        have RJ := Rep.inner (F' := ⟨F.c, H, S⟩) R4 vs1 smj rfl Rj
        obtain ⟨go1, yl1⟩ := hJ1.go ⟨F.c, H'', S''⟩ _ g'' (wipe σ2 vs1) H'' S'' j ds1[j] rfl smj RJ (List.getElem?_eq_getElem hlj)
        refine ⟨go1, Pw (j + 1), fun H2 p' => ⟨ds1.length - (j + 1), by omega, rfl, hlj, p'⟩, fun x1 Hx y1 => ?_⟩
        obtain ⟨Sx, smx, Rx, hx1⟩ := yl1 x1 Hx y1
        refine hm1.mono _ _ _ _ _ (fun σ3 H2 q => ⟨q.2.trans (www σ2 vs1), q.1⟩) (hw1 x1 (wipe σ2 vs1) Hx _ ?_)
        refine hg1.run ⟨F.c, H'', S''⟩ _ g'' (wipe σ2 vs1) Hx Sx x1 _ _ e Rx (by rw [← e]; exact hx1) ?_
        rw [q1]
        intro σ3 Rs
        refine ht1.run ⟨F.c, H'', S''⟩ _ g'' σ3 Hx Sx _ e Rs ?_
        rw [q2]
        intro b3 H6 S6 sm6 R6 hb3
        have hb3 : b3 = b2 := hb3
        subst hb3
        have keep1 : ∀ {ρx gx σx Hy Sy}, Rep ⟨F.c, H'', S''⟩ ρx gx σx Hy Sy → Hy p = some (.lst us1) ∧ Sy p = none := fun {ρx gx σx Hy Sy} Ry => ⟨Ry.keep p _ hDj pah, Ry.stay p (by show H'' p ≠ none; rw [hDj]; simp) hSj⟩
        rcases alt2 with ⟨rfl, yv, g5, zs', q3, q4, rfl⟩ | ⟨rfl, q4⟩
        · rw [if_pos rfl]
          refine he.run ⟨F.c, H'', S''⟩ _ h1 σ3 H6 S6 _ e R6 ?_
          rw [q3]
          intro y' H7 S7 sm7 R7 hy7
          obtain ⟨l1, l2⟩ := keep1 R7
          have sm2 : Same S'' S7 := smx.trans (sm6.trans sm7)
          refine ⟨us1, l1, ?_, g5, S7, us1 ++ [y'], zs1 ++ [yv], zs', smj.trans sm2, (Rep.behind Rj sm2 R7.bare).write1 l2 hp pah, upd_same, l2, (hzj.mono sm2).append (.cons hy7 .nil), q4, by rw [← hyj]; simp⟩
          have a1 : us1.length = zs1.length := hzj.length
          have a2 := congrArg List.length hyj
          have a3 := congrArg List.length hy
          simp only [List.length_append] at a2 a3
          exact small1000 (by omega)
        · rw [if_neg (by simp)]
          obtain ⟨l1, l2⟩ := keep1 R6
          have sm2 : Same S'' S6 := smx.trans sm6
          exact ⟨h1, S6, us1, zs1, rest1, smj.trans sm2, Rep.behind Rj sm2 R6.bare, l1, l2, hzj.mono sm2, q4, hyj⟩
      · have z1 : j = ds1.length := by omega
        subst z1
        rw [List.drop_length] at hcj
        simp only [compD] at hcj
        cases hcj
        rw [List.append_nil] at hyj
        subst hyj
        have RJ := Rep.inner (F' := ⟨F.c, H, S⟩) R4 vs1 smj rfl Rj
        refine .inl ⟨hJ1.stop ⟨F.c, H'', S''⟩ _ _ (wipe σ2 vs1) H'' S'' rfl smj RJ, g3, S'', us1, zs ++ ys1, rs, sm.trans (sm'.trans smj), Rj, hDj, hSj, hzj, e5, by rw [← hy]; simp⟩
    · rw [if_neg (by simp)]
      obtain ⟨k1, k2⟩ := keep R3
      have sm' : Same S' S3 := sm1.trans sm3
      exact ⟨g1, S3, us, zs, rest, sm.trans sm', Rep.behind R' sm' R3.bare, k1, k2, hz.mono sm', e4, hy⟩
  · have e1 : i = ds.length := by omega
    subst e1
    rw [List.drop_length] at hcr
    simp only [comp2D] at hcr
    cases hcr
    rw [List.append_nil] at hy
    subst hy
    refine .inl ⟨?_, ?_⟩
    · exact hJ.stop ⟨F.c, H, S⟩ _ _ [] H' S' e sm R'
    · have R2 := R'.freeze1 hD hS hp pah
      refine G (.ref p) H' _ (sm.trans (Same.upd_new hS)) (R.back (sm.trans (Same.upd_new hS)) R2) ?_
      exact .lst upd_same (hz.mono (Same.upd_new hS))
theorem pf_lc2 {elt tg iter tg1 iter1 : Expr} {ifs ifs1 : List Expr} {scope : Scope} (own : List (Str × Nat)) (vs0 vs1 : List Nat) {pos : Pos} {fi fi1 : FI} {gs gs1 : FG} {ft ft1 : FT} {fe : FE} (hN : X.N.Nodup) (hi : PFI X ah E tg iter fi)
    (hg : ∀ i : BI, PFG (bx X scope i) ah tg gs vs0) (ht : ∀ i : BI, PFTs (bx X scope i) ah ifs ft) (hi1 : ∀ i : BI, PFI (bx X scope i) ah (fun _ => E0) tg1 iter1 fi1) (hg1 : ∀ i : BI, PFG (bx X scope i) ah tg1 gs1 vs1) (ht1 : ∀ i : BI, PFTs (bx X scope i) ah ifs1 ft1) (he : ∀ i : BI, PF (bx X scope i) ah (fun _ => E0) elt fe)
    (ok : BlkOk X.N X.env.scope scope own) (s0 : ∀ i ∈ vs0, i ∈ own.map (·.2) := by decide) (s1 : ∀ i ∈ vs1, i ∈ own.map (·.2) := by decide) (hc : X.calm = true := by rfl) (hs : ∀ x, foldedSetIterable iter X.env x = pure x := by intro _; rfl) (hs1 : ∀ env x, foldedSetIterable iter1 env x = pure x := by intro _ _; rfl) :
    PF X ah E (.ListComp elt [⟨tg, iter, ifs, 0⟩, ⟨tg1, iter1, ifs1, 0⟩] scope pos) (cLc2 fi (own.map (·.2)) gs ft fi1 vs1 gs1 ft1 fe) := by
  obtain ⟨t, p, r⟩ := hi
  obtain ⟨tg', pg, rg, wg, mg⟩ := all_PG (Y := bx X scope) (c := dc X ah) (fun _ => rfl) hg
  obtain ⟨tt, pt, rt⟩ := all_PTs (Y := bx X scope) (c := dc X ah) (fun _ => rfl) ht
  obtain ⟨ti1, p1, r1⟩ := all_PI (Y := bx X scope) (c := dc X ah) (fun _ => rfl) hi1
  obtain ⟨tg1', pg1, rg1, wg1, mg1⟩ := all_PG (Y := bx X scope) (c := dc X ah) (fun _ => rfl) hg1
  obtain ⟨tt1, pt1, rt1⟩ := all_PTs (Y := bx X scope) (c := dc X ah) (fun _ => rfl) ht1
  obtain ⟨te, pe, re⟩ := all_PE (Y := bx X scope) (c := dc X ah) (fun _ => rfl) he
  exact ⟨_, pe_lc2 hc hN p ok s1 (fun s H C cl fp => pg (s, H, C, cl, fp)) (fun s H C cl fp => pt (s, H, C, cl, fp)) (fun s H C cl fp => p1 (s, H, C, cl, fp)) (fun s H C cl fp => pg1 (s, H, C, cl, fp)) (fun s H C cl fp => pt1 (s, H, C, cl, fp)) (fun s H C cl fp => pe (s, H, C, cl, fp)) hs hs1, re_lc2 r rg (wg.wide mg s0) mg rt r1 rg1 wg1 mg1 rt1 re⟩
end
end FD
set_option Elab.async false
set_option linter.all false
set_option maxRecDepth 100000
set_option maxHeartbeats 2000000
namespace FD
open PySem L2 PyProof.Rows
/-! # x.extend(e), e reads x: x shown as data while e is read, the drawing hand out of sight -/
mutual
def noH : D → Bool
  | .tup xs => noHs xs
  | .lst xs => noHs xs
  | .dct _ xs => noHs xs
  | .obj _ _ ds => noHs ds
  | .hnd => false
  | _ => true
def noHs : List D → Bool
  | [] => true
  | d :: ds => noH d && noHs ds
end
abbrev noA (c : DC) : DC := ⟨c.K, c.mg, none⟩
mutual
theorem Dn.noA {c : DC} {S : Hp} : ∀ {v : V} {d : D}, Dn c S v d → noH d = true → Dn (noA c) S v d
  | _, _, .non, _ => .non
  | _, _, .bl b, _ => .bl b
  | _, _, .int i, _ => .int i
  | _, _, .str x, _ => .str x
  | _, _, .tup h hs, e => .tup h (Dns.noA hs (by simpa [noH] using e))
  | _, _, .lst h hs, e => .lst h (Dns.noA hs (by simpa [noH] using e))
  | _, _, .emp h, _ => .emp h
  | _, _, .obj m h k hs, e => .obj m h k (Dns.noA hs (by simpa [noH] using e))
  | _, _, .hnd h, e => by simp [noH] at e
  | _, _, .rng h, _ => .rng h
  | _, _, .scr h, _ => .scr h
  | _, _, .dct h l hs, e => .dct h l (Dns.noA hs (by simpa [noH] using e))
theorem Dns.noA {c : DC} {S : Hp} : ∀ {vs : List V} {ds : List D}, Dns c S vs ds → noHs ds = true → Dns (noA c) S vs ds
  | _, _, .nil, _ => .nil
  | _, _, .cons h hs, e => by
    simp only [noHs, Bool.and_eq_true] at e
    exact .cons (Dn.noA h e.1) (Dns.noA hs e.2)
end
def shH : En → En
  | .dt d => if noH d = true then .dt d else .un
  | _ => .un
abbrev shwE (ρ : List En) (i : Nat) (xs : List D) : List En := (ρ.map shH).set i (.dt (.lst xs))
theorem Rep.shown {F : Fx} {ρ g σ H S} (R : Rep F ρ g σ H S) {i : Nat} {p : Addr} {vs : List V} {xs : List D} (hσ : σ[i]? = some (some (.ref p))) (h2 : S p = none) (h5 : H p = some (.lst vs)) (h6 : Dns F.c S vs xs) (hx : noHs xs = true) : Rep ⟨noA F.c, H, upd S p (.lst vs)⟩ (shwE ρ i xs) g σ H (upd S p (.lst vs)) := by
  have sm : Same S (upd S p (.lst vs)) := Same.upd_new h2
  refine ⟨fun b o e => ?_, trivial, fun b o e _ => e, fun b _ h => h, fun j e h => ?_, fun j k q xs' ys' h1 _ _ _ => ?_⟩
  · by_cases hb : b = p
    · subst hb; rw [upd_same] at e; cases e; exact h5
    · rw [upd_ne hb] at e; exact R.sub _ _ e
  · rcases get_set h with ⟨rfl, rfl⟩ | ⟨ne, h⟩
    · exact ⟨_, hσ, _, rfl, .lst upd_same ((h6.noA hx).mono sm)⟩
    · rw [List.getElem?_map, Option.map_eq_some_iff] at h
      obtain ⟨e0, k1, k2⟩ := h
      obtain ⟨so, q1, q2⟩ := R.slots j e0 k1
      refine ⟨so, q1, ?_⟩
      subst k2
      cases e0 with
      | un => trivial
      | hold ks xs => trivial
      | dt d =>
        by_cases hd : noH d = true
        · obtain ⟨v, a1, a2⟩ := q2
          simp only [shH, hd, if_true]
          exact ⟨v, a1, (a2.noA hd).mono sm⟩
        · simp only [shH, hd, if_false]
          trivial
  · rcases get_set h1 with ⟨_, z⟩ | ⟨_, h1⟩
    · cases z
    · rw [List.getElem?_map, Option.map_eq_some_iff] at h1
      obtain ⟨e0, _, k2⟩ := h1
      cases e0 with
      | un => simp [shH] at k2
      | hold ks xs => simp [shH] at k2
      | dt d => simp only [shH] at k2; split at k2 <;> cases k2
/-- without what was shown -/
def cutS (S : Hp) (p : Addr) : Hp := fun b => if b = p then none else S b
theorem Rep.unshown {F : Fx} {ρ g g1 σ H H1 S S1} (R : Rep F ρ g σ H S) {p : Addr} {vs : List V} (h2 : S p = none) (h3 : F.HE p = none) (h4 : F.c.ah ≠ some p) (h5 : H p = some (.lst vs)) (sm : Same (upd S p (.lst vs)) S1) (B : Rep ⟨noA F.c, H, upd S p (.lst vs)⟩ [] g1 [] H1 S1) : Same S (cutS S1 p) ∧ Rep F ρ g σ H1 (cutS S1 p) := by
  have sm0 : Same S (cutS S1 p) := fun b o e => by
    have ne : b ≠ p := fun z => by rw [z, h2] at e; cases e
    show (if b = p then none else S1 b) = some o
    rw [if_neg ne]
    exact sm _ _ (by rw [upd_ne ne]; exact e)
  have kp : ∀ b o, H b = some o → H1 b = some o := fun b o e => B.keep b o e (by simp)
  refine ⟨sm0, fun b o e => ?_, ?_, fun b o e h => kp _ _ (R.keep b o e h), fun b e h => ?_, fun j e he => ?_, R.apart⟩
  · have e : (if b = p then none else S1 b) = some o := e
    split at e
    · cases e
    · exact B.sub _ _ e
  · have h := R.hand
    unfold HandAt at h ⊢
    cases ea : F.c.ah with
    | none => trivial
    | some a =>
      rw [ea] at h
      obtain ⟨k1, q, k2, k3⟩ := h
      have ne : a ≠ p := fun z => h4 (by rw [ea, z])
      refine ⟨?_, q, kp _ _ k2, sm0 _ _ k3⟩
      show (if a = p then none else S1 a) = none
      rw [if_neg ne]
      exact B.stay a (by show H a ≠ none; rw [k2]; simp) (by show upd S p (.lst vs) a = none; rw [upd_ne ne]; exact k1)
  · show (if b = p then none else S1 b) = none
    split
    · rfl
    · rename_i ne
      have hs := R.stay b e h
      have hH : H b ≠ none := by
        by_cases hb : F.c.ah = some b
        · exact (R.hand_some hb).2
        · cases q : F.HE b with
          | none => exact absurd q e
          | some o => rw [R.keep b o q hb]; simp
      exact B.stay b hH (by show upd S p (.lst vs) b = none; rw [upd_ne ne]; exact hs)
  · obtain ⟨so, k1, k2⟩ := R.slots j e he
    refine ⟨so, k1, ?_⟩
    cases e with
    | un => trivial
    | dt d => obtain ⟨v, a1, a2⟩ := k2; exact ⟨v, a1, a2.mono sm0⟩
    | hold ks xs =>
      obtain ⟨q, ws, a1, a2, a3, a4, a5, a6⟩ := k2
      refine ⟨q, ws, a1, ?_, a3, a4, kp _ _ a5, a6.mono sm0⟩
      show (if q = p then none else S1 q) = none
      split
      · rfl
      · rename_i ne
        exact B.stay q (by show H q ≠ none; rw [a5]; simp) (by show upd S p (.lst vs) q = none; rw [upd_ne ne]; exact a2)
theorem Dn.of_flat {c : DC} {S : Hp} {d : D} (h : flatD d = true) : Dn c S (toV d) d := by
  cases d <;> simp [flatD] at h
  · exact .non
  · exact .bl _
  · exact .int _
  · exact .str _
theorem Dns.of_flat {c : DC} {S : Hp} : ∀ {ds : List D}, ds.all flatD = true → Dns c S (ds.map toV) ds
  | [], _ => .nil
  | d :: ds, h => by
    simp only [List.all_cons, Bool.and_eq_true] at h
    exact .cons (Dn.of_flat h.1) (Dns.of_flat h.2)
section
variable {X : Cx} {ah : Option Addr} {E : XK} {c : DC}
@[simp] def sExtS (i : Nat) (a : FE) : FS := fun ρ g => match ρ[i]? with
  | some (.hold none xs) => if noHs xs = true then match a (shwE ρ i xs) g with
      | some (.ok (.lst ys) _) => if xs.length + ys.length ≤ 1000 ∧ ys.all flatD = true then some (.ok (.nx (ρ.set i (.own (xs ++ ys)))) g) else none
      | _ => none
    else none
  | _ => none
theorem pfs_extS (i : Nat) {x : Str} {e : Expr} {a : FE} {p1 p2 p3 pos : Pos} (ha : PF X none (fun _ => E0) e a) (hN : X.N[i]? = some x := by rfl) (hv : Vis X.env.scope x := by first | exact Or.inl rfl | exact Or.inr (Or.inl rfl) | exact Or.inr (Or.inr rfl)) (hd : (x == ("__debug__" : Str)) = false := by decide)
    (hcd : (x == ("__classdict__" : Str)) = false := by decide)
    (hbase : attributeBase (.Name x p1) "extend" X.env (eval (.Name x p1) X.env) = eval (.Name x p1) X.env := by rfl)
    (hfew : ((backTo p3 (starEach [e] X.env)).all (fun x => !x.1) && (backToKw p3 (keywordEach [] X.env)).all (fun x => x.1.isSome)
      && decide ([e].length + ([] : List Keyword).length + (if ([] : List Keyword).isEmpty then 0 else 1) < 30)) = true := by rfl)
    (hline : (p2.endLine == p3.line) = true := by rfl) (hst : starEach [e] X.env = (false, eval e X.env) :: starEach [] X.env := by rfl) (hplain : (backTo p3 (starEach [] X.env)).any (·.1) = false := by rfl)
    (hs : swapsWith (.Call (.Attribute (.Name x p1) "extend" p2) [e] [] p3) none pos.line X.env = pure false := by rfl) : PFS X ah E (.Expr (.Call (.Attribute (.Name x p1) "extend" p2) [e] [] p3) pos) (sExtS i a) := by
  obtain ⟨t, q, r⟩ := ha
  refine ⟨_, ps_expr (pe_bm PySem.F.plainAttrs_list PySem.F.slot_list_extend PySem.F.type_list_extend mt_extend (pe_var hN hv hd hcd) (pa_cons q pa_nil hst) hbase hfew hline hst hplain) hs, ⟨fun F ρ g σ H S Z e R G => ?_⟩⟩
  simp only [sExtS] at G
  split at G
  case h_2 => exact G.elim
  rename_i xs hi
  by_cases hn : noHs xs = true
  case neg => rw [if_neg hn] at G; exact G.elim
  rw [if_pos hn] at G
  obtain ⟨so, h1, p, vs, rfl, h2, h3, h4, h5, h6⟩ := R.slots i _ hi
  refine ⟨.ref p, h1, .inl ⟨rfl, _, SqL.of h5⟩, ?_⟩
  have Rs := R.shown h1 h2 h5 h6 hn
  have ec : noA F.c = dc X none := by rw [e]
  refine r.run ⟨noA F.c, H, upd S p (.lst vs)⟩ (shwE ρ i xs) g σ H (upd S p (.lst vs)) _ ec Rs ?_
  split at G
  case h_2 => exact G.elim
  rename_i ys g1 ha
  rw [ha]
  by_cases hl : xs.length + ys.length ≤ 1000 ∧ ys.all flatD = true
  case neg => rw [if_neg hl] at G; exact G.elim
  rw [if_pos hl] at G
  intro y H1 S1 sm R1 hy
  obtain ⟨sm0, RU⟩ := R.unshown h2 h3 h4 h5 sm R1.bare
  have k5 : H1 p = some (.lst vs) := R1.keep p _ h5 (by simp)
  cases hy with
  | @lst b us ys hb hys =>
    have eu := (Dns.flat hys hl.2).1
    subst eu
    exact ⟨p, b, vs, ys.map toV, rfl, rfl, k5, R1.sub _ _ hb, by rw [h6.length, List.length_map]; exact Nat.le_of_lt (small1000 hl.1), G _ _ _ sm0 (RU.writeOwn hi h1 ((h6.mono sm0).append (Dns.of_flat hl.2)))⟩
end
end FD
set_option Elab.async false
set_option linter.all false
set_option maxRecDepth 100000
set_option maxHeartbeats 2000000
namespace FD
open PySem L2 PySem.Spec PyProof.Rows
/-! # list(range(n)) -/
section
variable {c : DC}
abbrev rListR : List V → Hp → VK → Prop := fun vs H Q => ∃ p i j, vs = [V.ref p] ∧ H p = some (.rng i j) ∧ RgOk i j ∧ ∀ q, H q = none → Q (.ref q) (upd H q (.lst (rgV i j)))
theorem cr_listR {X : Cx} (hc : X.calm = true) : CallR X (.type "list") rListR := by
  intro pins s σ H vs us Q I r h
  obtain ⟨p, i, j, rfl, hp, ok, q⟩ := h
  obtain ⟨u, rfl, rx⟩ := vals1 r
  obtain rfl : u = Value.ref p := rx
  obtain ⟨t, v, w, ga⟩ := (show ObjOk X.prog X.w H s.heap p (.rng i j) from I.hok p _ hp)
  obtain ⟨b1, b2, b3, b4, b5⟩ := ok
  refine call_list_range (n := (j - i).toNat) (I.ok.hd hc) ga (small_one b1 b2 b3 b4) (rangeSize_nat i j) b5 fun h' tk acc c' hk e' hi => ?_
  refine ⟨.ref s.heap.objs.size, upd H s.heap.objs.size (.lst (rgV i j)), I.laid hk (Nat.le_refl _) (show ObjOk X.prog X.w _ _ _ (.lst (rgV i j)) from ⟨?_, acc.toList, c', vals_rg hi, ?_⟩), rfl, q _ (I.hok.fresh (Nat.le_refl _))⟩
  · rw [rgV_length, sizeLine_eq]; omega
  · rw [Array.toArray_toList]; exact e'
noncomputable def listRD : List D → Option D
  | [.rng i j] => if ck (RgOk i j) = true then some (.lst (rngD i (j - i).toNat)) else none
  | _ => none
theorem dns_rg {S : Hp} (i : Int) : ∀ (n k : Nat), Dns c S ((List.range' k n).map fun (m : Nat) => V.int (i + (m : Nat))) ((List.range' k n).map fun (m : Nat) => D.int (i + (m : Nat)))
  | 0, _ => .nil
  | n + 1, k => by
    rw [List.range'_succ]
    exact .cons (.int _) (dns_rg i n (k + 1))
theorem cs_listR : CallS c rListR listRD := by
  intro E F ρ g σ H S Q vs ds e R hx G
  subst e
  unfold listRD at G
  split at G
  · obtain ⟨v, rfl, hv⟩ := hx.one
    rename_i i j
    by_cases hb : ck (RgOk i j) = true
    · rw [if_pos hb] at G
      cases hv with
      | rng h =>
        refine ⟨_, i, j, rfl, R.sub _ _ h, of_ck hb, fun l hl => G.new R hl (.lst upd_same ?_)⟩
        have := dns_rg (c := F.c) (S := upd S l (.lst (rgV i j))) i (j - i).toNat 0
        rw [← List.range_eq_range'] at this
        exact this
    · rw [if_neg hb] at G; exact G.elim
  · exact G.elim
end
end FD
set_option Elab.async false
set_option linter.all false
set_option maxRecDepth 100000
set_option maxHeartbeats 2000000
namespace FD
open PySem L2 PyProof.Rows
/-! # {k: v for tg in iter if ..} as a value, frozen for good -/
section
variable {X : Cx} {ah : Option Addr} {E : L2.St → XK} {c : DC}
def tDcF (wi : TI) (g : TG) (tt : TT) (tk tv : TE) (vs : List Nat) : TE := fun σ H Q => tDc wi g tt tk tv vs σ H fun x H1 => ∃ d kvs, x = V.ref d ∧ H1 d = some (.dK kvs) ∧ ∀ o, Q x (upd H1 d (.frz o (.dK kvs)))
theorem pe_dcF {kx vx tg iter : Expr} {ifs : List Expr} {scope : Scope} {own : List (Str × Nat)} {pos : Pos} {wi : TI} {g : TG} {tt : TT} {tk tv : TE} (hc : X.calm = true) (hN : X.N.Nodup) (hi : PI X tg iter wi) (ok : BlkOk X.N X.env.scope scope own)
    (hg : ∀ (s : Shared) (H : Hp) (C : Addr) (cl : List (Str × Addr)) (fp : List Addr), PG (X.blk s H scope (compEnvC scope cl C X.env) fp) tg g) (ht : ∀ (s : Shared) (H : Hp) (C : Addr) (cl : List (Str × Addr)) (fp : List Addr), PTs (X.blk s H scope (compEnvC scope cl C X.env) fp) ifs tt)
    (hk : ∀ (s : Shared) (H : Hp) (C : Addr) (cl : List (Str × Addr)) (fp : List Addr), PE (X.blk s H scope (compEnvC scope cl C X.env) fp) kx tk)
    (he : ∀ (s : Shared) (H : Hp) (C : Addr) (cl : List (Str × Addr)) (fp : List Addr), PE (X.blk s H scope (compEnvC scope cl C X.env) fp) vx tv) (hs : ∀ x, foldedSetIterable iter X.env x = pure x := by intro _; rfl) :
    PE X (.DictComp kx vx [⟨tg, iter, ifs, 0⟩] scope pos) (tDcF wi g tt tk tv (own.map (·.2))) := by
  have h := pe_dc (pos := pos) hc hN hi ok hg ht hk he hs
  refine ⟨fun pins s σ H Q I q => thn (h.run pins s σ H _ I q) fun v s1 ⟨x, H1, I1, r1, d, kvs, ed, hd, q1⟩ => ?_⟩
  subst ed
  obtain ⟨od, I2⟩ := I1.lock hd trivial
  exact ⟨_, _, I2, r1, q1 od⟩
@[simp] def cDct (fi : FI) (vs : List Nat) (gs : FG) (ft : FT) (fk fv : FE) : FE := fun ρ g => (fi ρ g).bd fun ds g1 => match dcompD gs ft fk fv ds (blkE ρ vs) [] [] g1 with
  | some (.ok p g2) => some (.ok (.dct p.1 p.2) g2)
  | _ => none
theorem re_dct {wi : TI} {fi : FI} {tg : TG} {gs : FG} {tt : TT} {ft : FT} {tk tv : TE} {fk fv : FE} {vs : List Nat} (hi : @RG It (List D) rI c E wi fi) (hg : RTg c tg gs) (hw : TGw tg vs) (hm : TGm tg) (ht : RT c (fun _ => E0) tt ft) (hk : RE c (fun _ => E0) tk fk) (he : RE c (fun _ => E0) tv fv) :
    RE c E (tDcF wi tg tt tk tv vs) (cDct fi vs gs ft fk fv) := by
  refine RG.bind (rel := rI) (r := fun σ J H1 (Q : VK) => ∀ D, H1 D = none → ∃ W : Nat → Nat → Hp → Prop, (∃ m, W 0 m (upd H1 D (.dK []))) ∧ ∀ i m H, W i m H →
    (J.stop i H ∧ ∃ d kvs, V.ref D = .ref d ∧ H d = some (.dK kvs) ∧ ∀ o, Q (.ref D) (upd H d (.frz o (.dK kvs)))) ∨ (J.go i H ∧ ∃ Nx : Hp → Prop, (∀ H', Nx H' → ∃ m', m' < m ∧ W (i + 1) m' H') ∧ ∀ x H', J.yld i H x H' → tg x (wipe σ vs) H' fun σ2 H2 => wipe σ2 vs = wipe σ vs ∧ tt σ2 H2 fun b H3 =>
      if b = true then tk σ2 H3 fun y H4 => tv σ2 H4 fun z H5 => ∃ kvs k, y = kV k ∧ H5 D = some (.dK kvs) ∧ kvs.length < sizeLine ∧ Nx (upd H5 D (.dK (putK kvs k z))) else Nx H3))
    (k := fun ρ ds g1 => match dcompD gs ft fk fv ds (blkE ρ vs) [] [] g1 with
      | some (.ok p g2) => some (.ok (D.dct p.1 p.2) g2)
      | _ => none) hi fun F ρ g σ H S Z J ds e R hJ G => ?_
  intro p hp
  cases hc : dcompD gs ft fk fv ds (blkE ρ vs) [] [] g with
  | none => rw [hc] at G; exact G.elim
  | some o =>
  rw [hc] at G
  cases o with
  | ex cc ks es g1 => exact G.elim
  | ok r gE =>
  simp only at G
  have pah : F.c.ah ≠ some p := R.new_ah hp
  have R0 := R.sub_frame
  let Pv : Nat → Hp → Prop := fun i H' => ∃ g' S' us ks zs, Same S S' ∧ Rep ⟨F.c, H, S⟩ [] g' [] H' S' ∧ H' p = some (.dK (kvO ks us)) ∧ ks.length = us.length ∧ S' p = none ∧ Dns F.c S' us zs ∧ dcompD gs ft fk fv (ds.drop i) (blkE ρ vs) ks zs g' = some (.ok r gE)
  refine ⟨fun i m H' => m = ds.length - i ∧ i ≤ ds.length ∧ Pv i H', ⟨ds.length, by simp, Nat.zero_le _, g, S, [], [], [], Same.refl S, R0.write1 (R.sub.free hp) hp pah, upd_same, rfl, R.sub.free hp, .nil, hc⟩, ?_⟩
  rintro i m H' ⟨rfl, hi', g', S', us, ks, zs, sm, R', hD, hkl, hS, hz, hcr⟩
  by_cases hlt : i < ds.length
  · refine .inr ?_
    rw [drop_of hlt] at hcr
    obtain ⟨ρ1, b, g1, e1, e2, alt⟩ := dcompD_cons hcr
    have RI := Rep.inner (F' := ⟨F.c, H, S⟩) R vs sm rfl R'
    obtain ⟨go, yl⟩ := hJ.go ⟨F.c, H', S'⟩ _ g' (wipe σ vs) H' S' i ds[i] e sm RI (List.getElem?_eq_getElem hlt)
    refine ⟨go, Pv (i + 1), fun H2 p' => ⟨ds.length - (i + 1), by omega, rfl, hlt, p'⟩, fun x H1 y => ?_⟩
    obtain ⟨S1, sm1, R1, hx⟩ := yl x H1 y
    have hgw := hw x (wipe σ vs) H1 (fun σ2 H2 => tt σ2 H2 fun b H3 =>
      if b = true then tk σ2 H3 fun y H4 => tv σ2 H4 fun z H5 => ∃ kvs k, y = kV k ∧ H5 p = some (.dK kvs) ∧ kvs.length < sizeLine ∧ Pv (i + 1) (upd H5 p (.dK (putK kvs k z))) else Pv (i + 1) H3)
    have ww : wipe (wipe σ vs) vs = wipe σ vs := by
      apply List.ext_getElem?
      intro j
      rw [wipe_get, wipe_get, wipe_length]
      split <;> rfl
    refine hm.mono _ _ _ _ _ (fun σ2 H2 q => ⟨q.2.trans ww, q.1⟩) (hgw ?_)
    refine hg.run ⟨F.c, H', S'⟩ _ g' (wipe σ vs) H1 S1 x _ _ e R1 hx ?_
    rw [e1]
    intro σ2 R2
    refine ht.run ⟨F.c, H', S'⟩ _ g' σ2 H1 S1 _ e R2 ?_
    rw [e2]
    intro b' H3 S3 sm3 R3 hb
    have hb : b' = b := hb
    subst hb
    have keep : ∀ {ρx gx σx Hx Sx}, Rep ⟨F.c, H', S'⟩ ρx gx σx Hx Sx → Hx p = some (.dK (kvO ks us)) ∧ Sx p = none := fun {ρx gx σx Hx Sx} Rx => ⟨Rx.keep p _ hD pah, Rx.stay p (by show H' p ≠ none; rw [hD]; simp) hS⟩
    rcases alt with ⟨rfl, kk, g2, y, g3, e3, e4, hl9, e5⟩ | ⟨rfl, e4⟩
    · rw [if_pos rfl]
      refine hk.run ⟨F.c, H', S'⟩ _ g1 σ2 H3 S3 _ e R3 ?_
      rw [e3]
      intro k' H4 S4 sm4 R4 hk4
      cases hk4.intE
      refine he.run ⟨F.c, H', S'⟩ _ g2 σ2 H4 S4 _ e R4 ?_
      rw [e4]
      intro y' H5 S5 sm5 R5 hy5
      obtain ⟨k1, k2⟩ := keep R5
      have sm' : Same S' S5 := sm1.trans (sm3.trans (sm4.trans sm5))
      refine ⟨kvO ks us, Sum.inl kk, rfl, k1, by rw [kvO_len _ _ hkl]; exact small1000 (by omega), g3, S5, dXs ks us kk y', dKs ks kk, dXs ks zs kk y, sm.trans sm', (Rep.behind R' sm' R5.bare).write1 k2 hp pah, by rw [upd_same, kvO_put kk y' hkl], ?_, k2, Dns.dXs hy5 ks (hz.mono sm'), e5⟩
      unfold dKs FD.dXs
      by_cases hc2 : ks.contains kk = true
      · rw [if_pos hc2, if_pos hc2]
        have q : ∀ (ks : List Int) (us : List V), ks.length = us.length → (dWith ks us kk y').length = ks.length := by
          intro ks
          induction ks with
          | nil => intro us h; cases us <;> rfl
          | cons a ks ih =>
            intro us h
            cases us with
            | nil => simp at h
            | cons u us => simp only [dWith, List.length_cons, ih us (by simpa using h)]
        rw [q ks us hkl]
      · rw [if_neg hc2, if_neg hc2]
        simp [hkl]
    · rw [if_neg (by simp)]
      obtain ⟨k1, k2⟩ := keep R3
      have sm' : Same S' S3 := sm1.trans sm3
      exact ⟨g1, S3, us, ks, zs, sm.trans sm', Rep.behind R' sm' R3.bare, k1, hkl, k2, hz.mono sm', e4⟩
  · have e1 : i = ds.length := by omega
    subst e1
    rw [List.drop_length] at hcr
    simp only [dcompD] at hcr
    cases hcr
    refine .inl ⟨hJ.stop ⟨F.c, H, S⟩ _ _ [] H' S' e sm R', p, kvO ks us, rfl, hD, fun ob => ?_⟩
    have RB : Rep F ρ gE σ H' S' := R.back sm R'
    have hn : ∀ (j : Nat) (ys : Option (List Int) × List D), ρ[j]? = some (.hold ys.1 ys.2) → σ[j]? ≠ some (some (.ref p)) := fun m ys hm' hσ => by
      obtain ⟨so, c1, q, us', c2, _, _, _, c5, _⟩ := R.slots m _ hm'
      rw [hσ] at c1; cases c1
      cases c2
      rw [hp] at c5; cases c5
    have RL := RB.lay (.frz ob (.dK (kvO ks us))) hS (R.new_HE hp) pah hn
    have sl : Same S' (upd S' p (.frz ob (.dK (kvO ks us)))) := Same.upd_new hS
    exact G _ _ _ (sm.trans sl) RL (.dct upd_same hkl (hz.mono sl))
theorem pf_dct {kx vx tg iter : Expr} {ifs : List Expr} {scope : Scope} (own : List (Str × Nat)) {pos : Pos} {fi : FI} {gs : FG} {ft : FT} {fk fv : FE} (hN : X.N.Nodup) (hi : PFI X ah E tg iter fi)
    (hg : ∀ i : BI, PFG (bx X scope i) ah tg gs (own.map (·.2))) (ht : ∀ i : BI, PFTs (bx X scope i) ah ifs ft) (hk : ∀ i : BI, PF (bx X scope i) ah (fun _ => E0) kx fk) (he : ∀ i : BI, PF (bx X scope i) ah (fun _ => E0) vx fv)
    (ok : BlkOk X.N X.env.scope scope own) (hc : X.calm = true := by rfl) (hs : ∀ x, foldedSetIterable iter X.env x = pure x := by intro _; rfl) :
    PF X ah E (.DictComp kx vx [⟨tg, iter, ifs, 0⟩] scope pos) (cDct fi (own.map (·.2)) gs ft fk fv) := by
  obtain ⟨t, p, r⟩ := hi
  obtain ⟨tg', pg, rg, wg, mg⟩ := all_PG (Y := bx X scope) (c := dc X ah) (fun _ => rfl) hg
  obtain ⟨tt, pt, rt⟩ := all_PTs (Y := bx X scope) (c := dc X ah) (fun _ => rfl) ht
  obtain ⟨tk, pk, rk⟩ := all_PE (Y := bx X scope) (c := dc X ah) (fun _ => rfl) hk
  obtain ⟨te, pe, re⟩ := all_PE (Y := bx X scope) (c := dc X ah) (fun _ => rfl) he
  exact ⟨_, pe_dcF hc hN p ok (fun s H C cl fp => pg (s, H, C, cl, fp)) (fun s H C cl fp => pt (s, H, C, cl, fp)) (fun s H C cl fp => pk (s, H, C, cl, fp)) (fun s H C cl fp => pe (s, H, C, cl, fp)) hs, re_dct r rg wg mg rt rk re⟩
/-- y = [e for .. for ..] -/
theorem pfs_lc2 {E' : XK} (i : Nat) {y : Str} {py : Pos} {elt tg iter tg1 iter1 : Expr} {ifs ifs1 : List Expr} {scope : Scope} (own : List (Str × Nat)) (vs0 vs1 : List Nat) {pos spos : Pos} {fi fi1 : FI} {gs gs1 : FG} {ft ft1 : FT} {fe : FE} (hN : X.N.Nodup) (hi : PFI X ah (fun _ => E') tg iter fi)
    (hg : ∀ i : BI, PFG (bx X scope i) ah tg gs vs0) (ht : ∀ i : BI, PFTs (bx X scope i) ah ifs ft) (hi1 : ∀ i : BI, PFI (bx X scope i) ah (fun _ => E0) tg1 iter1 fi1) (hg1 : ∀ i : BI, PFG (bx X scope i) ah tg1 gs1 vs1) (ht1 : ∀ i : BI, PFTs (bx X scope i) ah ifs1 ft1) (he : ∀ i : BI, PF (bx X scope i) ah (fun _ => E0) elt fe)
    (ok : BlkOk X.N X.env.scope scope own) (hsw : swapsWith (.ListComp elt [⟨tg, iter, ifs, 0⟩, ⟨tg1, iter1, ifs1, 0⟩] scope pos) (some (.Name y py)) spos.line X.env = pure true) (s0 : ∀ i ∈ vs0, i ∈ own.map (·.2) := by decide) (s1 : ∀ i ∈ vs1, i ∈ own.map (·.2) := by decide)
    (hy : X.N[i]? = some y := by rfl) (hyl : X.env.scope.names.lookup y = some .local := by rfl) (hc : X.calm = true := by rfl) (hs : ∀ x, foldedSetIterable iter X.env x = pure x := by intro _; rfl) (hs1 : ∀ env x, foldedSetIterable iter1 env x = pure x := by intro _ _; rfl) :
    PFS X ah E' (.Assign [.Name y py] (.ListComp elt [⟨tg, iter, ifs, 0⟩, ⟨tg1, iter1, ifs1, 0⟩] scope pos) spos) (sAsg (cLc2 fi (own.map (·.2)) gs ft fi1 vs1 gs1 ft1 fe) (gN i)) := by
  obtain ⟨t, p, r⟩ := hi
  obtain ⟨tg', pg, rg, wg, mg⟩ := all_PG (Y := bx X scope) (c := dc X ah) (fun _ => rfl) hg
  obtain ⟨tt, pt, rt⟩ := all_PTs (Y := bx X scope) (c := dc X ah) (fun _ => rfl) ht
  obtain ⟨ti1, p1, r1⟩ := all_PI (Y := bx X scope) (c := dc X ah) (fun _ => rfl) hi1
  obtain ⟨tg1', pg1, rg1, wg1, mg1⟩ := all_PG (Y := bx X scope) (c := dc X ah) (fun _ => rfl) hg1
  obtain ⟨tt1, pt1, rt1⟩ := all_PTs (Y := bx X scope) (c := dc X ah) (fun _ => rfl) ht1
  obtain ⟨te, pe, re⟩ := all_PE (Y := bx X scope) (c := dc X ah) (fun _ => rfl) he
  exact ⟨_, ps_setLc2 hc hN hy hyl hsw p ok s1 (fun s H C cl fp => pg (s, H, C, cl, fp)) (fun s H C cl fp => pt (s, H, C, cl, fp)) (fun s H C cl fp => p1 (s, H, C, cl, fp)) (fun s H C cl fp => pg1 (s, H, C, cl, fp)) (fun s H C cl fp => pt1 (s, H, C, cl, fp)) (fun s H C cl fp => pe (s, H, C, cl, fp)) hs hs1, rs_asg (re_lc2 r rg (wg.wide mg s0) mg rt r1 rg1 wg1 mg1 rt1 re) (rt_name i)⟩
end
end FD
set_option Elab.async false
set_option linter.all false
set_option maxRecDepth 100000
set_option maxHeartbeats 2000000
namespace FD
open PySem L2 PyProof.Rows
/-! # x[e] = a of a list that x alone holds; sorted pairs -/
section
variable {X : Cx} {ah : Option Addr} {E : XK} {c : DC}
theorem Dns.setAt {S : Hp} {v : V} {d : D} (hv : Dn c S v d) : ∀ {vs : List V} {ds : List D} (j : Nat), Dns c S vs ds → Dns c S (vs.set j v) (ds.set j d)
  | _, _, _, .nil => .nil
  | _, _, 0, .cons h hs => .cons hv hs
  | _, _, j + 1, .cons h hs => .cons h (Dns.setAt hv j hs)
@[simp] def sOSet (i : Nat) (b a : FE) : FS := fun ρ g => (a ρ g).bd fun y g1 => match ρ[i]? with
  | some (.hold none xs) => (b ρ g1).bd fun k g2 => match k with
    | .int n => match ixN xs.length n with
      | some j => some (.ok (.nx (ρ.set i (.own (xs.set j y)))) g2)
      | none => none
    | _ => none
  | _ => none
theorem pfs_oset (i : Nat) {x : Str} {e1 e2 : Expr} {a b : FE} {p1 p3 pos : Pos} (hb : PF X ah (fun _ => E) e1 b) (ha : PF X ah (fun _ => E) e2 a) (hN : X.N[i]? = some x := by rfl) (hv : Vis X.env.scope x := by first | exact Or.inl rfl | exact Or.inr (Or.inl rfl) | exact Or.inr (Or.inr rfl)) (hd : (x == ("__debug__" : Str)) = false := by decide)
    (hcd : (x == ("__classdict__" : Str)) = false := by decide)
    (hsub : ∀ v, assign (.Subscript (.Name x p1) e1 p3) X.env v = (do
      let ov ← holding [v] (eval (.Name x p1) X.env)
      let iv ← holding [v, ov] (eval e1 X.env)
      standAt p3
      holding [v, ov, iv] (setItem ov iv v)
      release [v, ov, iv] []) := by intro _; rfl)
    (hs : swapsWithSole [.Subscript (.Name x p1) e1 p3] e2 pos.line X.env = pure false := by rfl) (hw : swappedStores [.Subscript (.Name x p1) e1 p3] e2 X.env = pure none := by rfl)
    (h1 : (assignEach [.Subscript (.Name x p1) e1 p3] X.env).map (·.2) = [assign (.Subscript (.Name x p1) e1 p3) X.env] := by rfl) :
    PFS X ah E (.Assign [.Subscript (.Name x p1) e1 p3] e2 pos) (sOSet i b a) := by
  obtain ⟨t, q, r⟩ := ha
  obtain ⟨t2, q2, r2⟩ := hb
  refine ⟨_, ps_asg q (pg_sub (pe_var hN hv hd hcd) q2 set_list hsub) hs hw h1, ⟨fun F ρ g σ H S Z e R G => ?_⟩⟩
  simp only [sOSet] at G
  refine r.stepS e R G fun H1 S1 g1 y d sm R1 hy G => ?_
  split at G
  case h_2 => exact G.elim
  rename_i xs hi
  obtain ⟨so, h1, p, vs, rfl, h2, h3, h4, h5, h6⟩ := R1.slots i _ hi
  refine ⟨.ref p, h1, ?_⟩
  refine r2.stepS e R1 G fun H2 S2 g2 k dk sm2 R2 hk G => ?_
  split at G
  case h_2 => exact G.elim
  rename_i n
  cases hk.intE
  obtain ⟨so, k1, p', ws, k0, k2, k3, k4, k5, k6⟩ := R2.slots i _ hi
  rw [h1] at k1; cases k1; cases k0
  have k5' : H2 p = some (.lst ws) := k5
  cases hj : ixN xs.length n with
  | none => rw [hj] at G; exact G.elim
  | some j =>
    rw [hj] at G
    refine ⟨p, ws, n, j, rfl, rfl, k5', by rw [k6.length]; exact hj, ?_⟩
    exact G _ _ S2 (Same.refl _) (R2.writeHold (kz := none) hi h1 (Dns.setAt ((e ▸ hy).mono sm2) j k6))
/-! ## sorted(xs), pairs of whole numbers -/
def pairI2 (p : Int × Int) : D := .tup [.int p.1, .int p.2]
def pairsI : List D → Option (List (Int × Int))
  | [] => some []
  | .tup [.int i, .int j] :: ds => (pairsI ds).map ((i, j) :: ·)
  | _ => none
def leP (p q : Int × Int) : Bool := !(SrtO.lexB q p)
def sortP (ps : List (Int × Int)) : List (Int × Int) := ps.mergeSort leP
def sortPD : List D → Option D
  | [.lst ds] => (pairsI ds).map fun ps => .lst ((sortP ps).map pairI2)
  | _ => none
theorem pairsI_of : ∀ {ds : List D} {ps : List (Int × Int)}, pairsI ds = some ps → ds = ps.map pairI2
  | [], ps, e => by simp [pairsI] at e; subst e; rfl
  | d :: ds, ps, e => by
    unfold pairsI at e
    split at e
    · rename_i h; cases h
    · rename_i i j ds' h
      cases h
      rw [Option.map_eq_some_iff] at e
      obtain ⟨qs, e1, rfl⟩ := e
      rw [pairsI_of e1]; rfl
    · cases e
theorem pairsI_map : ∀ ps : List (Int × Int), pairsI (ps.map pairI2) = some ps
  | [] => rfl
  | p :: ps => by
    show (pairsI (ps.map pairI2)).map ((p.1, p.2) :: ·) = _
    rw [pairsI_map ps]; rfl
theorem leP_trans (a b c : Int × Int) (h1 : leP a b = true) (h2 : leP b c = true) : leP a c = true := by
  simp only [leP, Bool.not_eq_true'] at h1 h2 ⊢
  have := SrtO.lexB_no.mp h1
  have := SrtO.lexB_no.mp h2
  refine SrtO.lexB_no.mpr ?_
  omega
theorem leP_total (a b : Int × Int) : (leP a b || leP b a) = true := by
  simp only [leP, Bool.or_eq_true, Bool.not_eq_true']
  by_cases h : SrtO.lexB b a = false
  · exact .inl h
  · have h : SrtO.lexB b a = true := by simpa using h
    have := SrtO.lexB_iff.mp h
    refine .inr (SrtO.lexB_no.mpr ?_)
    omega
theorem leP_anti (a b : Int × Int) (h1 : leP a b = true) (h2 : leP b a = true) : a = b := by
  simp only [leP, Bool.not_eq_true'] at h1 h2
  have a1 := SrtO.lexB_no.mp h1
  have a2 := SrtO.lexB_no.mp h2
  have e1 : a.1 = b.1 := by omega
  have e2 : a.2 = b.2 := by omega
  exact Prod.ext e1 e2
theorem sortP_of {ps out : List (Int × Int)} (hp : out.Perm ps) (hs : out.Pairwise fun a b => leP a b = true) : out = sortP ps := by
  have h3 := List.pairwise_mergeSort (le := leP) leP_trans leP_total ps
  exact List.Perm.eq_of_pairwise (le := fun a b => leP a b = true) (fun a b _ _ h1 h2 => leP_anti a b h1 h2) hs h3 (hp.trans (List.mergeSort_perm _ _).symm)
theorem Dn.pair {S : Hp} {v : V} {i j : Int} (h : Dn c S v (.tup [.int i, .int j])) : ∃ t, v = .ref t ∧ SqT c.K S t [.int i, .int j] := by
  cases h with
  | tup h hs =>
    cases hs with
    | cons h1 hs =>
      cases hs with
      | cons h2 hs =>
        cases hs
        cases h1.intE
        cases h2.intE
        exact ⟨_, rfl, h⟩
abbrev PairAt (K : PySem.W.Frag) (H : Hp) (v : V) (p : Int × Int) : Prop := ∃ t, v = V.ref t ∧ SqT K H t [.int p.1, .int p.2]
def rSortP2 (K : PySem.W.Frag) : List V → Hp → VK → Prop := fun vs H Q => ∃ (a : Addr) (xs : List V) (ps : List (Int × Int)), vs = [V.ref a] ∧ SqL K H a xs ∧ xs.length = ps.length ∧ (∀ z ∈ xs.zip ps, PairAt K H z.1 z.2) ∧
  ∀ (zs : List (V × (Int × Int))) (p : Addr), zs.Perm (xs.zip ps) → (zs.map (·.2)).Pairwise (fun a b => leP a b = true) → H p = none → Q (.ref p) (upd H p (.lst (zs.map (·.1))))
open Classical in
noncomputable def kOf (K : PySem.W.Frag) (H : Hp) (v : V) : Int × Int := if h : ∃ p : Int × Int, PairAt K H v p then h.choose else (0, 0)
theorem zip_fst_map {α β : Type} {k : α → β} : ∀ {xs : List α} {ps : List β}, xs.length = ps.length → (∀ z ∈ xs.zip ps, k z.1 = z.2) → xs.zip ps = xs.map fun x => (x, k x)
  | [], [], _, _ => rfl
  | [], _ :: _, h, _ => by simp at h
  | _ :: _, [], h, _ => by simp at h
  | x :: xs, p :: ps, h, hk => by
    have e := hk (x, p) (by simp)
    have ih := zip_fst_map (k := k) (xs := xs) (ps := ps) (by simpa using h) fun z hz => hk z (by simp [hz])
    rw [List.zip_cons_cons, ih, List.map_cons, show k x = p from e]
theorem cr_sortP2 {X : Cx} : CallR X (.builtin "sorted") (rSortP2 X.K) := by
  intro pins s σ H vs us Q I r h
  obtain ⟨a, xs, ps, rfl, hs, hlen, hx, q⟩ := h
  obtain ⟨its, rv, hl, hz⟩ := I.list hs
  obtain ⟨u, rfl, ru⟩ := vals1 r
  obtain rfl : u = Value.ref a := ru
  have kAt : ∀ {v : V} {p : Int × Int}, PairAt X.K H v p → kOf X.K H v = p := fun {v p} hp => by
    have ex : ∃ p : Int × Int, PairAt X.K H v p := ⟨p, hp⟩
    unfold kOf
    rw [dif_pos ex]
    obtain ⟨t, e, h1⟩ := ex.choose_spec
    obtain ⟨t', e', h2⟩ := hp
    rw [e] at e'
    cases e'
    have := I.tuple_inj h1 h2
    injection this with a b
    injection b with b _
    injection a with a
    injection b with b
    exact Prod.ext a b
  have ez := zip_fst_map (k := kOf X.K H) hlen fun z hz => kAt (hx z hz)
  have hxk : ∀ x ∈ xs, PairAt X.K H x (kOf X.K H x) := fun x m => hx (x, kOf X.K H x) (by rw [ez]; exact List.mem_map.mpr ⟨x, m, rfl⟩)
  obtain ⟨e1, e2⟩ := refs_back rv fun x m => by
    obtain ⟨t, e, _⟩ := hxk x m
    exact ⟨t, e⟩
  refine SrtO.sorted_pairsO (k := fun u => kOf X.K H (backV u)) hl.isList (by rw [← rv.length]; exact hz) (fun v hv => ?_) fun h' d out h1 h2 kp hd hn => ?_
  · obtain ⟨t, rfl⟩ := e2 v hv
    have hm : V.ref t ∈ xs := by rw [e1]; exact List.mem_map.mpr ⟨_, hv, rfl⟩
    obtain ⟨t', e, ht⟩ := hxk _ hm
    cases e
    obtain ⟨its2, r2, ⟨o, ho, hc, n, hd⟩, _⟩ := I.tuple ht
    obtain ⟨u1, u2, rfl, ri, rj⟩ := vals2 r2
    obtain ⟨t1, rfl⟩ := ri
    obtain ⟨t2, rfl⟩ := rj
    exact ⟨t, o, t1, t2, n, rfl, ho, hc, hd⟩
  · have h3 : ∀ u ∈ out, ∃ a, u = Value.ref a := fun u hu => e2 u (h2.perm.mem_iff.mp hu)
    obtain ⟨n, hn⟩ := hn
    have pm : (out.map backV).Perm xs := by rw [e1]; exact h2.perm.map _
    let zs : List (V × (Int × Int)) := (out.map backV).map fun x => (x, kOf X.K H x)
    have ef : zs.map (·.1) = out.map backV := by
      show ((out.map backV).map fun x => (x, kOf X.K H x)).map (·.1) = _
      rw [List.map_map]
      exact List.map_id _
    have qq := q zs d (by rw [ez]; exact pm.map _) (by
      show (((out.map backV).map fun x => (x, kOf X.K H x)).map (·.2)).Pairwise _
      rw [List.map_map, List.map_map, List.pairwise_map]
      exact h1.imp fun {x y} hxy => by
        show (!(SrtO.lexB (kOf X.K H (backV y)) (kOf X.K H (backV x)))) = true
        rw [show SrtO.lexB (kOf X.K H (backV y)) (kOf X.K H (backV x)) = false from hxy]; rfl) (I.hok.fresh hd)
    rw [ef] at qq
    refine ⟨.ref d, upd H d (.lst (out.map backV)), I.laid (t' := s.toks) kp hd ⟨?_, out, n, vals_back h3, hn⟩, rfl, qq⟩
    rw [pm.length_eq]
    exact hz
theorem dns_zip {S : Hp} : ∀ {vs : List V} {ps : List (Int × Int)}, Dns c S vs (ps.map pairI2) → vs.length = ps.length ∧ ∀ z ∈ vs.zip ps, Dn c S z.1 (pairI2 z.2)
  | [], [], _ => ⟨rfl, fun z h => by simp at h⟩
  | [], _ :: _, h => by cases h
  | _ :: _, [], h => by cases h
  | v :: vs, p :: ps, h => by
    cases h with
    | cons h hs =>
      obtain ⟨e, a⟩ := dns_zip hs
      refine ⟨by simp [e], fun z hz => ?_⟩
      rw [List.zip_cons_cons, List.mem_cons] at hz
      rcases hz with rfl | hz
      · exact h
      · exact a z hz
theorem dns_map {S : Hp} : ∀ {zs : List (V × (Int × Int))}, (∀ z ∈ zs, Dn c S z.1 (pairI2 z.2)) → Dns c S (zs.map (·.1)) ((zs.map (·.2)).map pairI2)
  | [], _ => .nil
  | z :: zs, h => .cons (h z (by simp)) (dns_map fun w hw => h w (by simp [hw]))
theorem cs_sortedP : CallS c (rSortP2 c.K) sortPD := by
  intro E F ρ g σ H S Q vs ds e R hx G
  subst e
  unfold sortPD at G
  split at G
  · rename_i ds
    obtain ⟨v, rfl, hv⟩ := hx.one
    cases hv with
    | lst h hs =>
      rename_i a ws
      cases q : pairsI ds with
      | none => rw [q] at G; exact G.elim
      | some ps =>
        rw [q] at G
        have e := pairsI_of q
        subst e
        obtain ⟨e1, e2⟩ := dns_zip hs
        refine ⟨a, ws, ps, rfl, SqL.of (R.sub _ _ h), e1, fun z hz => ?_, fun zs p h1 h2 hn => ?_⟩
        · obtain ⟨t, a1, a2⟩ := Dn.pair (e2 z hz)
          exact ⟨t, a1, Same.tup R.sub a2⟩
        · have es : zs.map (·.2) = sortP ps := sortP_of (by
            have := h1.map (·.2)
            rwa [List.map_snd_zip (by omega)] at this) h2
          have hd : Dns F.c S (zs.map (·.1)) ((sortP ps).map pairI2) := by
            rw [← es]
            exact dns_map fun z hz => e2 z (h1.mem_iff.mp hz)
          exact G.new R hn (.lst upd_same (hd.mono (R.tosame _ hn)))
  · exact G.elim
end
/-! ## tuple(x), x an own list -/
@[simp] def cOTup (i : Nat) : FE := fun ρ g => match ρ[i]? with
  | some (.hold none xs) => some (.ok (.tup xs) g)
  | _ => none
section
variable {X : Cx} {ah : Option Addr} {Es : L2.St → XK} {c : DC}
theorem pf_otup (i : Nat) {x : Str} {p p1 pos : Pos} (hm : X.mg "tuple" = none) (hN : X.N[i]? = some x := by rfl) (hv : Vis X.env.scope x := by first | exact Or.inl rfl | exact Or.inr (Or.inl rfl) | exact Or.inr (Or.inr rfl)) (hd : (x == ("__debug__" : Str)) = false := by decide)
    (hcd : (x == ("__classdict__" : Str)) = false := by decide) (hg : Gl X "tuple" := by rfl)
    (he : starEach [.Name x p1] X.env = (false, eval (.Name x p1) X.env) :: starEach [] X.env := by rfl) (hpl : (backTo pos (starEach [] X.env)).any (·.1) = false := by rfl) : PF X ah Es (.Call (.Name "tuple" p) [.Name x p1] [] pos) (cOTup i) := by
  refine ⟨_, pe_callTy call_tuple_of hg hm (by decide +kernel) (pa_cons (pe_var hN hv hd hcd) pa_nil he) (by decide) (by decide) he hpl, ⟨fun F ρ g σ H S Q e R G => ?_⟩⟩
  simp only [cOTup] at G
  split at G
  case h_2 => exact G.elim
  rename_i xs hi
  obtain ⟨so, h1, p', vs, rfl, h2, h3, h4, h5, h6⟩ := R.slots i _ hi
  refine ⟨.ref p', h1, p', vs, rfl, .inl ⟨SqL.of h5, fun l hl => ?_⟩⟩
  exact G.new R hl (.tup (SqT.of upd_same) (h6.mono (R.tosame _ hl)))
end
end FD
set_option Elab.async false
set_option linter.all false
set_option maxRecDepth 100000
set_option maxHeartbeats 2000000
namespace FD
open PySem L2 PyProof.Rows
/-! # x[i], x[j] = (a, b) of a list that x alone holds -/
section
variable {X : Cx} {ah : Option Addr} {E : XK} {c : DC}
@[simp] def sOSwap (i : Nat) (b1 b2 : FE) (a : FA) : FS := fun ρ g => (a ρ g).bd fun ys g1 => match ys with
  | [y1, y2] => match ρ[i]? with
    | some (.hold none xs) => (b1 ρ g1).bd fun k1 g2 => match k1 with
      | .int n1 => match ixN xs.length n1 with
        | some j1 => (b2 (ρ.set i (.own (xs.set j1 y1))) g2).bd fun k2 g3 => match k2 with
          | .int n2 => match ixN xs.length n2 with
            | some j2 => some (.ok (.nx (ρ.set i (.own ((xs.set j1 y1).set j2 y2)))) g3)
            | none => none
          | _ => none
        | none => none
      | _ => none
    | _ => none
  | _ => none
theorem pfs_oswap (i : Nat) {x : Str} {e1 e2 ea eb : Expr} {b1 b2 : FE} {a : FA} {p1 p3 q1 q3 pt pt2 pos : Pos} {kt k2 : _} (hb1 : PF X ah (fun _ => E) e1 b1) (hb2 : PF X ah (fun _ => E) e2 b2) (ha : PFA X ah (fun _ => E) [ea, eb] a) (hN : X.N[i]? = some x := by rfl) (hv : Vis X.env.scope x := by first | exact Or.inl rfl | exact Or.inr (Or.inl rfl) | exact Or.inr (Or.inr rfl)) (hd : (x == ("__debug__" : Str)) = false := by decide)
    (hcd : (x == ("__classdict__" : Str)) = false := by decide) (hc : X.calm = true := by rfl)
    (hsub1 : ∀ v, assign (.Subscript (.Name x p1) e1 p3) X.env v = (do
      let ov ← holding [v] (eval (.Name x p1) X.env)
      let iv ← holding [v, ov] (eval e1 X.env)
      standAt p3
      holding [v, ov, iv] (setItem ov iv v)
      release [v, ov, iv] []) := by intro _; rfl)
    (hsub2 : ∀ v, assign (.Subscript (.Name x q1) e2 q3) X.env v = (do
      let ov ← holding [v] (eval (.Name x q1) X.env)
      let iv ← holding [v, ov] (eval e2 X.env)
      standAt q3
      holding [v, ov, iv] (setItem ov iv v)
      release [v, ov, iv] []) := by intro _; rfl)
    (ht1 : (assignEach [.Subscript (.Name x p1) e1 p3, .Subscript (.Name x q1) e2 q3] X.env).map (·.2) = assign (.Subscript (.Name x p1) e1 p3) X.env :: (assignEach [.Subscript (.Name x q1) e2 q3] X.env).map (·.2) := by rfl)
    (ht2 : (assignEach [.Subscript (.Name x q1) e2 q3] X.env).map (·.2) = assign (.Subscript (.Name x q1) e2 q3) X.env :: (assignEach [] X.env).map (·.2) := by rfl)
    (hn : (assignEach [.Subscript (.Name x p1) e1 p3, .Subscript (.Name x q1) e2 q3] X.env).length = 2 := by rfl) (hst : (assignEach [.Subscript (.Name x p1) e1 p3, .Subscript (.Name x q1) e2 q3] X.env).findIdx? (·.1) = none := by rfl)
    (hs : swapsWithSole [.Tuple [.Subscript (.Name x p1) e1 p3, .Subscript (.Name x q1) e2 q3] kt pt] (.Tuple [ea, eb] k2 pt2) pos.line X.env = pure false := by rfl) (hw : swappedStores [.Tuple [.Subscript (.Name x p1) e1 p3, .Subscript (.Name x q1) e2 q3] kt pt] (.Tuple [ea, eb] k2 pt2) X.env = pure none := by rfl)
    (h1 : (assignEach [.Tuple [.Subscript (.Name x p1) e1 p3, .Subscript (.Name x q1) e2 q3] kt pt] X.env).map (·.2) = [assign (.Tuple [.Subscript (.Name x p1) e1 p3, .Subscript (.Name x q1) e2 q3] kt pt) X.env] := by rfl) :
    PFS X ah E (.Assign [.Tuple [.Subscript (.Name x p1) e1 p3, .Subscript (.Name x q1) e2 q3] kt pt] (.Tuple [ea, eb] k2 pt2) pos) (sOSwap i b1 b2 a) := by
  obtain ⟨t, q, r⟩ := ha
  obtain ⟨t1, q1', r1⟩ := hb1
  obtain ⟨t2, q2', r2⟩ := hb2
  refine ⟨_, ps_asg (pe_tup q) (pg_tup hc (pgs_cons (pg_sub (pe_var hN hv hd hcd) q1' set_list hsub1) (pgs_cons (pg_sub (pe_var hN hv hd hcd) q2' set_list hsub2) pgs_nil ht2) ht1) hn hst) hs hw h1, ⟨fun F ρ g σ H S Z e R G => ?_⟩⟩
  simp only [sOSwap] at G
  refine r.stepS e R G fun H1 S1 g1 vs ds sm R1 hy G => ?_
  split at G
  case h_2 => exact G.elim
  rename_i y1 y2
  have hy : Dns F.c S1 vs [y1, y2] := e ▸ hy
  cases hy with
  | cons a1 hy =>
  cases hy with
  | cons a2 hy =>
  cases hy
  rename_i v1 v2
  refine ⟨by show 2 ≤ sizeLine; decide, fun p hp => ⟨p, [v1, v2], rfl, SqT.of upd_same, rfl, ?_⟩⟩
  have st := R1.tosame (.tup [v1, v2]) hp
  have R2 := R1.up (.tup [v1, v2]) hp
  have a1' := a1.mono st
  have a2' := a2.mono st
  have G := G.mono st
  split at G
  case h_2 => exact G.elim
  rename_i xs hi
  obtain ⟨so, s1, q0, ws0, rfl, _, _, _, _, _⟩ := R2.slots i _ hi
  refine ⟨v1, [v2], rfl, .ref q0, s1, ?_⟩
  refine r1.stepS e R2 G fun H3 S3 g2 kk dk sm3 R3 hk G => ?_
  split at G
  case h_2 => exact G.elim
  rename_i n1
  cases hk.intE
  obtain ⟨so, k1, p', ws, k0, k2, k3, k4, k5, k6⟩ := R3.slots i _ hi
  rw [s1] at k1; cases k1; cases k0
  have k5' : H3 q0 = some (.lst ws) := k5
  split at G
  case h_2 => exact G.elim
  rename_i j1 hj1
  refine ⟨q0, ws, n1, j1, rfl, rfl, k5', by rw [k6.length]; exact hj1, ?_⟩
  have b1' : Dn F.c S3 v1 y1 := a1'.mono sm3
  have b2' : Dn F.c S3 v2 y2 := a2'.mono sm3
  have R4 := R3.writeHold (kz := none) hi s1 (Dns.setAt b1' j1 k6)
  have hil : i < ρ.length := (List.getElem?_eq_some_iff.mp hi).1
  have hi4 : (ρ.set i (.own (xs.set j1 y1)))[i]? = some (.hold none (xs.set j1 y1)) := List.getElem?_set_self hil
  refine ⟨v2, [], rfl, .ref q0, s1, ?_⟩
  refine r2.stepS e R4 G fun H5 S5 g3 kk2 dk2 sm5 R5 hk2 G => ?_
  split at G
  case h_2 => exact G.elim
  rename_i n2
  cases hk2.intE
  obtain ⟨so, m1, p', ws5, m0, m2, m3, m4, m5, m6⟩ := R5.slots i _ hi4
  rw [s1] at m1; cases m1; cases m0
  have m5' : H5 q0 = some (.lst ws5) := m5
  split at G
  case h_2 => exact G.elim
  rename_i j2 hj2
  refine ⟨q0, ws5, n2, j2, rfl, rfl, m5', by rw [m6.length, List.length_set]; exact hj2, rfl, ?_⟩
  have R6 := R5.writeHold (kz := none) hi4 s1 (Dns.setAt (b2'.mono sm5) j2 m6)
  rw [List.set_set] at R6
  exact G _ _ S5 (Same.refl _) R6
end
end FD
set_option Elab.async false
set_option linter.all false
set_option maxRecDepth 100000
set_option maxHeartbeats 2000000
namespace FD
open PySem L2 PyProof.Rows
/-! # x, y = ([a] * n, [b] * m): two own lists at once -/
section
variable {X : Cx} {ah : Option Addr} {E : XK} {c : DC}
abbrev repL {α : Type} (n : Int) (x : α) : List α := (List.replicate n.toNat [x]).flatten
theorem repL_eq {α : Type} (n : Nat) (x : α) : repL (n : Int) x = List.replicate n x := by
  show (List.replicate ((n : Int).toNat) [x]).flatten = _
  rw [Int.toNat_natCast]
  induction n with
  | zero => rfl
  | succ n ih => rw [List.replicate_succ, List.flatten_cons, ih]; rfl
theorem Dns.repL {S : Hp} {v : V} {d : D} (h : Dn c S v d) (n : Int) : Dns c S (FD.repL n v) (FD.repL n d) := Dns.rep (.cons h .nil) _
@[simp] def sOwnRep2 (i j : Nat) (a1 m1 a2 m2 : FE) : FS := fun ρ g => (a1 (hidE ρ) g).bd fun x1 g1 => (m1 (hidE ρ) g1).bd fun k1 g2 => match k1 with
  | .int n1 => if 0 ≤ n1 ∧ n1 ≤ 1000 then (a2 (hidE ρ) g2).bd fun x2 g3 => (m2 (hidE ρ) g3).bd fun k2 g4 => match k2 with
    | .int n2 => if 0 ≤ n2 ∧ n2 ≤ 1000 then some (.ok (.nx ((ρ.set i (.own (repL n1 x1))).set j (.own (repL n2 x2)))) g4) else none
    | _ => none
    else none
  | _ => none
theorem rep_bounds {n : Int} (h : 0 ≤ n ∧ n ≤ 1000) {v : V} : -(2 ^ 63) ≤ n ∧ n < 2 ^ 63 ∧ [v].length * n.toNat ≤ sizeLine := by
  have p : (2 : Int) ^ 63 = 9223372036854775808 := by decide
  refine ⟨by omega, by omega, ?_⟩
  rw [sizeLine_eq]
  simp only [List.length_cons, List.length_nil]
  omega
theorem pfs_ownRep2 (i j : Nat) {x y : Str} {ea1 em1 ea2 em2 : Expr} {a1 m1 a2 m2 : FE} {px py pt pt2 p1 p2 o1 o2 pos : Pos} {kt k2 : _} (hc : X.calm = true) (hN : X.N.Nodup) (hA1 : PF X ah (fun _ => E) ea1 a1) (hM1 : PF X ah (fun _ => E) em1 m1) (hA2 : PF X ah (fun _ => E) ea2 a2) (hM2 : PF X ah (fun _ => E) em2 m2) (hij : i ≠ j := by decide)
    (hi : X.N[i]? = some x := by rfl) (hj : X.N[j]? = some y := by rfl) (hx : X.env.scope.names.lookup x = some .local := by rfl) (hy : X.env.scope.names.lookup y = some .local := by rfl)
    (g1 : starEach [.BinOp (.List [ea1] p1) .Mult em1 o1, .BinOp (.List [ea2] p2) .Mult em2 o2] X.env = (false, eval (.BinOp (.List [ea1] p1) .Mult em1 o1) X.env) :: starEach [.BinOp (.List [ea2] p2) .Mult em2 o2] X.env := by rfl) (g2 : starEach [.BinOp (.List [ea2] p2) .Mult em2 o2] X.env = (false, eval (.BinOp (.List [ea2] p2) .Mult em2 o2) X.env) :: starEach [] X.env := by rfl)
    (g3 : starEach [ea1] X.env = (false, eval ea1 X.env) :: starEach [] X.env := by rfl) (g4 : starEach [ea2] X.env = (false, eval ea2 X.env) :: starEach [] X.env := by rfl)
    (hw : swappedStores [.Tuple [.Name x px, .Name y py] kt pt] (.Tuple [.BinOp (.List [ea1] p1) .Mult em1 o1, .BinOp (.List [ea2] p2) .Mult em2 o2] k2 pt2) X.env = pure (some [x, y]) := by rfl)
    (hs : swapsWithSole [.Tuple [.Name x px, .Name y py] kt pt] (.Tuple [.BinOp (.List [ea1] p1) .Mult em1 o1, .BinOp (.List [ea2] p2) .Mult em2 o2] k2 pt2) pos.line X.env = pure false := by rfl) :
    PFS X ah E (.Assign [.Tuple [.Name x px, .Name y py] kt pt] (.Tuple [.BinOp (.List [ea1] p1) .Mult em1 o1, .BinOp (.List [ea2] p2) .Mult em2 o2] k2 pt2) pos) (sOwnRep2 i j a1 m1 a2 m2) := by
  obtain ⟨t1, q1, r1⟩ := hA1
  obtain ⟨u1, w1, s1⟩ := hM1
  obtain ⟨t2, q2, r2⟩ := hA2
  obtain ⟨u2, w2, s2⟩ := hM2
  refine ⟨_, ps_par hc hN hi hj hij hx hy (pa_cons (pe_op op_rep (pe_lst (pa_cons q1 pa_nil g3)) w1) (pa_cons (pe_op op_rep (pe_lst (pa_cons q2 pa_nil g4)) w2) pa_nil g2) g1) hw hs, ⟨fun F ρ g σ H S Z e R G => ?_⟩⟩
  simp only [sOwnRep2] at G
  -- the first list
  refine step_hid r1 e R G fun H1 S1 ga v1 d1 sm1 B1 hd1 G => ?_
  have R1 : Rep F ρ ga σ H1 S1 := R.back sm1 B1.bare
  refine ⟨by show 1 ≤ sizeLine; rw [sizeLine_eq]; omega, fun P0 hP0 => ?_⟩
  have nA0 := R1.new_ah hP0
  have J0 := R1.junk (.lst [v1]) hP0
  refine step_hid s1 e J0 G fun H2 S2 gb kv dk sm2 B2 hk G => ?_
  have k0 : H2 P0 = some (.lst [v1]) := B2.keep P0 _ upd_same nA0
  have R2 : Rep F ρ gb σ H2 S2 := J0.back sm2 B2.bare
  split at G
  case h_2 => exact G.elim
  rename_i n1
  cases hk.intE
  by_cases b1 : 0 ≤ n1 ∧ n1 ≤ 1000
  case neg => rw [if_neg b1] at G; exact G.elim
  rw [if_pos b1] at G
  obtain ⟨l1, l2, l3⟩ := rep_bounds b1 (v := v1)
  refine ⟨P0, n1, [v1], rfl, rfl, k0, l1, l2, l3, fun P1 hP1 => ?_⟩
  have nS1 : S2 P1 = none := R2.sub.free hP1
  have nE1 := R2.new_HE hP1
  have nA1 := R2.new_ah hP1
  have J1 := R2.junk (.lst (repL n1 v1)) hP1
  -- the second list
  refine step_hid r2 e J1 G fun H3 S3 gc v2 d2 sm3 B3 hd2 G => ?_
  have k1 : H3 P1 = some (.lst (repL n1 v1)) := B3.keep P1 _ upd_same nA1
  have t1' : S3 P1 = none := B3.stay P1 (by show upd H2 P1 (.lst (repL n1 v1)) P1 ≠ none; rw [upd_same]; simp) nS1
  have R3 : Rep F ρ gc σ H3 S3 := J1.back sm3 B3.bare
  refine ⟨by show 1 ≤ sizeLine; rw [sizeLine_eq]; omega, fun P2 hP2 => ?_⟩
  have nA2 := R3.new_ah hP2
  have n12 : P1 ≠ P2 := ne_of_none k1 hP2
  have J2 := R3.junk (.lst [v2]) hP2
  refine step_hid s2 e J2 G fun H4 S4 gd kv2 dk2 sm4 B4 hk2 G => ?_
  have k2' : H4 P2 = some (.lst [v2]) := B4.keep P2 _ upd_same nA2
  have k1' : H4 P1 = some (.lst (repL n1 v1)) := B4.keep P1 _ (by show upd H3 P2 (.lst [v2]) P1 = _; rw [upd_ne n12]; exact k1) nA1
  have t1'' : S4 P1 = none := B4.stay P1 (by show upd H3 P2 (.lst [v2]) P1 ≠ none; rw [upd_ne n12, k1]; simp) t1'
  have R4 : Rep F ρ gd σ H4 S4 := J2.back sm4 B4.bare
  split at G
  case h_2 => exact G.elim
  rename_i n2
  cases hk2.intE
  by_cases b2 : 0 ≤ n2 ∧ n2 ≤ 1000
  case neg => rw [if_neg b2] at G; exact G.elim
  rw [if_pos b2] at G
  obtain ⟨l4, l5, l6⟩ := rep_bounds b2 (v := v2)
  refine ⟨P2, n2, [v2], rfl, rfl, k2', l4, l5, l6, fun P3 hP3 => ?_⟩
  have nS3 : S4 P3 = none := R4.sub.free hP3
  have nE3 := R4.new_HE hP3
  have nA3 := R4.new_ah hP3
  have n13 : P1 ≠ P3 := ne_of_none k1' hP3
  have J3 := R4.junk (.lst (repL n2 v2)) hP3
  refine ⟨.ref P1, .ref P3, rfl, ?_⟩
  have A1 := J3.adopt i (kx := none) (vs := repL n1 v1) (xs := repL n1 d1) (by rw [upd_ne n13]; exact k1') t1'' nE1 nA1 (fun m ys hm hσ => by
    obtain ⟨so, c1, q, us, c2, _, _, _, c5, _⟩ := R2.slots m _ hm
    rw [hσ] at c1; cases c1
    cases c2
    rw [hP1] at c5; cases c5) (((Dns.repL hd1 n1).mono sm2).mono sm3 |>.mono sm4)
  have A2 := A1.adopt j (kx := none) (vs := repL n2 v2) (xs := repL n2 d2) upd_same nS3 nE3 nA3 (fun m ys hm hσ => by
    exfalso
    rcases get_set hm with ⟨rfl, _⟩ | ⟨ne, hm⟩
    · rcases get_set hσ with ⟨_, z⟩ | ⟨n, _⟩
      · cases z; exact n13 rfl
      · exact n rfl
    · rw [set_get ne] at hσ
      obtain ⟨so, c1, q, us, c2, _, _, _, c5, _⟩ := R4.slots m _ hm
      rw [hσ] at c1; cases c1
      cases c2
      rw [hP3] at c5; cases c5) ((Dns.repL hd2 n2).mono sm4)
  exact G _ _ S4 (Same.refl _) A2
end
end FD
set_option Elab.async false
set_option linter.all false
set_option maxRecDepth 100000
set_option maxHeartbeats 2000000
namespace FD
open PySem L2 PyProof.Rows
/-! # x = [e for .. if ..], a list that x alone holds; an own list shown to an expression that tells a plain thing -/
section
variable {X : Cx} {ah : Option Addr} {E : XK} {c : DC}
@[simp] def sOwnLc (i : Nat) (fi : FI) (vs : List Nat) (gs : FG) (ft : FT) (fe : FE) : FS := fun ρ g => (fi ρ g).bd fun ds g1 => (compD gs ft fe ds (blkE ρ vs) g1).bd fun ys g2 => if ys.length ≤ 1000 then some (.ok (.nx (ρ.set i (.own ys))) g2) else none
theorem rs_ownLc {wi : TI} {fi : FI} {tg : TG} {gs : FG} {tt : TT} {ft : FT} {te : TE} {fe : FE} {vs : List Nat} (i0 : Nat) (hi : @RG It (List D) rI c (fun _ => E) wi fi) (hg : RTg c tg gs) (hw : TGw tg vs) (hm : TGm tg) (ht : RT c (fun _ => E0) tt ft) (he : RE c (fun _ => E0) te fe) :
    RS c E (tAsg (tLc wi tg tt te vs) (gName i0)) (sOwnLc i0 fi vs gs ft fe) := by
  refine RS.bind (rel := rI) (r := fun Z σ J H1 => ∀ D, H1 D = none → ∃ W : Nat → Nat → Hp → Prop, (∃ m, W 0 m (upd H1 D (.lst []))) ∧ ∀ i m H, W i m H →
    (J.stop i H ∧ gName i0 (.ref D) σ H Z.nx) ∨ (J.go i H ∧ ∃ Nx : Hp → Prop, (∀ H', Nx H' → ∃ m', m' < m ∧ W (i + 1) m' H') ∧ ∀ x H', J.yld i H x H' → tg x (wipe σ vs) H' fun σ2 H2 => wipe σ2 vs = wipe σ vs ∧ tt σ2 H2 fun b H3 =>
      if b = true then te σ2 H3 fun y H4 => ∃ acc, H4 D = some (.lst acc) ∧ acc.length < sizeLine ∧ Nx (upd H4 D (.lst (acc ++ [y]))) else Nx H3))
    (k := fun ρ ds g1 => (compD gs ft fe ds (blkE ρ vs) g1).bd fun ys g2 => if ys.length ≤ 1000 then some (.ok (.nx (ρ.set i0 (.own ys))) g2) else none) hi fun F ρ g σ H S Z J ds e R hJ G => ?_
  intro p hp
  cases hc : compD gs ft fe ds (blkE ρ vs) g with
  | none => rw [hc] at G; exact G.elim
  | some o =>
  obtain ⟨ys, gE, rfl⟩ := compD_ok hc
  rw [hc] at G
  simp only [M.bd] at G
  by_cases hl : ys.length ≤ 1000
  case neg => rw [if_neg hl] at G; exact G.elim
  rw [if_pos hl] at G
  have pah : F.c.ah ≠ some p := R.new_ah hp
  have R0 := R.sub_frame
  let Pv : Nat → Hp → Prop := fun i H' => ∃ g' S' us zs rest, Same S S' ∧ Rep ⟨F.c, H, S⟩ [] g' [] H' S' ∧ H' p = some (.lst us) ∧ S' p = none ∧ Dns F.c S' us zs ∧ compD gs ft fe (ds.drop i) (blkE ρ vs) g' = some (.ok rest gE) ∧ zs ++ rest = ys
  refine ⟨fun i m H' => m = ds.length - i ∧ i ≤ ds.length ∧ Pv i H', ⟨ds.length, by simp, Nat.zero_le _, g, S, [], [], ys, Same.refl S, R0.write1 (R.sub.free hp) hp pah, upd_same, R.sub.free hp, .nil, hc, rfl⟩, ?_⟩
  rintro i m H' ⟨rfl, hi', g', S', us, zs, rest, sm, R', hD, hS, hz, hcr, hy⟩
  by_cases hlt : i < ds.length
  · refine .inr ?_
    rw [drop_of hlt] at hcr
    obtain ⟨ρ1, b, g1, e1, e2, alt⟩ := compD_cons hcr
    have RI := Rep.inner (F' := ⟨F.c, H, S⟩) R vs sm rfl R'
    obtain ⟨go, yl⟩ := hJ.go ⟨F.c, H', S'⟩ _ g' (wipe σ vs) H' S' i ds[i] e sm RI (List.getElem?_eq_getElem hlt)
    refine ⟨go, Pv (i + 1), fun H2 p' => ⟨ds.length - (i + 1), by omega, rfl, hlt, p'⟩, fun x H1 y => ?_⟩
    obtain ⟨S1, sm1, R1, hx⟩ := yl x H1 y
    have hgw := hw x (wipe σ vs) H1 (fun σ2 H2 => tt σ2 H2 fun b H3 =>
      if b = true then te σ2 H3 fun y H4 => ∃ acc, H4 p = some (.lst acc) ∧ acc.length < sizeLine ∧ Pv (i + 1) (upd H4 p (.lst (acc ++ [y]))) else Pv (i + 1) H3)
    have ww : wipe (wipe σ vs) vs = wipe σ vs := by
      apply List.ext_getElem?
      intro j
      rw [wipe_get, wipe_get, wipe_length]
      split <;> rfl
    refine hm.mono _ _ _ _ _ (fun σ2 H2 q => ⟨q.2.trans ww, q.1⟩) (hgw ?_)
    refine hg.run ⟨F.c, H', S'⟩ _ g' (wipe σ vs) H1 S1 x _ _ e R1 hx ?_
    rw [e1]
    intro σ2 R2
    refine ht.run ⟨F.c, H', S'⟩ _ g' σ2 H1 S1 _ e R2 ?_
    rw [e2]
    intro b' H3 S3 sm3 R3 hb
    have hb : b' = b := hb
    subst hb
    have keep : ∀ {ρx gx σx Hx Sx}, Rep ⟨F.c, H', S'⟩ ρx gx σx Hx Sx → Hx p = some (.lst us) ∧ Sx p = none := fun {ρx gx σx Hx Sx} Rx => ⟨Rx.keep p _ hD pah, Rx.stay p (by show H' p ≠ none; rw [hD]; simp) hS⟩
    rcases alt with ⟨rfl, y, g2, zs', e3, e4, rfl⟩ | ⟨rfl, e4⟩
    · rw [if_pos rfl]
      refine he.run ⟨F.c, H', S'⟩ _ g1 σ2 H3 S3 _ e R3 ?_
      rw [e3]
      intro y' H4 S4 sm4 R4 hy4
      obtain ⟨k1, k2⟩ := keep R4
      have sm' : Same S' S4 := sm1.trans (sm3.trans sm4)
      refine ⟨us, k1, ?_, g2, S4, us ++ [y'], zs ++ [y], zs', sm.trans sm', (Rep.behind R' sm' R4.bare).write1 k2 hp pah, upd_same, k2, (hz.mono sm').append (.cons hy4 .nil), e4, by rw [← hy]; simp⟩
      have : us.length ≤ ys.length := by rw [hz.length, ← hy]; simp
      exact small1000 (Nat.le_trans this hl)
    · rw [if_neg (by simp)]
      obtain ⟨k1, k2⟩ := keep R3
      have sm' : Same S' S3 := sm1.trans sm3
      exact ⟨g1, S3, us, zs, rest, sm.trans sm', Rep.behind R' sm' R3.bare, k1, k2, hz.mono sm', e4, hy⟩
  · have e1 : i = ds.length := by omega
    subst e1
    rw [List.drop_length] at hcr
    simp only [compD] at hcr
    cases hcr
    rw [List.append_nil] at hy
    subst hy
    refine .inl ⟨hJ.stop ⟨F.c, H, S⟩ _ _ [] H' S' e sm R', ?_⟩
    have RB : Rep F ρ gE σ H' S' := R.back sm R'
    exact G _ H' S' sm (RB.adopt i0 (kx := none) (vs := us) (xs := zs) hD hS (R.new_HE hp) pah (fun m ys hm' hσ => by
      obtain ⟨so, c1, q, us', c2, _, _, _, c5, _⟩ := R.slots m _ hm'
      rw [hσ] at c1; cases c1
      cases c2
      rw [hp] at c5; cases c5) hz)
theorem pfs_ownLc (i : Nat) {y : Str} {py : Pos} {elt tg iter : Expr} {ifs : List Expr} {scope : Scope} (own : List (Str × Nat)) {pos spos : Pos} {fi : FI} {gs : FG} {ft : FT} {fe : FE} (hN : X.N.Nodup) (hi : PFI X ah (fun _ => E) tg iter fi)
    (hg : ∀ i : BI, PFG (bx X scope i) ah tg gs (own.map (·.2))) (ht : ∀ i : BI, PFTs (bx X scope i) ah ifs ft) (he : ∀ i : BI, PF (bx X scope i) ah (fun _ => E0) elt fe)
    (ok : BlkOk X.N X.env.scope scope own) (hsw : swapsWith (.ListComp elt [⟨tg, iter, ifs, 0⟩] scope pos) (some (.Name y py)) spos.line X.env = pure true)
    (hy : X.N[i]? = some y := by rfl) (hyl : X.env.scope.names.lookup y = some .local := by rfl) (hc : X.calm = true := by rfl) (hs : ∀ x, foldedSetIterable iter X.env x = pure x := by intro _; rfl) :
    PFS X ah E (.Assign [.Name y py] (.ListComp elt [⟨tg, iter, ifs, 0⟩] scope pos) spos) (sOwnLc i fi (own.map (·.2)) gs ft fe) := by
  obtain ⟨t, p, r⟩ := hi
  obtain ⟨tg', pg, rg, wg, mg⟩ := all_PG (Y := bx X scope) (c := dc X ah) (fun _ => rfl) hg
  obtain ⟨tt, pt, rt⟩ := all_PTs (Y := bx X scope) (c := dc X ah) (fun _ => rfl) ht
  obtain ⟨te, pe, re⟩ := all_PE (Y := bx X scope) (c := dc X ah) (fun _ => rfl) he
  exact ⟨_, ps_setLc hc hN hy hyl hsw p ok (fun s H C cl fp => pg (s, H, C, cl, fp)) (fun s H C cl fp => pt (s, H, C, cl, fp)) (fun s H C cl fp => pe (s, H, C, cl, fp)) hs, rs_ownLc i r rg wg mg rt re⟩
end
section
variable {X : Cx} {ah : Option Addr} {Es : L2.St → XK} {c : DC}
/-- e, reading the own list i, tells a plain thing -/
@[simp] def cShw (i : Nat) (a : FE) : FE := fun ρ g => match ρ[i]? with
  | some (.hold none xs) => if noHs xs = true then match a (shwE ρ i xs) g with
      | some (.ok d _) => if flatD d = true then some (.ok d g) else none
      | _ => none
    else none
  | _ => none
theorem pf_shw (i : Nat) {e : Expr} {a : FE} (ha : PF X none (fun _ => E0) e a) : PF X ah Es e (cShw i a) := by
  obtain ⟨t, q, r⟩ := ha
  refine ⟨_, q, ⟨fun F ρ g σ H S Q e R G => ?_⟩⟩
  simp only [cShw] at G
  split at G
  case h_2 => exact G.elim
  rename_i xs hi
  by_cases hn : noHs xs = true
  case neg => rw [if_neg hn] at G; exact G.elim
  rw [if_pos hn] at G
  obtain ⟨so, h1, p, vs, rfl, h2, h3, h4, h5, h6⟩ := R.slots i _ hi
  have Rs := R.shown h1 h2 h5 h6 hn
  have ec : noA F.c = dc X none := by rw [e]
  refine r.run ⟨noA F.c, H, upd S p (.lst vs)⟩ (shwE ρ i xs) g σ H (upd S p (.lst vs)) _ ec Rs ?_
  split at G
  case h_2 => exact G.elim
  rename_i d g1 ha
  rw [ha]
  by_cases hf : flatD d = true
  case neg => rw [if_neg hf] at G; exact G.elim
  rw [if_pos hf] at G
  intro y H1 S1 sm R1 hy
  obtain ⟨sm0, RU⟩ := R.unshown h2 h3 h4 h5 sm R1.bare
  have ey : y = toV d := by
    have := (Dns.flat (Dns.cons hy Dns.nil) (by simpa using hf)).1
    simpa using this
  subst ey
  exact G _ _ _ sm0 RU (Dn.of_flat hf)
/-- a test that reads the own list i -/
@[simp] def cShwT (i : Nat) (a : FT) : FT := fun ρ g => match ρ[i]? with
  | some (.hold none xs) => if noHs xs = true then match a (shwE ρ i xs) g with
      | some (.ok b _) => some (.ok b g)
      | _ => none
    else none
  | _ => none
theorem pft_shw (i : Nat) {e : Expr} {a : FT} (ha : PFT X none (fun _ => E0) e a) : PFT X ah Es e (cShwT i a) := by
  obtain ⟨t, q, r⟩ := ha
  refine ⟨_, q, ⟨fun F ρ g σ H S Q e R G => ?_⟩⟩
  simp only [cShwT] at G
  split at G
  case h_2 => exact G.elim
  rename_i xs hi
  by_cases hn : noHs xs = true
  case neg => rw [if_neg hn] at G; exact G.elim
  rw [if_pos hn] at G
  obtain ⟨so, h1, p, vs, rfl, h2, h3, h4, h5, h6⟩ := R.slots i _ hi
  have Rs := R.shown h1 h2 h5 h6 hn
  have ec : noA F.c = dc X none := by rw [e]
  refine r.run ⟨noA F.c, H, upd S p (.lst vs)⟩ (shwE ρ i xs) g σ H (upd S p (.lst vs)) _ ec Rs ?_
  split at G
  case h_2 => exact G.elim
  rename_i b g1 ha
  rw [ha]
  intro y H1 S1 sm R1 hy
  obtain ⟨sm0, RU⟩ := R.unshown h2 h3 h4 h5 sm R1.bare
  exact G _ _ _ sm0 RU hy
end
end FD
set_option Elab.async false
set_option linter.all false
set_option maxRecDepth 100000
set_option maxHeartbeats 2000000
namespace FD
open PySem L2 PySem.Spec PyProof.Rows
/-! # tuple(range(n)) -/
section
variable {c : DC}
abbrev rTupR : List V → Hp → VK → Prop := fun vs H Q => ∃ p i j, vs = [V.ref p] ∧ H p = some (.rng i j) ∧ RgOk i j ∧ ∀ q, H q = none → Q (.ref q) (upd H q (.tup (rgV i j)))
theorem cr_tupR {X : Cx} (hc : X.calm = true) : CallR X (.type "tuple") rTupR := by
  intro pins s σ H vs us Q I r h
  obtain ⟨p, i, j, rfl, hp, ok, q⟩ := h
  obtain ⟨u, rfl, rx⟩ := vals1 r
  obtain rfl : u = Value.ref p := rx
  obtain ⟨t, v, w, ga⟩ := (show ObjOk X.prog X.w H s.heap p (.rng i j) from I.hok p _ hp)
  obtain ⟨b1, b2, b3, b4, b5⟩ := ok
  refine call_tuple_range (n := (j - i).toNat) (I.ok.hd hc) ga (small_one b1 b2 b3 b4) (rangeSize_nat i j) b5 fun h' tk acc hk hi => ?_
  have I1 : Inv X pins σ H { s with heap := h' } := I.kept (t' := s.toks) hk
  have e : acc.toList.toArray = acc := by simp
  refine ⟨.ref h'.objs.size, upd H h'.objs.size (.tup (rgV i j)), I1.laid (fun b o e => Heap.get?_push_of_some _ e) (Nat.le_refl _) (show ObjOk X.prog X.w _ _ _ (.tup (rgV i j)) from ⟨?_, acc.toList, vals_rg hi, ?_⟩), rfl, q _ (I1.hok.fresh (Nat.le_refl _))⟩
  · rw [rgV_length, sizeLine_eq]; omega
  · rw [← e]
    simpa using IsTup.new _ _
noncomputable def tupRD : List D → Option D
  | [.rng i j] => if ck (RgOk i j) = true then some (.tup (rngD i (j - i).toNat)) else none
  | _ => none
theorem cs_tupR : CallS c rTupR tupRD := by
  intro E F ρ g σ H S Q vs ds e R hx G
  subst e
  unfold tupRD at G
  split at G
  · obtain ⟨v, rfl, hv⟩ := hx.one
    rename_i i j
    by_cases hb : ck (RgOk i j) = true
    · rw [if_pos hb] at G
      cases hv with
      | rng h =>
        refine ⟨_, i, j, rfl, R.sub _ _ h, of_ck hb, fun l hl => G.new R hl (.tup (SqT.of upd_same) ?_)⟩
        have := dns_rg (c := F.c) (S := upd S l (.tup (rgV i j))) i (j - i).toNat 0
        rw [← List.range_eq_range'] at this
        exact this
    · rw [if_neg hb] at G; exact G.elim
  · exact G.elim
end
end FD
set_option Elab.async false
set_option linter.all false
set_option maxRecDepth 100000
set_option maxHeartbeats 4000000
namespace FD
open PySem L2 PyProof.Rows
/-! # try: .. except X: return a flag; try: .. except B as e: a word by its class -/

theorem Rep.setUn {F : Fx} {ρ : List En} {g : Gh} {σ : L2.St} {H S : Hp} (R : Rep F ρ g σ H S) (i : Nat) (so : Option V) : Rep F (ρ.set i .un) g (σ.set i so) H S := by
  refine R.forget (fun k en hk => ?_) fun k l p xs ys q1 q2 q3 q4 => ?_
  · rcases get_set hk with ⟨rfl, rfl⟩ | ⟨ne, hk⟩
    · have hl : i < ρ.length := by
        have := (List.getElem?_eq_some_iff.mp hk).1
        simpa using this
      obtain ⟨so', h1, _⟩ := R.slots i (ρ[i]) (List.getElem?_eq_getElem hl)
      exact ⟨so, set_at h1, trivial⟩
    · obtain ⟨so', h1, h2⟩ := R.slots k en hk
      exact ⟨so', by rw [set_get ne]; exact h1, h2⟩
  · rcases get_set q1 with ⟨_, z⟩ | ⟨n1, q1⟩
    · cases z
    · rcases get_set q2 with ⟨_, z⟩ | ⟨n2, q2⟩
      · cases z
      · exact R.apart k l p xs ys q1 q2 (by rw [set_get n1] at q3; exact q3) (by rw [set_get n2] at q4; exact q4)
theorem call_isG {X : Cx} {a D : Addr} {oe : Obj} {d : Option Addr} {pn : List (Addr × Obj)} (C : ExcC X.K D) (hz : Zc (.ref D) d oe) (hf : ∃ vs, oe.data = .fields vs) :
    CallR (X.suite a ((a, oe) :: pn)) (.builtin "isinstance") (fun xs H Q => (∀ dx, d = some dx → ∃ fs, H dx = some (.xd fs)) ∧ rIsE X.K D a xs H Q) := by
  intro pins s σ H xs us Q I r h
  obtain ⟨hdd, c, cv, b, rfl, hcv, e, q⟩ := h
  cases r with
  | cons rx rr =>
    cases rr with
    | cons rt rr =>
      cases rr
      cases rx
      have ec := hcv _ rt
      subst ec
      obtain ⟨hget, _⟩ := I.pin (a, oe) (List.mem_append.mpr (.inl List.mem_cons_self))
      obtain ⟨vs, hv⟩ := hf
      have J : ∃ od, PySem.W.InstAt s.heap a oe D od := by
        cases d with
        | none => exact ⟨none, hget, hz.1, by unfold PySem.W.notCls; rw [hv] <;> rfl, by rw [hz.2]; trivial⟩
        | some dx =>
          obtain ⟨fs, hx⟩ := hdd dx rfl
          have hx : ObjOk X.prog X.w H s.heap dx (.xd fs) := I.hok dx _ hx
          obtain ⟨mA, hns, hr⟩ := hx
          obtain ⟨od, ho, hl⟩ := lookIn_ns hns
          exact ⟨some od, hget, hz.1, by unfold PySem.W.notCls; rw [hv] <;> rfl, by rw [hz.2]; exact ho⟩
      obtain ⟨od, J⟩ := J
      have hcl : (PySem.W.clsIn X.K D).isSome = true := by obtain ⟨cd, hc, _⟩ := PySem.W.any_some C.hd; rw [hc]; rfl
      exact PySem.W.kia_one (PySem.W.kitx_exc hcl C.hg C.hk C.hs C.ha C.hn C.ht C.hm) I.kIn J e (fun z => nomatch z) fun tk => ⟨.bl b, H, I.kept (t' := tk) fun _ _ z => z, rfl, q⟩
section
variable {X : Cx} {ah : Option Addr}
@[simp] def sTryC (fb : FS) (x : Str) (d : Bool) : FS := fun ρ g => match fb ρ g with
  | some (.ex c _ _ g1) => if c = x then some (.ok (.rt (.bl d)) g1) else none
  | m => m
theorem pfs_tryC {E : XK} {x f : Str} {d : Bool} {body : List Stmt} {fb : FS} {jx : _} {n1 p1 r1 q1 pos : Pos} (Gx : ExcOk X.prog X.w X.K X.mg X.base x f)
    (hbody : ∀ (W : WX) (pn : List (Addr × Obj)) (xe : Value → Shared → Prop), Takes (X.tr pn xe) W → PassesOwn (model X.prog X.w) X.A X.env xe → PFws (X.tr pn xe) ah (WE W) body fb)
    (hs : X.stack = X.env :: X.outer := by rfl) (hf : X.env.frame = some X.env.locals := by rfl) (hgx : Gl X x := by rfl) (hdx : (x == ("__debug__" : Str)) = false := by decide) :
    PFS X ah E (.Try body [.ExceptHandler (some (.Name x n1)) none [.Return (some (.Constant (.bool d) jx p1)) r1] q1] [] [] pos) (sTryC fb x d) := by
  obtain ⟨A, fA, fdA, psA, hmA, TA, xfA, hnoA, iA, tA, FA, bA, teA⟩ := Gx
  have ch := fun W => choose_ws (X := X) (ah := ah) (W := W) (hbody W)
  refine ⟨_, ps_try_many (tb := fun W => (ch W).choose) (Wout := fun _ _ _ _ => False) (l := [(.ref A, fun a cls _ => tRet (tC (.bl d)))]) hs hf takes0 (fun W pn xe tk hp => (ch W).choose_spec.1 pn xe tk hp)
    (.cons ⟨hgx, hdx, .inl hmA⟩ (fun a oe cls d pn hz hof => pss_one (ps_ret pe_bl)) .nil), ⟨fun F ρ g σ H S Z e R G => ?_⟩⟩
  refine (ch _).choose_spec.2.run F ρ g σ H S Z e R ?_
  simp only [sTryC] at G
  cases h : fb ρ g with
  | none => rw [h] at G; exact G
  | some o => cases o with
    | ok fl g1 => rw [h] at G; cases fl <;> exact G
    | ex cc ks ds g1 =>
      rw [h] at G
      dsimp only at G
      intro C dd H' S' hC sm R' hx
      rw [e] at hC
      by_cases h1 : cc = x
      · rw [if_pos h1] at G
        subst h1
        have hC' : C = A := by
          have : some (Value.ref C) = some (Value.ref A) := hC.symm.trans hmA
          injection this with this
          injection this
        subst hC'
        refine ⟨true, teA, fun _ a na => ?_, fun z => by cases z⟩
        exact G (.bl d) H' S' sm R' (.bl d)
      · rw [if_neg h1] at G; exact G.elim
/-- the class C is one of B, and a value error -/
def ExcSub (K : PySem.W.Frag) (mg : Str → Option Value) (C B : Str) : Prop :=
  ∃ C0 B0, mg C = some (.ref C0) ∧ mg B = some (.ref B0) ∧ PySem.W.exmOne K (.ref C0) (.ref B0) = some true ∧ ExcC K C0 ∧ PySem.W.kitOne K (.ref C0) (.ref C0) = some true ∧ PySem.W.kitOne K (.ref C0) (.type "ValueError") = some true
def excSubB (K : PySem.W.Frag) (C B : Str) : Bool :=
  He.eqO (PySem.W.nsIn K mainGlobals C) (some (some (.ref (He.ga K C)))) && (He.eqO (PySem.W.nsIn K mainGlobals B) (some (some (.ref (He.ga K B)))) && (decide (PySem.W.exmOne K (.ref (He.ga K C)) (.ref (He.ga K B)) = some true) &&
    (He.eqO (PySem.W.findIn K (.ref (He.ga K C)) "__getattribute__") (some (some (.builtin "BaseException.__getattribute__"))) && (He.eqO (PySem.W.findIn K (.ref (He.ga K C)) "__getattr__") (some none) && (decide (PySem.W.subIn K (.ref (He.ga K C)) (.type "BaseException") = some true) && (decide (PySem.W.hasDictIn K (He.ga K C) = true) &&
    (He.eqO (PySem.W.findIn K (.ref (He.ga K C)) "__class__") (some (some (.builtin "object.__class__"))) && (He.eqO (PySem.W.specialIn K (.builtin "object.__class__") "__get__") (some (some (.builtin "getset_descriptor.__get__"))) && (decide (PySem.W.takesIn K (.builtin "object.__class__") = some true) && (decide (PySem.W.mroIn K (He.ga K C) (.type "object") = some true) &&
    (decide (PySem.W.kitOne K (.ref (He.ga K C)) (.ref (He.ga K C)) = some true) && decide (PySem.W.kitOne K (.ref (He.ga K C)) (.type "ValueError") = some true))))))))))))
theorem excSubB_ok {K : PySem.W.Frag} {h : Heap} {mg : Str → Option Value} {C B : Str} (X : K.In h) (G : h.Ns mainGlobals mg) (c : excSubB K C B = true) : ExcSub K mg C B := by
  obtain ⟨c1, c⟩ := He.ba c
  obtain ⟨c2, c⟩ := He.ba c
  obtain ⟨c3, c⟩ := He.ba c
  obtain ⟨c4, c⟩ := He.ba c
  obtain ⟨c5, c⟩ := He.ba c
  obtain ⟨c6, c⟩ := He.ba c
  obtain ⟨c7, c⟩ := He.ba c
  obtain ⟨c8, c⟩ := He.ba c
  obtain ⟨c9, c⟩ := He.ba c
  obtain ⟨c10, c⟩ := He.ba c
  obtain ⟨c11, c⟩ := He.ba c
  obtain ⟨c12, c13⟩ := He.ba c
  exact ⟨_, _, He.glo_ok X G (x := C) c1, He.glo_ok X G (x := B) c2, of_decide_eq_true c3, ⟨He.eqO_ok c4, He.eqO_ok c5, of_decide_eq_true c6, of_decide_eq_true c7, He.eqO_ok c8, He.eqO_ok c9, of_decide_eq_true c10, of_decide_eq_true c11⟩, of_decide_eq_true c12, of_decide_eq_true c13⟩
@[simp] def sTryIs (fb : FS) (C : Str) (i j : Nat) (w : Str) : FS := fun ρ g => match fb ρ g with
  | some (.ex c _ _ g1) => if c = C ∧ i < ρ.length ∧ j < ρ.length then some (.ok (.nx (((hidE ρ).set j (.dt (.str w))).set i .un)) g1) else none
  | m => m
theorem pfs_tryIs {E : XK} (i j : Nat) {C B n y w : Str} {body : List Stmt} {fb : FS} {j0 : _} {np pi pn1 pc pq pi2 pn2 pv pq2 pb py p0 pas pif pos' pos : Pos} (hN : X.N.Nodup) (G0 : ExcSub X.K X.mg C B)
    (hbody : ∀ (W : WX) (pn : List (Addr × Obj)) (xe : Value → Shared → Prop), Takes (X.tr pn xe) W → PassesOwn (model X.prog X.w) X.A X.env xe → PFws (X.tr pn xe) ah (WE W) body fb)
    (hm : X.mg "isinstance" = none) (hmV : X.mg "ValueError" = none) (hij : i ≠ j := by decide)
    (hs : X.stack = X.env :: X.outer := by rfl) (hf : X.env.frame = some X.env.locals := by rfl) (hi : X.N[i]? = some n := by rfl) (hj : X.N[j]? = some y := by rfl) (hln : X.env.kindOf n = some .local := by rfl) (hgB : Gl X B := by rfl) (hgC : Gl X C := by rfl) (hgI : Gl X "isinstance" := by rfl) (hgV : Gl X "ValueError" := by rfl)
    (hdB : (B == ("__debug__" : Str)) = false := by decide) (hdC : (C == ("__debug__" : Str)) = false := by decide)
    (hd : (n == ("__debug__" : Str)) = false := by decide) (hcd : (n == ("__classdict__" : Str)) = false := by decide) (hv : Vis X.env.scope n := by first | exact Or.inl rfl | exact Or.inr (Or.inl rfl) | exact Or.inr (Or.inr rfl))
    (hx : Loc X.env.scope y := by first | exact Or.inl rfl | exact Or.inr rfl) (hfy : X.fn y = true ∨ X.env.scope.names.lookup y = some .local := by first | exact .inl rfl | exact .inr rfl) :
    PFS X ah E (.Try body [.ExceptHandler (some (.Name B np)) (some n) [.If (.BoolOp .And [.Call (.Name "isinstance" pi) [.Name n pn1, .Name C pc] [] pq, .Call (.Name "isinstance" pi2) [.Name n pn2, .Name "ValueError" pv] [] pq2] pb) [.Assign [.Name y py] (.Constant (.str w) j0 p0) pas] [] pif] pos'] [] [] pos) (sTryIs fb C i j w) := by
  obtain ⟨C0, B0, hmC, hmB, hex, EC, k1, k2⟩ := G0
  have ch := fun W => choose_ws (X := X) (ah := ah) (W := W) (hbody W)
  refine ⟨_, ps_try_as (i := i) (c := .ref B0) (tb := fun W => (ch W).choose)
      (ts := fun a cls d => if cls = .ref C0 then tIfS (fun σ H Q => σ[i]? = some (some (.ref a)) ∧ (∀ dx, d = some dx → ∃ fs, H dx = some (.xd fs)) ∧ Q true H) (tAsg (tC (.str w)) (gName j)) (fun _ _ _ => False) else fun _ _ _ => False) (Wout := fun _ _ _ _ => False) hs hf hN hi hln ⟨hgB, hdB, .inl hmB⟩ takes0 (fun W pn xe tk hp => (ch W).choose_spec.1 pn xe tk hp)
    (fun a oe cls d pn hz hof => ?_), ⟨fun F ρ g σ H S Z e R G => ?_⟩⟩
  · by_cases hc : cls = .ref C0
    · rw [if_pos hc]
      subst hc
      have c1 : PE (X.suite a ((a, oe) :: pn)) (.Call (.Name "isinstance" pi) [.Name n pn1, .Name C pc] [] pq) _ :=
        pe_callB (call_isG EC hz hof) hgI hm (by decide +kernel) (pa_cons (pe_var (i := i) hi hv hd hcd) (pa_cons (pe_glob (v := .ref C0) hgC hmC rfl hdC) pa_nil))
      have c2 : PE (X.suite a ((a, oe) :: pn)) (.Call (.Name "isinstance" pi2) [.Name n pn2, .Name "ValueError" pv] [] pq2) _ :=
        pe_callB (call_isG EC hz hof) hgI hm (by decide +kernel) (pa_cons (pe_var (i := i) hi hv hd hcd) (pa_cons (pe_bltn (v := .ty "ValueError") hgV hmV (by decide +kernel) rfl (by decide +kernel) (by decide +kernel)) pa_nil))
      have t1 := pw_and (pt_val c1 (by intro _; rfl)) (pw_and1 (pos := pb) (pt_val c2 (by intro _; rfl)))
      refine pss_one ⟨fun pins s σ H D I h => ?_⟩
      refine (ps_if (pos := pif) t1.pt (pss_one (ps_set (i := j) (pos := pas) hN hj hx (pe_str (x := w) (j := j0) (pos := p0)) rfl hfy)) pss_nil).run pins s σ H D I ?_
      obtain ⟨hσ, hdd, h⟩ := h
      show tIfS _ _ _ _ _ _
      have key : ∀ (c : V) (cv : Value) (Q : Bool → Hp → Prop), (∀ u, RelV c u → u = cv) → PySem.W.kitOne X.K (.ref C0) cv = some true → Q true H →
          ∃ v, σ[i]? = some (some v) ∧ ((∀ dx, d = some dx → ∃ fs, H dx = some (.xd fs)) ∧ rIsE X.K C0 a [v, c] H fun x H1 => ∃ k, x = .bl k ∧ Q k H1) :=
        fun c cv Q hc k q => ⟨.ref a, hσ, hdd, c, cv, true, rfl, hc, k, true, rfl, q⟩
      exact key (.ref C0) (.ref C0) _ (fun u r => by cases r; rfl) k1 (key (.ty "ValueError") (.type "ValueError") _ (fun u r => by cases r; rfl) k2 h)
    · rw [if_neg hc]
      exact pss_one ⟨fun pins s σ H D I h => h.elim⟩
  · refine (ch _).choose_spec.2.run F ρ g σ H S Z e R ?_
    simp only [sTryIs] at G
    cases h : fb ρ g with
    | none => rw [h] at G; exact G
    | some o => cases o with
      | ok fl g1 => rw [h] at G; cases fl <;> exact G
      | ex cc ks ds g1 =>
        rw [h] at G
        dsimp only at G
        intro A dd H' S' hA sm R' hx
        by_cases h1 : cc = C ∧ i < ρ.length ∧ j < ρ.length
        case neg => rw [if_neg h1] at G; exact G.elim
        rw [if_pos h1] at G
        obtain ⟨rfl, hil, hjl⟩ := h1
        have hA' : A = C0 := by
          rw [e] at hA
          have : some (Value.ref A) = some (Value.ref C0) := hA.symm.trans hmC
          injection this with this
          injection this
        subst hA'
        have R1 : Rep F (hidE ρ) g1 σ H' S' := by
          refine R'.forget (fun k en hk => ?_) fun k l p xs ys q1 q2 q3 q4 => ?_
          · unfold hidE at hk
            rw [List.getElem?_map] at hk
            obtain ⟨e0, he0, rfl⟩ := Option.map_eq_some_iff.mp hk
            obtain ⟨so, s1, s2⟩ := R.slots k e0 he0
            refine ⟨so, s1, ?_⟩
            cases e0 with
            | dt dv => obtain ⟨v, rfl, hv⟩ := s2; exact ⟨v, rfl, hv.mono sm⟩
            | un => exact s2
            | hold a b => trivial
          · unfold hidE at q1
            rw [List.getElem?_map] at q1
            obtain ⟨e0, he0, z⟩ := Option.map_eq_some_iff.mp q1
            cases e0 <;> cases z
        have hiσ : i < σ.length := by
          obtain ⟨so, s1, _⟩ := R.slots i _ (List.getElem?_eq_getElem hil)
          exact (List.getElem?_eq_some_iff.mp s1).1
        refine ⟨true, hex, fun _ a na => ?_, fun z => by cases z⟩
        dsimp only
        rw [if_pos rfl]
        refine ⟨by rw [List.getElem?_set_self hiσ], fun dx hdx => ?_, ?_⟩
        · subst hdx
          obtain ⟨fs, h1, _, _⟩ := hx
          exact ⟨fs, R'.sub _ _ h1⟩
        · refine G _ H' S' sm ?_
          have R2 := ((R1.setUn i (some (.ref a))).set j (.str w)).setUn i none
          have e1 : ((((hidE ρ).set i .un).set j (.dt (.str w))).set i .un) = (((hidE ρ).set j (.dt (.str w))).set i .un) := by
            rw [List.set_comm _ _ hij, List.set_set]
          rw [e1] at R2
          exact R2
end
end FD
set_option Elab.async false
set_option linter.all false
set_option maxRecDepth 100000
set_option maxHeartbeats 2000000
namespace FD
open PySem L2 PyProof.Rows
/-! # x[lo:hi] of a list that x alone holds: a list for good -/
@[simp] def cOSl (i : Nat) (l h : FO) : FE := fun ρ g => match ρ[i]? with
  | some (.hold none xs) => (l ρ g).bd fun lo g1 => (h ρ g1).bd fun hi g2 => some (.ok (.lst (cutD xs lo hi)) g2)
  | _ => none
section
variable {X : Cx} {ah : Option Addr} {E : L2.St → XK} {c : DC}
theorem pf_osl (i : Nat) {x : Str} {lo hi : Option Expr} {l h : FO} {p1 p2 pos : Pos} (hl : PFO X ah E lo l) (hh : PFO X ah E hi h) (hN : X.N[i]? = some x := by rfl) (hv : Vis X.env.scope x := by first | exact Or.inl rfl | exact Or.inr (Or.inl rfl) | exact Or.inr (Or.inr rfl)) (hd : (x == ("__debug__" : Str)) = false := by decide)
    (hcd : (x == ("__classdict__" : Str)) = false := by decide) : PF X ah E (.Subscript (.Name x p1) (.Slice lo hi none p2) pos) (cOSl i l h) := by
  obtain ⟨tl, q, r2⟩ := hl
  obtain ⟨th, q', r3⟩ := hh
  refine ⟨_, pe_slice (SlR.or sl_tupA sl_list) (pe_var hN hv hd hcd) q q', ⟨fun F ρ g σ H S Q e R G => ?_⟩⟩
  simp only [cOSl] at G
  split at G
  case h_2 => exact G.elim
  rename_i xs0 hi0
  obtain ⟨so, h1, p, vs, rfl, h2, h3, h4, h5, h6⟩ := R.slots i _ hi0
  refine ⟨.ref p, h1, ?_⟩
  refine r2.step e R G fun H1 S1 g1 lo' l' sm R1 hlo G => ?_
  cases hlo
  refine r3.step e R1 G fun H2 S2 g2 hi' h' sm2 R2 hhi G => ?_
  cases hhi
  obtain ⟨so, k1, p', ws, k0, k2, k3, k4, k5, k6⟩ := R2.slots i _ hi0
  rw [h1] at k1; cases k1; cases k0
  have k5' : H2 p = some (.lst ws) := k5
  exact .inr ⟨_, _, rfl, SqL.of k5', fun q hq => G.new R2 hq (.lst upd_same ((k6.cut _ _).mono (R2.tosame _ hq)))⟩
end
end FD
set_option Elab.async false
set_option linter.all false
set_option maxRecDepth 100000
set_option maxHeartbeats 2000000
namespace FD
open PySem L2 PyProof.Rows
/-! # x not in a list of data -/
def niE (x y : D) : Option D := match x.py, y.py with
  | some p, some (.list qs) => if SeqAt.shaped p = true ∧ SeqAt.shaped (.list qs) = true then some (.bl (!qs.any fun z => PyData.eqv z p)) else none
  | _, _ => none
section
variable {c : DC}
theorem os_niE : OpS c (rNotInD c.K) niE := by
  intro E F ρ g σ H S Q x y dx dy e R hx hy G
  subst e
  unfold niE at G
  split at G
  · rename_i p qs e1 e2
    split at G
    · rename_i hs
      exact ⟨p, qs, Dp.mono R.sub (hx.py e1), Dp.mono R.sub (hy.py e2), hs.1, hs.2, G.ret R (.bl _)⟩
    · exact G.elim
  · exact G.elim
end
theorem hu65 {k : Nat} {A : Around} (hr : Room k A) : A.units + 65 < cLine := by have := hr.un; omega
end FD
set_option Elab.async false
set_option linter.all false
set_option maxRecDepth 100000
set_option maxHeartbeats 4000000
namespace Kk22
open PySem L2 PyProof.Rows FD
/-! ### the text -/
def top (i : Nat) : Stmt := PySem.Challenge.pw_onepicture_k22_whole_weavings_shrunk.main.body.getD i (.Pass ⟨0, 0, 0, 0⟩)
def k_FIRST_CELL : D := .tup [.int 0, .int 0, .non]
def k_MANNERS : D := .tup [.str "sweep", .str "twice", .str "borrow"]
def k_KINDS : D := .tup [.str "sweep", .str "twice", .str "borrow", .str "levels", .str "names", .str "near", .str "chain"]
def k_MOST_HANDS : D := .int 5
def k_MOST_DEEDS : D := .int 6
def k_MOST_ROUNDS : D := .int 6
def k_NEAR_MOST : D := .int 1000
def k_NUMBER_LIMIT : D := .int 1000
def k_LOT_LIMIT : D := .int 20
structure Txt (P : Program) (w : World) (K : PySem.W.Frag) (mg : Str → Option Value) (base : Heap) : Prop where
  b_ValueError : mg "ValueError" = none
  b_abs : mg "abs" = none
  b_all : mg "all" = none
  b_bool : mg "bool" = none
  b_enumerate : mg "enumerate" = none
  b_int : mg "int" = none
  b_isinstance : mg "isinstance" = none
  b_len : mg "len" = none
  b_list : mg "list" = none
  b_range : mg "range" = none
  b_set : mg "set" = none
  b_sorted : mg "sorted" = none
  b_str : mg "str" = none
  b_tuple : mg "tuple" = none
  b_type : mg "type" = none
  b_zip : mg "zip" = none
  c_FIRST_CELL : ConstOk K mg "FIRST_CELL" k_FIRST_CELL
  c_KINDS : ConstOk K mg "KINDS" k_KINDS
  c_LOT_LIMIT : ConstOk K mg "LOT_LIMIT" k_LOT_LIMIT
  c_MANNERS : ConstOk K mg "MANNERS" k_MANNERS
  c_MOST_DEEDS : ConstOk K mg "MOST_DEEDS" k_MOST_DEEDS
  c_MOST_HANDS : ConstOk K mg "MOST_HANDS" k_MOST_HANDS
  c_MOST_ROUNDS : ConstOk K mg "MOST_ROUNDS" k_MOST_ROUNDS
  c_NEAR_MOST : ConstOk K mg "NEAR_MOST" k_NEAR_MOST
  c_NUMBER_LIMIT : ConstOk K mg "NUMBER_LIMIT" k_NUMBER_LIMIT
  x_BadPlay : ExcOk P w K mg base "BadPlay" "part"
  x_NoWeaving : ExcOk P w K mg base "NoWeaving" "index"
  s_NotWrong_PictureError : ExcSub K mg "NotWrong" "PictureError"
  x_NotWrong : ExcOk0 P w K mg base "NotWrong"
  play : ∀ C, mg "Play" = some (.ref C) → ClsI K C
  play_kind : ∀ C, mg "Play" = some (.ref C) → NoAttr K C "kind"
  play_inputs : ∀ C, mg "Play" = some (.ref C) → NoAttr K C "inputs"
abbrev s_many_hands : Stmt := top 37
theorem sc_many_hands : FnScope ["play"] ["play"] (defScope s_many_hands) := ⟨rfl, rfl, rfl, by decide +kernel, rfl, by decide +kernel, by decide +kernel⟩
noncomputable def b_many_hands : FS := (sSeq (sIf (cT (cOp eqD (c1 (fldD "kind") (cV 0)) (cD (.str "near")))) (sRet (cCall lenD (cC (cOp ixD (c1 (fldD "inputs") (cV 0)) (cD (.int 1))) cN))) sNx) (sRet (cCall lenD (cC (c1 (fldD "inputs") (cV 0)) cN))))
noncomputable def f_many_hands : List D → Gh → M D := fun ds g => noX (fnOf 1 b_many_hands ds g)
theorem d_many_hands {P : Program} {w : World} {K : PySem.W.Frag} {mg : Str → Option Value} {base : Heap} (T : Txt P w K mg base) (A : DefAt K mg "many_hands" s_many_hands ["play"])  : DefOk P w K mg base CX0 "many_hands" 1 1 f_many_hands :=
  A.ok sc_many_hands rfl (by decide) fun f cdv A outer s H E ah hr => by
    exact (pfss_cons (pfs_if (pft_cmp (op_eqD (hu64 hr)) os_eq (pf_fld (fun C h => ⟨(T.play C h).cl, T.play_kind C h⟩) (pf_v 0)) pf_str (nomark _)) (pfss_one (pfs_ret (pf_len T.b_len (pfa_cons (pf_ix ix_D os_ix (pf_fld (fun C h => ⟨(T.play C h).cl, T.play_inputs C h⟩) (pf_v 0)) pf_int (fun _ _ => rfl)) pfa_nil)))) pfss_nil) (pfss_one (pfs_ret (pf_len T.b_len (pfa_cons (pf_fld (fun C h => ⟨(T.play C h).cl, T.play_inputs C h⟩) (pf_v 0)) pfa_nil)))))
abbrev s_state_ahead : Stmt := top 10
theorem sc_state_ahead : FnScope ["script", "done"] ["script", "done"] (defScope s_state_ahead) := ⟨rfl, rfl, rfl, by decide +kernel, rfl, by decide +kernel, by decide +kernel⟩
noncomputable def b_state_ahead : FS := (sSeq (sIf (cT (cOp eqD (cV 1) (cCall lenD (cC (cV 0) cN)))) (sRet (cD .non)) sNx) (sRet (cTup (cC (cV 1) (cC (cD .non) (cC (cD .non) (cC (cTup cN) (cC (cD .non) cN))))))))
noncomputable def f_state_ahead : List D → Gh → M D := fun ds g => noX (fnOf 2 b_state_ahead ds g)
theorem d_state_ahead {P : Program} {w : World} {K : PySem.W.Frag} {mg : Str → Option Value} {base : Heap} (T : Txt P w K mg base) (A : DefAt K mg "state_ahead" s_state_ahead ["script", "done"])  : DefOk P w K mg base CX0 "state_ahead" 1 2 f_state_ahead :=
  A.ok sc_state_ahead rfl (by decide) fun f cdv A outer s H E ah hr => by
    exact (pfss_cons (pfs_if (pft_cmp (op_eqD (hu64 hr)) os_eq (pf_v 1) (pf_len T.b_len (pfa_cons (pf_v 0) pfa_nil)) (nomark _)) (pfss_one (pfs_ret pf_non)) pfss_nil) (pfss_one (pfs_ret (pf_tup (pfa_cons (pf_v 1) (pfa_cons pf_non (pfa_cons pf_non (pfa_cons (pf_tup pfa_nil) (pfa_cons pf_non pfa_nil)))))))))
abbrev s_first_in_manner : Stmt := top 11
theorem sc_first_in_manner : FnScope ["play", "hand"] ["play", "hand"] (defScope s_first_in_manner) := ⟨rfl, rfl, rfl, by decide +kernel, rfl, by decide +kernel, by decide +kernel⟩
noncomputable def b_first_in_manner : FS := (sRet (cTup (cC (cD k_FIRST_CELL) (cC (cFn 2 f_state_ahead (cC (cOp ixD (c1 (fldD "inputs") (cV 0)) (cV 1)) (cC (cD (.int 0)) cN))) cN))))
noncomputable def f_first_in_manner : List D → Gh → M D := fun ds g => noX (fnOf 2 b_first_in_manner ds g)
theorem d_first_in_manner {P : Program} {w : World} {K : PySem.W.Frag} {mg : Str → Option Value} {base : Heap} (T : Txt P w K mg base) (A : DefAt K mg "first_in_manner" s_first_in_manner ["play", "hand"]) (d_state_ahead : DefOk P w K mg base CX0 "state_ahead" 1 2 f_state_ahead) : DefOk P w K mg base CX0 "first_in_manner" 2 2 f_first_in_manner :=
  A.ok sc_first_in_manner rfl (by decide) fun f cdv A outer s H E ah hr => by
    exact (pfss_one (pfs_ret (pf_tup (pfa_cons (pf_const T.c_FIRST_CELL) (pfa_cons (pf_call d_state_ahead (hr.mono (by decide)) (pfa_cons (pf_ix ix_D os_ix (pf_fld (fun C h => ⟨(T.play C h).cl, T.play_inputs C h⟩) (pf_v 0)) (pf_v 1) (fun _ _ => rfl)) (pfa_cons pf_int pfa_nil))) pfa_nil)))))
abbrev s_first_of_hand : Stmt := top 78
theorem sc_first_of_hand : FnScope ["play", "hand"] ["play", "hand"] (defScope s_first_of_hand) := ⟨rfl, rfl, rfl, by decide +kernel, rfl, by decide +kernel, by decide +kernel⟩
noncomputable def b_first_of_hand : FS := (sSeq (sIf (cT (cOp inD (c1 (fldD "kind") (cV 0)) (cD k_MANNERS))) (sRet (cFn 2 f_first_in_manner (cC (cV 0) (cC (cV 1) cN)))) sNx) (sSeq (sIf (cT (cOp eqD (c1 (fldD "kind") (cV 0)) (cD (.str "levels")))) (sRet cDead) sNx) (sRet cDead)))
noncomputable def f_first_of_hand : List D → Gh → M D := fun ds g => noX (fnOf 2 b_first_of_hand ds g)
theorem d_first_of_hand {P : Program} {w : World} {K : PySem.W.Frag} {mg : Str → Option Value} {base : Heap} (T : Txt P w K mg base) (A : DefAt K mg "first_of_hand" s_first_of_hand ["play", "hand"]) (d_first_in_manner : DefOk P w K mg base CX0 "first_in_manner" 2 2 f_first_in_manner) : DefOk P w K mg base CX0 "first_of_hand" 3 2 f_first_of_hand :=
  A.ok sc_first_of_hand rfl (by decide) fun f cdv A outer s H E ah hr => by
    exact (pfss_cons (pfs_if (pft_cmp op_in_seq os_in (pf_fld (fun C h => ⟨(T.play C h).cl, T.play_kind C h⟩) (pf_v 0)) (pf_const T.c_MANNERS) rfl) (pfss_one (pfs_ret (pf_call d_first_in_manner (hr.mono (by decide)) (pfa_cons (pf_v 0) (pfa_cons (pf_v 1) pfa_nil))))) pfss_nil) (pfss_cons (pfs_if (pft_cmp (op_eqD (hu64 hr)) os_eq (pf_fld (fun C h => ⟨(T.play C h).cl, T.play_kind C h⟩) (pf_v 0)) pf_str (nomark _)) (pfss_one (pfs_ret pf_deadE)) pfss_nil) (pfss_one (pfs_ret pf_deadE))))
abbrev s_first_standing : Stmt := top 74
theorem sc_first_standing : FnScope ["play", "hands", "firsts", "cells", "states", "hand", "cell", "_", "state"] ["play"] (defScope s_first_standing) := ⟨rfl, rfl, rfl, by decide +kernel, rfl, by decide +kernel, by decide +kernel⟩
noncomputable def b_first_standing : FS := (sSeq (sAsg (cCall rngV (cC (cFn 1 f_many_hands (cC (cV 0) cN)) cN)) (gN 1)) (sSeq (sAsg (cLc (iRv (cV 1)) [5] (gN 5) tY (cFn 2 f_first_of_hand (cC (cV 0) (cC (cV 5) cN)))) (gN 2)) (sSeq (sAsg (cCall tupleD (cC (cLc (iS (cV 2)) [6, 7] (gT 2 (gsC (gN 6) (gsC (gN 7) gsN))) tY (cV 6)) cN)) (gN 3)) (sSeq (sAsg (cCall tupleD (cC (cLc (iS (cV 2)) [7, 8] (gT 2 (gsC (gN 7) (gsC (gN 8) gsN))) tY (cV 8)) cN)) (gN 4)) (sRet (cTup (cC (cV 3) (cC (cV 4) (cC (cCall tupleD (cC (cLc (iRv (cV 1)) [7] (gN 7) tY (cTup cN)) cN)) cN)))))))))
noncomputable def f_first_standing : List D → Gh → M D := fun ds g => noX (fnOf 9 b_first_standing ds g)
theorem d_first_standing {P : Program} {w : World} {K : PySem.W.Frag} {mg : Str → Option Value} {base : Heap} (T : Txt P w K mg base) (A : DefAt K mg "first_standing" s_first_standing ["play"]) (d_many_hands : DefOk P w K mg base CX0 "many_hands" 1 1 f_many_hands) (d_first_of_hand : DefOk P w K mg base CX0 "first_of_hand" 3 2 f_first_of_hand) : DefOk P w K mg base CX0 "first_standing" 4 1 f_first_standing :=
  A.ok sc_first_standing rfl (by decide) fun f cdv A outer s H E ah hr => by
    exact (pfss_cons (pfs_set 1 sc_first_standing.nd (pf_rng1 T.b_range (pfa_cons (pf_call d_many_hands (hr.mono (by decide)) (pfa_cons (pf_v 0) pfa_nil)) pfa_nil))) (pfss_cons (pfs_lc 2 [("hand", 5)] sc_first_standing.nd (pfi_rngV (pf_v 1)) (fun _ => (pfg_n 5 sc_first_standing.nd)) (fun _ => pfts_nil) (fun _ => (pf_call d_first_of_hand (hr.mono (by decide)) (pfa_cons (pf_v 0) (pfa_cons (pf_v 5) pfa_nil)))) (blkOk_by (N := ["play", "hands", "firsts", "cells", "states", "hand", "cell", "_", "state"]) (sc := defScope s_first_standing) (by decide +kernel)) (sw_true rfl rfl rfl (by decide +kernel))) (pfss_cons (pfs_set 3 sc_first_standing.nd (pf_callTy call_tuple_of cs_tuple T.b_tuple (by decide +kernel) (pfa_cons (pf_lc [("cell", 6), ("_", 7)] sc_first_standing.nd (pfi_seq (pf_v 2)) (fun _ => (pfg_tup rfl (pfgs_cons (pfg_n 6 sc_first_standing.nd) (pfgs_cons (pfg_n 7 sc_first_standing.nd) pfgs_nil)))) (fun _ => pfts_nil) (fun _ => (pf_v 6)) (blkOk_by (N := ["play", "hands", "firsts", "cells", "states", "hand", "cell", "_", "state"]) (sc := defScope s_first_standing) (by decide +kernel))) pfa_nil))) (pfss_cons (pfs_set 4 sc_first_standing.nd (pf_callTy call_tuple_of cs_tuple T.b_tuple (by decide +kernel) (pfa_cons (pf_lc [("_", 7), ("state", 8)] sc_first_standing.nd (pfi_seq (pf_v 2)) (fun _ => (pfg_tup rfl (pfgs_cons (pfg_n 7 sc_first_standing.nd) (pfgs_cons (pfg_n 8 sc_first_standing.nd) pfgs_nil)))) (fun _ => pfts_nil) (fun _ => (pf_v 8)) (blkOk_by (N := ["play", "hands", "firsts", "cells", "states", "hand", "cell", "_", "state"]) (sc := defScope s_first_standing) (by decide +kernel))) pfa_nil))) (pfss_one (pfs_ret (pf_tup (pfa_cons (pf_v 3) (pfa_cons (pf_v 4) (pfa_cons (pf_callTy call_tuple_of cs_tuple T.b_tuple (by decide +kernel) (pfa_cons (pf_lc [("_", 7)] sc_first_standing.nd (pfi_rngV (pf_v 1)) (fun _ => (pfg_n 7 sc_first_standing.nd)) (fun _ => pfts_nil) (fun _ => (pf_tup pfa_nil)) (blkOk_by (N := ["play", "hands", "firsts", "cells", "states", "hand", "cell", "_", "state"]) (sc := defScope s_first_standing) (by decide +kernel))) pfa_nil)) pfa_nil))))))))))
abbrev s_is_whole : Stmt := top 21
theorem sc_is_whole : FnScope ["thing"] ["thing"] (defScope s_is_whole) := ⟨rfl, rfl, rfl, by decide +kernel, rfl, by decide +kernel, by decide +kernel⟩
noncomputable def b_is_whole : FS := (sRet (cAndV (cIs "int" (cV 0)) (c1 nB (cIs "bool" (cV 0)))))
noncomputable def f_is_whole : List D → Gh → M D := fun ds g => noX (fnOf 1 b_is_whole ds g)
theorem d_is_whole {P : Program} {w : World} {K : PySem.W.Frag} {mg : Str → Option Value} {base : Heap} (T : Txt P w K mg base) (A : DefAt K mg "is_whole" s_is_whole ["thing"])  : DefOk P w K mg base CX0 "is_whole" 1 1 f_is_whole :=
  A.ok sc_is_whole rfl (by decide) fun f cdv A outer s H E ah hr => by
    exact (pfss_one (pfs_ret (pf_and (pf_is (t := "int") (by simp) T.play T.b_isinstance T.b_int (by decide +kernel) (pf_v 0)) (pf_one (pf_not (pf_is (t := "bool") (by simp) T.play T.b_isinstance T.b_bool (by decide +kernel) (pf_v 0)))))))
abbrev s_is_whole_within : Stmt := top 23
theorem sc_is_whole_within : FnScope ["least", "most", "thing"] ["least", "most", "thing"] (defScope s_is_whole_within) := ⟨rfl, rfl, rfl, by decide +kernel, rfl, by decide +kernel, by decide +kernel⟩
noncomputable def b_is_whole_within : FS := (sRet (cAndV (cFn 1 f_is_whole (cC (cV 2) cN)) (cChain leD leD (cV 0) (cV 2) (cV 1))))
noncomputable def f_is_whole_within : List D → Gh → M D := fun ds g => noX (fnOf 3 b_is_whole_within ds g)
theorem d_is_whole_within {P : Program} {w : World} {K : PySem.W.Frag} {mg : Str → Option Value} {base : Heap} (T : Txt P w K mg base) (A : DefAt K mg "is_whole_within" s_is_whole_within ["least", "most", "thing"]) (d_is_whole : DefOk P w K mg base CX0 "is_whole" 1 1 f_is_whole) : DefOk P w K mg base CX0 "is_whole_within" 2 3 f_is_whole_within :=
  A.ok sc_is_whole_within rfl (by decide) fun f cdv A outer s H E ah hr => by
    exact (pfss_one (pfs_ret (pf_and (pf_call d_is_whole (hr.mono (by decide)) (pfa_cons (pf_v 2) pfa_nil)) (pf_one (pf_chain op_le op_le fs_int os_le (pf_v 0) (pf_v 2) (pf_v 1))))))
abbrev s_is_number_below : Stmt := top 24
theorem sc_is_number_below : FnScope ["limit", "thing"] ["limit", "thing"] (defScope s_is_number_below) := ⟨rfl, rfl, rfl, by decide +kernel, rfl, by decide +kernel, by decide +kernel⟩
noncomputable def b_is_number_below : FS := (sRet (cFn 3 f_is_whole_within (cC (cD (.int 0)) (cC (cOp subD (cV 0) (cD (.int 1))) (cC (cV 1) cN)))))
noncomputable def f_is_number_below : List D → Gh → M D := fun ds g => noX (fnOf 2 b_is_number_below ds g)
theorem d_is_number_below {P : Program} {w : World} {K : PySem.W.Frag} {mg : Str → Option Value} {base : Heap} (T : Txt P w K mg base) (A : DefAt K mg "is_number_below" s_is_number_below ["limit", "thing"]) (d_is_whole_within : DefOk P w K mg base CX0 "is_whole_within" 2 3 f_is_whole_within) : DefOk P w K mg base CX0 "is_number_below" 3 2 f_is_number_below :=
  A.ok sc_is_number_below rfl (by decide) fun f cdv A outer s H E ah hr => by
    exact (pfss_one (pfs_ret (pf_call d_is_whole_within (hr.mono (by decide)) (pfa_cons pf_int (pfa_cons (pf_bin op_sub os_sub (pf_v 0) pf_int) (pfa_cons (pf_v 1) pfa_nil))))))
abbrev s_is_hand : Stmt := top 77
theorem sc_is_hand : FnScope ["play", "thing"] ["play", "thing"] (defScope s_is_hand) := ⟨rfl, rfl, rfl, by decide +kernel, rfl, by decide +kernel, by decide +kernel⟩
noncomputable def b_is_hand : FS := (sRet (cFn 2 f_is_number_below (cC (cFn 1 f_many_hands (cC (cV 0) cN)) (cC (cV 1) cN))))
noncomputable def f_is_hand : List D → Gh → M D := fun ds g => noX (fnOf 2 b_is_hand ds g)
theorem d_is_hand {P : Program} {w : World} {K : PySem.W.Frag} {mg : Str → Option Value} {base : Heap} (T : Txt P w K mg base) (A : DefAt K mg "is_hand" s_is_hand ["play", "thing"]) (d_many_hands : DefOk P w K mg base CX0 "many_hands" 1 1 f_many_hands) (d_is_number_below : DefOk P w K mg base CX0 "is_number_below" 3 2 f_is_number_below) : DefOk P w K mg base CX0 "is_hand" 4 2 f_is_hand :=
  A.ok sc_is_hand rfl (by decide) fun f cdv A outer s H E ah hr => by
    exact (pfss_one (pfs_ret (pf_call d_is_number_below (hr.mono (by decide)) (pfa_cons (pf_call d_many_hands (hr.mono (by decide)) (pfa_cons (pf_v 0) pfa_nil)) (pfa_cons (pf_v 1) pfa_nil)))))
abbrev s_puts_next : Stmt := top 12
theorem sc_puts_next : FnScope ["play", "hand", "state"] ["play", "hand", "state"] (defScope s_puts_next) := ⟨rfl, rfl, rfl, by decide +kernel, rfl, by decide +kernel, by decide +kernel⟩
noncomputable def b_puts_next : FS := (sSeq (sIf (cT (cOp neD (cOp ixD (cOp ixD (cOp ixD (c1 (fldD "inputs") (cV 0)) (cV 1)) (cOp ixD (cV 2) (cD (.int 0)))) (cD (.int 0))) (cD (.str "put")))) (sRet (cD (.bl false))) sNx) (sRet (cOrV (cOp neD (c1 (fldD "kind") (cV 0)) (cD (.str "borrow"))) (cOp notND (cOp ixD (cV 2) (cD (.int 4))) (cD .non)))))
noncomputable def f_puts_next : List D → Gh → M D := fun ds g => noX (fnOf 3 b_puts_next ds g)
theorem d_puts_next {P : Program} {w : World} {K : PySem.W.Frag} {mg : Str → Option Value} {base : Heap} (T : Txt P w K mg base) (A : DefAt K mg "puts_next" s_puts_next ["play", "hand", "state"])  : DefOk P w K mg base CX0 "puts_next" 1 3 f_puts_next :=
  A.ok sc_puts_next rfl (by decide) fun f cdv A outer s H E ah hr => by
    exact (pfss_cons (pfs_if (pft_cmp (op_neD (hu64 hr)) os_ne (pf_ix ix_D os_ix (pf_ix ix_D os_ix (pf_ix ix_D os_ix (pf_fld (fun C h => ⟨(T.play C h).cl, T.play_inputs C h⟩) (pf_v 0)) (pf_v 1) (fun _ _ => rfl)) (pf_ix ix_D os_ix (pf_v 2) pf_int (fun _ _ => rfl)) (fun _ _ => rfl)) pf_int (fun _ _ => rfl)) pf_str (nomark _)) (pfss_one (pfs_ret pf_bl)) pfss_nil) (pfss_one (pfs_ret (pf_or (pf_cmp (op_neD (hu64 hr)) os_ne (pf_fld (fun C h => ⟨(T.play C h).cl, T.play_kind C h⟩) (pf_v 0)) pf_str (nomark _)) (pf_one (pf_cmp op_notN os_notN (pf_ix ix_D os_ix (pf_v 2) pf_int (fun _ _ => rfl)) pf_non (nomark _)))))))
abbrev s_behind_put : Stmt := top 14
theorem sc_behind_put : FnScope ["script", "cell", "state", "done", "ready"] ["script", "cell", "state"] (defScope s_behind_put) := ⟨rfl, rfl, rfl, by decide +kernel, rfl, by decide +kernel, by decide +kernel⟩
noncomputable def b_behind_put : FS := (sSeq (sPar 3 4 (cC (cOp ixD (cV 2) (cD (.int 0))) (cC (cOp ixD (cV 2) (cD (.int 4))) cN))) (sSeq (sAsg (cTup (cC (cOp addD (cOp ixD (cV 1) (cD (.int 0))) (cD (.int 1))) (cC (cOp ixD (cOp ixD (cV 0) (cV 3)) (cD (.int 1))) (cC (cV 4) cN)))) (gN 1)) (sRet (cTup (cC (cV 1) (cC (cFn 2 f_state_ahead (cC (cV 0) (cC (cOp addD (cV 3) (cD (.int 1))) cN))) (cC (cTup cN) cN)))))))
noncomputable def f_behind_put : List D → Gh → M D := fun ds g => noX (fnOf 5 b_behind_put ds g)
theorem d_behind_put {P : Program} {w : World} {K : PySem.W.Frag} {mg : Str → Option Value} {base : Heap} (T : Txt P w K mg base) (A : DefAt K mg "behind_put" s_behind_put ["script", "cell", "state"]) (d_state_ahead : DefOk P w K mg base CX0 "state_ahead" 1 2 f_state_ahead) : DefOk P w K mg base CX0 "behind_put" 2 3 f_behind_put :=
  A.ok sc_behind_put rfl (by decide) fun f cdv A outer s H E ah hr => by
    exact (pfss_cons (pfs_par 3 4 rfl sc_behind_put.nd (pfa_cons (pf_ix ix_D os_ix (pf_v 2) pf_int (fun _ _ => rfl)) (pfa_cons (pf_ix ix_D os_ix (pf_v 2) pf_int (fun _ _ => rfl)) pfa_nil))) (pfss_cons (pfs_set 1 sc_behind_put.nd (pf_tup (pfa_cons (pf_bin op_addD os_add (pf_ix ix_D os_ix (pf_v 1) pf_int (fun _ _ => rfl)) pf_int) (pfa_cons (pf_ix ix_D os_ix (pf_ix ix_D os_ix (pf_v 0) (pf_v 3) (fun _ _ => rfl)) pf_int (fun _ _ => rfl)) (pfa_cons (pf_v 4) pfa_nil))))) (pfss_one (pfs_ret (pf_tup (pfa_cons (pf_v 1) (pfa_cons (pf_call d_state_ahead (hr.mono (by decide)) (pfa_cons (pf_v 0) (pfa_cons (pf_bin op_addD os_add (pf_v 3) pf_int) pfa_nil))) (pfa_cons (pf_tup pfa_nil) pfa_nil))))))))
abbrev s_behind_picture : Stmt := top 16
theorem sc_behind_picture : FnScope ["script", "done", "picture"] ["script", "done", "picture"] (defScope s_behind_picture) := ⟨rfl, rfl, rfl, by decide +kernel, rfl, by decide +kernel, by decide +kernel⟩
noncomputable def b_behind_picture : FS := (sSeq (sIf (cT (cOp eqD (cOp ixD (cOp ixD (cV 0) (cV 1)) (cD (.int 0))) (cD (.str "put")))) (sRet (cTup (cC (cTup (cC (cV 1) (cC (cD .non) (cC (cD .non) (cC (cTup cN) (cC (cV 2) cN)))))) (cC (cTup cN) cN)))) sNx) (sRet (cTup (cC (cFn 2 f_state_ahead (cC (cV 0) (cC (cOp addD (cV 1) (cD (.int 1))) cN))) (cC (cTup (cC (cV 2) cN)) cN)))))
noncomputable def f_behind_picture : List D → Gh → M D := fun ds g => noX (fnOf 3 b_behind_picture ds g)
theorem d_behind_picture {P : Program} {w : World} {K : PySem.W.Frag} {mg : Str → Option Value} {base : Heap} (T : Txt P w K mg base) (A : DefAt K mg "behind_picture" s_behind_picture ["script", "done", "picture"]) (d_state_ahead : DefOk P w K mg base CX0 "state_ahead" 1 2 f_state_ahead) : DefOk P w K mg base CX0 "behind_picture" 2 3 f_behind_picture :=
  A.ok sc_behind_picture rfl (by decide) fun f cdv A outer s H E ah hr => by
    exact (pfss_cons (pfs_if (pft_cmp (op_eqD (hu64 hr)) os_eq (pf_ix ix_D os_ix (pf_ix ix_D os_ix (pf_v 0) (pf_v 1) (fun _ _ => rfl)) pf_int (fun _ _ => rfl)) pf_str (nomark _)) (pfss_one (pfs_ret (pf_tup (pfa_cons (pf_tup (pfa_cons (pf_v 1) (pfa_cons pf_non (pfa_cons pf_non (pfa_cons (pf_tup pfa_nil) (pfa_cons (pf_v 2) pfa_nil)))))) (pfa_cons (pf_tup pfa_nil) pfa_nil))))) pfss_nil) (pfss_one (pfs_ret (pf_tup (pfa_cons (pf_call d_state_ahead (hr.mono (by decide)) (pfa_cons (pf_v 0) (pfa_cons (pf_bin op_addD os_add (pf_v 1) pf_int) pfa_nil))) (pfa_cons (pf_tup (pfa_cons (pf_v 2) pfa_nil)) pfa_nil))))))
abbrev s_numbers_of : Stmt := top 17
theorem sc_numbers_of : FnScope ["cells", "cell"] ["cells"] (defScope s_numbers_of) := ⟨rfl, rfl, rfl, by decide +kernel, rfl, by decide +kernel, by decide +kernel⟩
noncomputable def b_numbers_of : FS := (sRet (cCall tupleD (cC (cLc (iS (cV 0)) [1] (gN 1) tY (cOp ixD (cV 1) (cD (.int 0)))) cN)))
noncomputable def f_numbers_of : List D → Gh → M D := fun ds g => noX (fnOf 2 b_numbers_of ds g)
theorem d_numbers_of {P : Program} {w : World} {K : PySem.W.Frag} {mg : Str → Option Value} {base : Heap} (T : Txt P w K mg base) (A : DefAt K mg "numbers_of" s_numbers_of ["cells"])  : DefOk P w K mg base CX0 "numbers_of" 1 1 f_numbers_of :=
  A.ok sc_numbers_of rfl (by decide) fun f cdv A outer s H E ah hr => by
    exact (pfss_one (pfs_ret (pf_callTy call_tuple_of cs_tuple T.b_tuple (by decide +kernel) (pfa_cons (pf_lc [("cell", 1)] sc_numbers_of.nd (pfi_seq (pf_v 0)) (fun _ => (pfg_n 1 sc_numbers_of.nd)) (fun _ => pfts_nil) (fun _ => (pf_ix ix_D os_ix (pf_v 1) pf_int (fun _ _ => rfl))) (blkOk_by (N := ["cells", "cell"]) (sc := defScope s_numbers_of) (by decide +kernel))) pfa_nil))))
abbrev s_borrowed : Stmt := top 19
theorem sc_borrowed : FnScope ["first", "now", "number", "cell"] ["first", "now"] (defScope s_borrowed) := ⟨rfl, rfl, rfl, by decide +kernel, rfl, by decide +kernel, by decide +kernel⟩
noncomputable def b_borrowed : FS := (sSeq (sFor (iZ (cC (cV 0) (cC (cV 1) cN))) (gT 2 (gsC (gN 2) (gsC (gN 3) gsN))) (sIf (cT (cOp geD (cOp ixD (cV 3) (cD (.int 0))) (cOp addD (cV 2) (cD (.int 2))))) (sRet (cOp ixD (cV 3) (cD (.int 2)))) sNx)) (sRet (cD .non)))
noncomputable def f_borrowed : List D → Gh → M D := fun ds g => noX (fnOf 4 b_borrowed ds g)
theorem d_borrowed {P : Program} {w : World} {K : PySem.W.Frag} {mg : Str → Option Value} {base : Heap} (T : Txt P w K mg base) (A : DefAt K mg "borrowed" s_borrowed ["first", "now"])  : DefOk P w K mg base CX0 "borrowed" 1 2 f_borrowed :=
  A.ok sc_borrowed rfl (by decide) fun f cdv A outer s H E ah hr => by
    exact (pfss_cons (pfs_for PassesOwn.never rfl (pfi_zip T.b_zip (pfa_cons (pf_v 0) (pfa_cons (pf_v 1) pfa_nil))) (pfg_tup rfl (pfgs_cons (pfg_n 2 sc_borrowed.nd) (pfgs_cons (pfg_n 3 sc_borrowed.nd) pfgs_nil))) (pfss_one (pfs_if (pft_cmp op_ge os_ge (pf_ix ix_D os_ix (pf_v 3) pf_int (fun _ _ => rfl)) (pf_bin op_addD os_add (pf_v 2) pf_int) (nomark _)) (pfss_one (pfs_ret (pf_ix ix_D os_ix (pf_v 3) pf_int (fun _ _ => rfl)))) pfss_nil))) (pfss_one (pfs_ret pf_non)))
abbrev s_picture_of_sweep : Stmt := top 18
theorem sc_picture_of_sweep : FnScope ["kind", "first", "last", "now", "cell"] ["kind", "first", "last", "now"] (defScope s_picture_of_sweep) := ⟨rfl, rfl, rfl, by decide +kernel, rfl, by decide +kernel, by decide +kernel⟩
noncomputable def b_picture_of_sweep : FS := (sSeq (sIf (cOr (cT (cOp eqD (cV 0) (cD (.str "sweep")))) (cT (cOp eqD (cFn 1 f_numbers_of (cC (cV 3) cN)) (cV 2)))) (sRet (cCall tupleD (cC (cLc (iS (cV 3)) [4] (gN 4) tY (cTup (cC (cOp ixD (cV 4) (cD (.int 0))) (cC (cOp ixD (cV 4) (cD (.int 1))) cN)))) cN))) sNx) (sSeq (sIf (cAnd (cT (cOp eqD (cV 0) (cD (.str "borrow")))) (cT (cOp notND (cV 1) (cD .non)))) (sRet (cFn 2 f_borrowed (cC (cV 1) (cC (cV 3) cN)))) sNx) (sRet (cD .non))))
noncomputable def f_picture_of_sweep : List D → Gh → M D := fun ds g => noX (fnOf 5 b_picture_of_sweep ds g)
theorem d_picture_of_sweep {P : Program} {w : World} {K : PySem.W.Frag} {mg : Str → Option Value} {base : Heap} (T : Txt P w K mg base) (A : DefAt K mg "picture_of_sweep" s_picture_of_sweep ["kind", "first", "last", "now"]) (d_numbers_of : DefOk P w K mg base CX0 "numbers_of" 1 1 f_numbers_of) (d_borrowed : DefOk P w K mg base CX0 "borrowed" 1 2 f_borrowed) : DefOk P w K mg base CX0 "picture_of_sweep" 2 4 f_picture_of_sweep :=
  A.ok sc_picture_of_sweep rfl (by decide) fun f cdv A outer s H E ah hr => by
    exact (pfss_cons (pfs_if (pft_w (pfw_or (pft_cmp (op_eqD (hu64 hr)) os_eq (pf_v 0) pf_str (nomark _)) (pfw_or1 (pft_cmp (op_eqD (hu64 hr)) os_eq (pf_call d_numbers_of (hr.mono (by decide)) (pfa_cons (pf_v 3) pfa_nil)) (pf_v 2) (nomark _))))) (pfss_one (pfs_ret (pf_callTy call_tuple_of cs_tuple T.b_tuple (by decide +kernel) (pfa_cons (pf_lc [("cell", 4)] sc_picture_of_sweep.nd (pfi_seq (pf_v 3)) (fun _ => (pfg_n 4 sc_picture_of_sweep.nd)) (fun _ => pfts_nil) (fun _ => (pf_tup (pfa_cons (pf_ix ix_D os_ix (pf_v 4) pf_int (fun _ _ => rfl)) (pfa_cons (pf_ix ix_D os_ix (pf_v 4) pf_int (fun _ _ => rfl)) pfa_nil)))) (blkOk_by (N := ["kind", "first", "last", "now", "cell"]) (sc := defScope s_picture_of_sweep) (by decide +kernel))) pfa_nil)))) pfss_nil) (pfss_cons (pfs_if (pft_w (pfw_and (pft_cmp (op_eqD (hu64 hr)) os_eq (pf_v 0) pf_str (nomark _)) (pfw_and1 (pft_cmp op_notN os_notN (pf_v 1) pf_non (nomark _))))) (pfss_one (pfs_ret (pf_call d_borrowed (hr.mono (by decide)) (pfa_cons (pf_v 1) (pfa_cons (pf_v 3) pfa_nil))))) pfss_nil) (pfss_one (pfs_ret pf_non))))
abbrev s_behind_look : Stmt := top 15
theorem sc_behind_look : FnScope ["play", "cells", "state", "hand", "now", "picture", "numbers", "done", "first", "last", "ready"] ["play", "cells", "state", "hand"] (defScope s_behind_look) := ⟨rfl, rfl, rfl, by decide +kernel, rfl, by decide +kernel, by decide +kernel⟩
noncomputable def b_behind_look : FS := (sSeq (sAsg (cV 2) (gT 5 (gsC (gN 7) (gsC (gN 8) (gsC (gN 9) (gsC (gN 4) (gsC (gN 10) gsN))))))) (sSeq (sAsg (cOp addD (cV 4) (cTup (cC (cOp ixD (cV 1) (cCall lenD (cC (cV 4) cN))) cN))) (gN 4)) (sSeq (sIf (cT (cOp ltD (cCall lenD (cC (cV 4) cN)) (cCall lenD (cC (cV 1) cN)))) (sRet (cTup (cC (cTup (cC (cV 7) (cC (cV 8) (cC (cV 9) (cC (cV 4) (cC (cV 10) cN)))))) (cC (cTup cN) cN)))) sNx) (sSeq (sAsg (cFn 4 f_picture_of_sweep (cC (c1 (fldD "kind") (cV 0)) (cC (cV 8) (cC (cV 9) (cC (cV 4) cN))))) (gN 5)) (sSeq (sIf (cT (cOp notND (cV 5) (cD .non))) (sRet (cFn 3 f_behind_picture (cC (cOp ixD (c1 (fldD "inputs") (cV 0)) (cV 3)) (cC (cV 7) (cC (cV 5) cN))))) sNx) (sSeq (sAsg (cFn 1 f_numbers_of (cC (cV 4) cN)) (gN 6)) (sSeq (sIf (cT (cOp isND (cV 8) (cD .non))) (sAsg (cV 6) (gN 8)) sNx) (sRet (cTup (cC (cTup (cC (cV 7) (cC (cV 8) (cC (cV 6) (cC (cTup cN) (cC (cV 10) cN)))))) (cC (cTup cN) cN)))))))))))
noncomputable def f_behind_look : List D → Gh → M D := fun ds g => noX (fnOf 11 b_behind_look ds g)
theorem d_behind_look {P : Program} {w : World} {K : PySem.W.Frag} {mg : Str → Option Value} {base : Heap} (T : Txt P w K mg base) (A : DefAt K mg "behind_look" s_behind_look ["play", "cells", "state", "hand"]) (d_picture_of_sweep : DefOk P w K mg base CX0 "picture_of_sweep" 2 4 f_picture_of_sweep) (d_behind_picture : DefOk P w K mg base CX0 "behind_picture" 2 3 f_behind_picture) (d_numbers_of : DefOk P w K mg base CX0 "numbers_of" 1 1 f_numbers_of) : DefOk P w K mg base CX0 "behind_look" 3 4 f_behind_look :=
  A.ok sc_behind_look rfl (by decide) fun f cdv A outer s H E ah hr => by
    exact (pfss_cons (pfs_asg (pf_v 2) (pfg_tup rfl (pfgs_cons (pfg_n 7 sc_behind_look.nd) (pfgs_cons (pfg_n 8 sc_behind_look.nd) (pfgs_cons (pfg_n 9 sc_behind_look.nd) (pfgs_cons (pfg_n 4 sc_behind_look.nd) (pfgs_cons (pfg_n 10 sc_behind_look.nd) pfgs_nil))))))) (pfss_cons (pfs_set 4 sc_behind_look.nd (pf_bin op_addD os_add (pf_v 4) (pf_tup (pfa_cons (pf_ix ix_D os_ix (pf_v 1) (pf_len T.b_len (pfa_cons (pf_v 4) pfa_nil)) (fun _ _ => rfl)) pfa_nil)))) (pfss_cons (pfs_if (pft_cmp op_lt os_lt (pf_len T.b_len (pfa_cons (pf_v 4) pfa_nil)) (pf_len T.b_len (pfa_cons (pf_v 1) pfa_nil)) (nomark _)) (pfss_one (pfs_ret (pf_tup (pfa_cons (pf_tup (pfa_cons (pf_v 7) (pfa_cons (pf_v 8) (pfa_cons (pf_v 9) (pfa_cons (pf_v 4) (pfa_cons (pf_v 10) pfa_nil)))))) (pfa_cons (pf_tup pfa_nil) pfa_nil))))) pfss_nil) (pfss_cons (pfs_set 5 sc_behind_look.nd (pf_call d_picture_of_sweep (hr.mono (by decide)) (pfa_cons (pf_fld (fun C h => ⟨(T.play C h).cl, T.play_kind C h⟩) (pf_v 0)) (pfa_cons (pf_v 8) (pfa_cons (pf_v 9) (pfa_cons (pf_v 4) pfa_nil)))))) (pfss_cons (pfs_if (pft_cmp op_notN os_notN (pf_v 5) pf_non (nomark _)) (pfss_one (pfs_ret (pf_call d_behind_picture (hr.mono (by decide)) (pfa_cons (pf_ix ix_D os_ix (pf_fld (fun C h => ⟨(T.play C h).cl, T.play_inputs C h⟩) (pf_v 0)) (pf_v 3) (fun _ _ => rfl)) (pfa_cons (pf_v 7) (pfa_cons (pf_v 5) pfa_nil)))))) pfss_nil) (pfss_cons (pfs_set 6 sc_behind_look.nd (pf_call d_numbers_of (hr.mono (by decide)) (pfa_cons (pf_v 4) pfa_nil))) (pfss_cons (pfs_if (pft_cmp op_isN os_isN (pf_v 8) pf_non (nomark _)) (pfss_one (pfs_set 8 sc_behind_look.nd (pf_v 6))) pfss_nil) (pfss_one (pfs_ret (pf_tup (pfa_cons (pf_tup (pfa_cons (pf_v 7) (pfa_cons (pf_v 8) (pfa_cons (pf_v 6) (pfa_cons (pf_tup pfa_nil) (pfa_cons (pf_v 10) pfa_nil)))))) (pfa_cons (pf_tup pfa_nil) pfa_nil))))))))))))
abbrev s_step_in_manner : Stmt := top 13
theorem sc_step_in_manner : FnScope ["play", "cells", "state", "hand", "news"] ["play", "cells", "state", "hand"] (defScope s_step_in_manner) := ⟨rfl, rfl, rfl, by decide +kernel, rfl, by decide +kernel, by decide +kernel⟩
noncomputable def b_step_in_manner : FS := (sSeq (sIf (cT (cFn 3 f_puts_next (cC (cV 0) (cC (cV 3) (cC (cV 2) cN))))) (sRet (cFn 3 f_behind_put (cC (cOp ixD (c1 (fldD "inputs") (cV 0)) (cV 3)) (cC (cOp ixD (cV 1) (cV 3)) (cC (cV 2) cN))))) sNx) (sSeq (sAsg (cFn 4 f_behind_look (cC (cV 0) (cC (cV 1) (cC (cV 2) (cC (cV 3) cN))))) (gT 2 (gsC (gN 2) (gsC (gN 4) gsN)))) (sRet (cTup (cC (cOp ixD (cV 1) (cV 3)) (cC (cV 2) (cC (cV 4) cN)))))))
noncomputable def f_step_in_manner : List D → Gh → M D := fun ds g => noX (fnOf 5 b_step_in_manner ds g)
theorem d_step_in_manner {P : Program} {w : World} {K : PySem.W.Frag} {mg : Str → Option Value} {base : Heap} (T : Txt P w K mg base) (A : DefAt K mg "step_in_manner" s_step_in_manner ["play", "cells", "state", "hand"]) (d_puts_next : DefOk P w K mg base CX0 "puts_next" 1 3 f_puts_next) (d_behind_put : DefOk P w K mg base CX0 "behind_put" 2 3 f_behind_put) (d_behind_look : DefOk P w K mg base CX0 "behind_look" 3 4 f_behind_look) : DefOk P w K mg base CX0 "step_in_manner" 4 4 f_step_in_manner :=
  A.ok sc_step_in_manner rfl (by decide) fun f cdv A outer s H E ah hr => by
    exact (pfss_cons (pfs_if (pft_val (pf_call d_puts_next (hr.mono (by decide)) (pfa_cons (pf_v 0) (pfa_cons (pf_v 3) (pfa_cons (pf_v 2) pfa_nil))))) (pfss_one (pfs_ret (pf_call d_behind_put (hr.mono (by decide)) (pfa_cons (pf_ix ix_D os_ix (pf_fld (fun C h => ⟨(T.play C h).cl, T.play_inputs C h⟩) (pf_v 0)) (pf_v 3) (fun _ _ => rfl)) (pfa_cons (pf_ix ix_D os_ix (pf_v 1) (pf_v 3) (fun _ _ => rfl)) (pfa_cons (pf_v 2) pfa_nil)))))) pfss_nil) (pfss_cons (pfs_asg (pf_call d_behind_look (hr.mono (by decide)) (pfa_cons (pf_v 0) (pfa_cons (pf_v 1) (pfa_cons (pf_v 2) (pfa_cons (pf_v 3) pfa_nil))))) (pfg_tup rfl (pfgs_cons (pfg_n 2 sc_step_in_manner.nd) (pfgs_cons (pfg_n 4 sc_step_in_manner.nd) pfgs_nil)))) (pfss_one (pfs_ret (pf_tup (pfa_cons (pf_ix ix_D os_ix (pf_v 1) (pf_v 3) (fun _ _ => rfl)) (pfa_cons (pf_v 2) (pfa_cons (pf_v 4) pfa_nil))))))))
abbrev s_step_of_hand : Stmt := top 80
theorem sc_step_of_hand : FnScope ["play", "cells", "state", "hand"] ["play", "cells", "state", "hand"] (defScope s_step_of_hand) := ⟨rfl, rfl, rfl, by decide +kernel, rfl, by decide +kernel, by decide +kernel⟩
noncomputable def b_step_of_hand : FS := (sSeq (sIf (cT (cOp inD (c1 (fldD "kind") (cV 0)) (cD k_MANNERS))) (sRet (cFn 4 f_step_in_manner (cC (cV 0) (cC (cV 1) (cC (cV 2) (cC (cV 3) cN)))))) sNx) (sSeq (sIf (cT (cOp eqD (c1 (fldD "kind") (cV 0)) (cD (.str "levels")))) (sRet cDead) sNx) (sRet cDead)))
noncomputable def f_step_of_hand : List D → Gh → M D := fun ds g => noX (fnOf 4 b_step_of_hand ds g)
theorem d_step_of_hand {P : Program} {w : World} {K : PySem.W.Frag} {mg : Str → Option Value} {base : Heap} (T : Txt P w K mg base) (A : DefAt K mg "step_of_hand" s_step_of_hand ["play", "cells", "state", "hand"]) (d_step_in_manner : DefOk P w K mg base CX0 "step_in_manner" 4 4 f_step_in_manner) : DefOk P w K mg base CX0 "step_of_hand" 5 4 f_step_of_hand :=
  A.ok sc_step_of_hand rfl (by decide) fun f cdv A outer s H E ah hr => by
    exact (pfss_cons (pfs_if (pft_cmp op_in_seq os_in (pf_fld (fun C h => ⟨(T.play C h).cl, T.play_kind C h⟩) (pf_v 0)) (pf_const T.c_MANNERS) rfl) (pfss_one (pfs_ret (pf_call d_step_in_manner (hr.mono (by decide)) (pfa_cons (pf_v 0) (pfa_cons (pf_v 1) (pfa_cons (pf_v 2) (pfa_cons (pf_v 3) pfa_nil))))))) pfss_nil) (pfss_cons (pfs_if (pft_cmp (op_eqD (hu64 hr)) os_eq (pf_fld (fun C h => ⟨(T.play C h).cl, T.play_kind C h⟩) (pf_v 0)) pf_str (nomark _)) (pfss_one (pfs_ret pf_deadE)) pfss_nil) (pfss_one (pfs_ret pf_deadE))))
abbrev s_put_at : Stmt := top 81
theorem sc_put_at : FnScope ["row", "hand", "item"] ["row", "hand", "item"] (defScope s_put_at) := ⟨rfl, rfl, rfl, by decide +kernel, rfl, by decide +kernel, by decide +kernel⟩
noncomputable def b_put_at : FS := (sRet (cOp addD (cOp addD (cSl (cV 0) oN (oS (cV 1))) (cTup (cC (cV 2) cN))) (cSl (cV 0) (oS (cOp addD (cV 1) (cD (.int 1)))) oN)))
noncomputable def f_put_at : List D → Gh → M D := fun ds g => noX (fnOf 3 b_put_at ds g)
theorem d_put_at {P : Program} {w : World} {K : PySem.W.Frag} {mg : Str → Option Value} {base : Heap} (T : Txt P w K mg base) (A : DefAt K mg "put_at" s_put_at ["row", "hand", "item"])  : DefOk P w K mg base CX0 "put_at" 1 3 f_put_at :=
  A.ok sc_put_at rfl (by decide) fun f cdv A outer s H E ah hr => by
    exact (pfss_one (pfs_ret (pf_bin op_addD os_add (pf_bin op_addD os_add (pf_sl (pf_v 0) pfo_none (pfo_some (pf_v 1))) (pf_tup (pfa_cons (pf_v 2) pfa_nil))) (pf_sl (pf_v 0) (pfo_some (pf_bin op_addD os_add (pf_v 1) pf_int)) pfo_none))))
abbrev s_standing_behind : Stmt := top 79
theorem sc_standing_behind : FnScope ["play", "standing", "hand", "cells", "states", "told", "cell", "state", "news"] ["play", "standing", "hand"] (defScope s_standing_behind) := ⟨rfl, rfl, rfl, by decide +kernel, rfl, by decide +kernel, by decide +kernel⟩
noncomputable def b_standing_behind : FS := (sSeq (sAsg (cV 1) (gT 3 (gsC (gN 3) (gsC (gN 4) (gsC (gN 5) gsN))))) (sSeq (sAsg (cFn 4 f_step_of_hand (cC (cV 0) (cC (cV 3) (cC (cOp ixD (cV 4) (cV 2)) (cC (cV 2) cN))))) (gT 3 (gsC (gN 6) (gsC (gN 7) (gsC (gN 8) gsN))))) (sRet (cTup (cC (cFn 3 f_put_at (cC (cV 3) (cC (cV 2) (cC (cV 6) cN)))) (cC (cFn 3 f_put_at (cC (cV 4) (cC (cV 2) (cC (cV 7) cN)))) (cC (cFn 3 f_put_at (cC (cV 5) (cC (cV 2) (cC (cOp addD (cOp ixD (cV 5) (cV 2)) (cV 8)) cN)))) cN)))))))
noncomputable def f_standing_behind : List D → Gh → M D := fun ds g => noX (fnOf 9 b_standing_behind ds g)
theorem d_standing_behind {P : Program} {w : World} {K : PySem.W.Frag} {mg : Str → Option Value} {base : Heap} (T : Txt P w K mg base) (A : DefAt K mg "standing_behind" s_standing_behind ["play", "standing", "hand"]) (d_step_of_hand : DefOk P w K mg base CX0 "step_of_hand" 5 4 f_step_of_hand) (d_put_at : DefOk P w K mg base CX0 "put_at" 1 3 f_put_at) : DefOk P w K mg base CX0 "standing_behind" 6 3 f_standing_behind :=
  A.ok sc_standing_behind rfl (by decide) fun f cdv A outer s H E ah hr => by
    exact (pfss_cons (pfs_asg (pf_v 1) (pfg_tup rfl (pfgs_cons (pfg_n 3 sc_standing_behind.nd) (pfgs_cons (pfg_n 4 sc_standing_behind.nd) (pfgs_cons (pfg_n 5 sc_standing_behind.nd) pfgs_nil))))) (pfss_cons (pfs_asg (pf_call d_step_of_hand (hr.mono (by decide)) (pfa_cons (pf_v 0) (pfa_cons (pf_v 3) (pfa_cons (pf_ix ix_D os_ix (pf_v 4) (pf_v 2) (fun _ _ => rfl)) (pfa_cons (pf_v 2) pfa_nil))))) (pfg_tup rfl (pfgs_cons (pfg_n 6 sc_standing_behind.nd) (pfgs_cons (pfg_n 7 sc_standing_behind.nd) (pfgs_cons (pfg_n 8 sc_standing_behind.nd) pfgs_nil))))) (pfss_one (pfs_ret (pf_tup (pfa_cons (pf_call d_put_at (hr.mono (by decide)) (pfa_cons (pf_v 3) (pfa_cons (pf_v 2) (pfa_cons (pf_v 6) pfa_nil)))) (pfa_cons (pf_call d_put_at (hr.mono (by decide)) (pfa_cons (pf_v 4) (pfa_cons (pf_v 2) (pfa_cons (pf_v 7) pfa_nil)))) (pfa_cons (pf_call d_put_at (hr.mono (by decide)) (pfa_cons (pf_v 5) (pfa_cons (pf_v 2) (pfa_cons (pf_bin op_addD os_add (pf_ix ix_D os_ix (pf_v 5) (pf_v 2) (fun _ _ => rfl)) (pf_v 8)) pfa_nil)))) pfa_nil))))))))
abbrev s_standings_along : Stmt := top 76
theorem sc_standings_along : FnScope ["play", "weaving", "standing", "standings", "index", "hand"] ["play", "weaving"] (defScope s_standings_along) := ⟨rfl, rfl, rfl, by decide +kernel, rfl, by decide +kernel, by decide +kernel⟩
noncomputable def b_standings_along : FS := (sSeq (sIf (cNot (cT (c1 (isTTD "list" "tuple") (cV 1)))) (sRaise "NoWeaving" "index" (c1 negD (cD (.int 1)))) sNx) (sSeq (sAsg (cFn 1 f_first_standing (cC (cV 0) cN)) (gN 2)) (sSeq (sOwnL 3 (cC (cV 2) cN)) (sSeq (sFor (iEn (cC (cV 1) cN)) (gT 2 (gsC (gN 4) (gsC (gN 5) gsN))) (sSeq (sIf (cOr (cNot (cT (cFn 2 f_is_hand (cC (cV 0) (cC (cV 5) cN))))) (cT (cOp isND (cOp ixD (cOp ixD (cV 2) (cD (.int 1))) (cV 5)) (cD .non)))) (sRaise "NoWeaving" "index" (cV 4)) sNx) (sSeq (sAsg (cFn 3 f_standing_behind (cC (cV 0) (cC (cV 2) (cC (cV 5) cN)))) (gN 2)) (sApp 3 (cV 2))))) (sFrz 3 (sRet (cV 3)))))))
noncomputable def f_standings_along : List D → Gh → M D := fun ds g => fnOf 6 b_standings_along ds g
theorem d_standings_along {P : Program} {w : World} {K : PySem.W.Frag} {mg : Str → Option Value} {base : Heap} (T : Txt P w K mg base) (A : DefAt K mg "standings_along" s_standings_along ["play", "weaving"]) (d_first_standing : DefOk P w K mg base CX0 "first_standing" 4 1 f_first_standing) (d_is_hand : DefOk P w K mg base CX0 "is_hand" 4 2 f_is_hand) (d_standing_behind : DefOk P w K mg base CX0 "standing_behind" 6 3 f_standing_behind) : DefOk P w K mg base (L2.CX P w) "standings_along" 7 2 f_standings_along :=
  A.okX sc_standings_along rfl (by decide) fun f cdv A outer s H E ah hr => by
    exact (pfss_cons (pfs_if (pft_not (pft_val (pf_isT (t := "list") (u := "tuple") (by simp) (by simp) T.play T.b_isinstance T.b_list T.b_tuple (by decide +kernel) (by decide +kernel) (pf_v 1)))) (pfss_one (pfs_raise rfl (takes_of rfl rfl rfl rfl) T.x_NoWeaving (hr.mono (by decide)) (pf_neg pf_int))) pfss_nil) (pfss_cons (pfs_set 2 sc_standings_along.nd (pf_call d_first_standing (hr.mono (by decide)) (pfa_cons (pf_v 0) pfa_nil))) (pfss_cons (pfs_ownL 3 sc_standings_along.nd (pfa_cons (pf_v 2) pfa_nil)) (pfss_cons (pfs_for (passes_of rfl) rfl (pfi_enum T.b_enumerate (pfa_cons (pf_v 1) pfa_nil)) (pfg_tup rfl (pfgs_cons (pfg_n 4 sc_standings_along.nd) (pfgs_cons (pfg_n 5 sc_standings_along.nd) pfgs_nil))) (pfss_cons (pfs_if (pft_w (pfw_or (pft_not (pft_val (pf_call d_is_hand (hr.mono (by decide)) (pfa_cons (pf_v 0) (pfa_cons (pf_v 5) pfa_nil))))) (pfw_or1 (pft_cmp op_isN os_isN (pf_ix ix_D os_ix (pf_ix ix_D os_ix (pf_v 2) pf_int (fun _ _ => rfl)) (pf_v 5) (fun _ _ => rfl)) pf_non (nomark _))))) (pfss_one (pfs_raise rfl (takes_of rfl rfl rfl rfl) T.x_NoWeaving (hr.mono (by decide)) (pf_v 4))) pfss_nil) (pfss_cons (pfs_set 2 sc_standings_along.nd (pf_call d_standing_behind (hr.mono (by decide)) (pfa_cons (pf_v 0) (pfa_cons (pf_v 2) (pfa_cons (pf_v 5) pfa_nil))))) (pfss_one (pfs_app 3 (pf_v 2)))))) (pfss_frz 3 (pfss_one (pfs_ret (pf_v 3))))))))
abbrev s_run : Stmt := top 75
theorem sc_run : FnScope ["play", "weaving"] ["play", "weaving"] (defScope s_run) := ⟨rfl, rfl, rfl, by decide +kernel, rfl, by decide +kernel, by decide +kernel⟩
noncomputable def b_run : FS := (sRet (cOp ixD (cFnX 2 f_standings_along (cC (cV 0) (cC (cV 1) cN))) (c1 negD (cD (.int 1)))))
noncomputable def f_run : List D → Gh → M D := fun ds g => fnOf 2 b_run ds g
theorem d_run {P : Program} {w : World} {K : PySem.W.Frag} {mg : Str → Option Value} {base : Heap} (T : Txt P w K mg base) (A : DefAt K mg "run" s_run ["play", "weaving"]) (d_standings_along : DefOk P w K mg base (L2.CX P w) "standings_along" 7 2 f_standings_along) : DefOk P w K mg base (L2.CX P w) "run" 8 2 f_run :=
  A.okX sc_run rfl (by decide) fun f cdv A outer s H E ah hr => by
    exact (pfss_one (pfs_ret (pf_ix ix_D os_ix (pf_callX (takes_of rfl rfl rfl rfl) d_standings_along (hr.mono (by decide)) (pfa_cons (pf_v 0) (pfa_cons (pf_v 1) pfa_nil))) (pf_neg pf_int) (fun _ _ => rfl))))
abbrev s_standings_in_manner : Stmt := top 84
theorem sc_standings_in_manner : FnScope ["play", "weaving"] ["play", "weaving"] (defScope s_standings_in_manner) := ⟨rfl, rfl, rfl, by decide +kernel, rfl, by decide +kernel, by decide +kernel⟩
noncomputable def b_standings_in_manner : FS := (sSeq (sIf (cT (cOp notInD (c1 (fldD "kind") (cV 0)) (cD k_MANNERS))) sDead sNx) (sRet (cFnX 2 f_standings_along (cC (cV 0) (cC (cV 1) cN)))))
noncomputable def f_standings_in_manner : List D → Gh → M D := fun ds g => fnOf 2 b_standings_in_manner ds g
theorem d_standings_in_manner {P : Program} {w : World} {K : PySem.W.Frag} {mg : Str → Option Value} {base : Heap} (T : Txt P w K mg base) (A : DefAt K mg "standings_in_manner" s_standings_in_manner ["play", "weaving"]) (d_standings_along : DefOk P w K mg base (L2.CX P w) "standings_along" 7 2 f_standings_along) : DefOk P w K mg base (L2.CX P w) "standings_in_manner" 8 2 f_standings_in_manner :=
  A.okX sc_standings_in_manner rfl (by decide) fun f cdv A outer s H E ah hr => by
    exact (pfss_cons (pfs_if (pft_cmp op_notIn_seq os_notIn (pf_fld (fun C h => ⟨(T.play C h).cl, T.play_kind C h⟩) (pf_v 0)) (pf_const T.c_MANNERS) rfl) (pfss_one pfs_dead) pfss_nil) (pfss_one (pfs_ret (pf_callX (takes_of rfl rfl rfl rfl) d_standings_along (hr.mono (by decide)) (pfa_cons (pf_v 0) (pfa_cons (pf_v 1) pfa_nil))))))
abbrev s_goes_on : Stmt := top 86
theorem sc_goes_on : FnScope ["state"] ["state"] (defScope s_goes_on) := ⟨rfl, rfl, rfl, by decide +kernel, rfl, by decide +kernel, by decide +kernel⟩
noncomputable def b_goes_on : FS := (sRet (cAndV (cOp notND (cV 0) (cD .non)) (cOrV (cOp notND (cOp ixD (cV 0) (cD (.int 1))) (cD .non)) (cOp neD (cOp ixD (cV 0) (cD (.int 3))) (cTup cN)))))
noncomputable def f_goes_on : List D → Gh → M D := fun ds g => noX (fnOf 1 b_goes_on ds g)
theorem d_goes_on {P : Program} {w : World} {K : PySem.W.Frag} {mg : Str → Option Value} {base : Heap} (T : Txt P w K mg base) (A : DefAt K mg "goes_on" s_goes_on ["state"])  : DefOk P w K mg base CX0 "goes_on" 1 1 f_goes_on :=
  A.ok sc_goes_on rfl (by decide) fun f cdv A outer s H E ah hr => by
    exact (pfss_one (pfs_ret (pf_and (pf_cmp op_notN os_notN (pf_v 0) pf_non (nomark _)) (pf_one (pf_or (pf_cmp op_notN os_notN (pf_ix ix_D os_ix (pf_v 0) pf_int (fun _ _ => rfl)) pf_non (nomark _)) (pf_one (pf_cmp (op_neD (hu64 hr)) os_ne (pf_ix ix_D os_ix (pf_v 0) pf_int (fun _ _ => rfl)) (pf_tup pfa_nil) (nomark _))))))))
abbrev s_picture_told : Stmt := top 87
theorem sc_picture_told : FnScope ["ahead", "behind", "hand", "state"] ["ahead", "behind", "hand"] (defScope s_picture_told) := ⟨rfl, rfl, rfl, by decide +kernel, rfl, by decide +kernel, by decide +kernel⟩
noncomputable def b_picture_told : FS := (sSeq (sIf (cT (cOp gtD (cCall lenD (cC (cOp ixD (cOp ixD (cV 1) (cD (.int 2))) (cV 2)) cN)) (cCall lenD (cC (cOp ixD (cOp ixD (cV 0) (cD (.int 2))) (cV 2)) cN)))) (sRet (cOp ixD (cOp ixD (cOp ixD (cV 1) (cD (.int 2))) (cV 2)) (c1 negD (cD (.int 1))))) sNx) (sSeq (sAsg (cOp ixD (cOp ixD (cV 1) (cD (.int 1))) (cV 2)) (gN 3)) (sSeq (sIf (cT (cOp isND (cV 3) (cD .non))) (sRet (cD .non)) sNx) (sRet (cOp ixD (cV 3) (cD (.int 4)))))))
noncomputable def f_picture_told : List D → Gh → M D := fun ds g => noX (fnOf 4 b_picture_told ds g)
theorem d_picture_told {P : Program} {w : World} {K : PySem.W.Frag} {mg : Str → Option Value} {base : Heap} (T : Txt P w K mg base) (A : DefAt K mg "picture_told" s_picture_told ["ahead", "behind", "hand"])  : DefOk P w K mg base CX0 "picture_told" 1 3 f_picture_told :=
  A.ok sc_picture_told rfl (by decide) fun f cdv A outer s H E ah hr => by
    exact (pfss_cons (pfs_if (pft_cmp op_gt os_gt (pf_len T.b_len (pfa_cons (pf_ix ix_D os_ix (pf_ix ix_D os_ix (pf_v 1) pf_int (fun _ _ => rfl)) (pf_v 2) (fun _ _ => rfl)) pfa_nil)) (pf_len T.b_len (pfa_cons (pf_ix ix_D os_ix (pf_ix ix_D os_ix (pf_v 0) pf_int (fun _ _ => rfl)) (pf_v 2) (fun _ _ => rfl)) pfa_nil)) (nomark _)) (pfss_one (pfs_ret (pf_ix ix_D os_ix (pf_ix ix_D os_ix (pf_ix ix_D os_ix (pf_v 1) pf_int (fun _ _ => rfl)) (pf_v 2) (fun _ _ => rfl)) (pf_neg pf_int) (fun _ _ => rfl)))) pfss_nil) (pfss_cons (pfs_set 3 sc_picture_told.nd (pf_ix ix_D os_ix (pf_ix ix_D os_ix (pf_v 1) pf_int (fun _ _ => rfl)) (pf_v 2) (fun _ _ => rfl))) (pfss_cons (pfs_if (pft_cmp op_isN os_isN (pf_v 3) pf_non (nomark _)) (pfss_one (pfs_ret pf_non)) pfss_nil) (pfss_one (pfs_ret (pf_ix ix_D os_ix (pf_v 3) pf_int (fun _ _ => rfl)))))))
abbrev s_ended_looks : Stmt := top 85
theorem sc_ended_looks : FnScope ["standings", "weaving", "begins", "steps", "found", "index", "hand", "state", "picture", "ahead", "behind"] ["standings", "weaving"] (defScope s_ended_looks) := ⟨rfl, rfl, rfl, by decide +kernel, rfl, by decide +kernel, by decide +kernel⟩
noncomputable def b_ended_looks : FS := (sSeq (sOwnd 2) (sSeq (sOwnd 3) (sSeq (sOwn 4) (sSeq (sFor (iEn (cC (cV 1) cN)) (gT 2 (gsC (gN 5) (gsC (gN 6) gsN))) (sSeq (sPar 9 10 (cC (cOp ixD (cV 0) (cV 5)) (cC (cOp ixD (cV 0) (cOp addD (cV 5) (cD (.int 1)))) cN))) (sSeq (sAsg (cOp ixD (cOp ixD (cV 9) (cD (.int 1))) (cV 6)) (gN 7)) (sSeq (sIf (cNot (cT (cFn 1 f_goes_on (cC (cV 7) cN)))) (sSeq (sDSet 2 (cV 6) (cV 5)) (sDSet 3 (cV 6) (cD (.int 0)))) sNx) (sSeq (sDAdd 3 (cV 6) (cD (.int 1))) (sSeq (sAsg (cFn 3 f_picture_told (cC (cV 9) (cC (cV 10) (cC (cV 6) cN)))) (gN 8)) (sIf (cT (cOp notND (cV 8) (cD .non))) (sApp 4 (cTup (cC (cTup (cC (cV 6) (cC (cOp ixD (cV 7) (cD (.int 0))) (cC (cDIx 2 (cV 6)) (cC (cOp addD (cV 5) (cD (.int 1))) (cC (cV 8) cN)))))) (cC (cDIx 3 (cV 6)) cN)))) sNx))))))) (sFrz 4 (sRet (cV 4)))))))
noncomputable def f_ended_looks : List D → Gh → M D := fun ds g => noX (fnOf 11 b_ended_looks ds g)
theorem d_ended_looks {P : Program} {w : World} {K : PySem.W.Frag} {mg : Str → Option Value} {base : Heap} (T : Txt P w K mg base) (A : DefAt K mg "ended_looks" s_ended_looks ["standings", "weaving"]) (d_goes_on : DefOk P w K mg base CX0 "goes_on" 1 1 f_goes_on) (d_picture_told : DefOk P w K mg base CX0 "picture_told" 1 3 f_picture_told) : DefOk P w K mg base CX0 "ended_looks" 2 2 f_ended_looks :=
  A.ok sc_ended_looks rfl (by decide) fun f cdv A outer s H E ah hr => by
    exact (pfss_cons (pfs_ownd 2 sc_ended_looks.nd) (pfss_cons (pfs_ownd 3 sc_ended_looks.nd) (pfss_cons (pfs_own0 4 sc_ended_looks.nd) (pfss_cons (pfs_for PassesOwn.never rfl (pfi_enum T.b_enumerate (pfa_cons (pf_v 1) pfa_nil)) (pfg_tup rfl (pfgs_cons (pfg_n 5 sc_ended_looks.nd) (pfgs_cons (pfg_n 6 sc_ended_looks.nd) pfgs_nil))) (pfss_cons (pfs_par 9 10 rfl sc_ended_looks.nd (pfa_cons (pf_ix ix_D os_ix (pf_v 0) (pf_v 5) (fun _ _ => rfl)) (pfa_cons (pf_ix ix_D os_ix (pf_v 0) (pf_bin op_addD os_add (pf_v 5) pf_int) (fun _ _ => rfl)) pfa_nil))) (pfss_cons (pfs_set 7 sc_ended_looks.nd (pf_ix ix_D os_ix (pf_ix ix_D os_ix (pf_v 9) pf_int (fun _ _ => rfl)) (pf_v 6) (fun _ _ => rfl))) (pfss_cons (pfs_if (pft_not (pft_val (pf_call d_goes_on (hr.mono (by decide)) (pfa_cons (pf_v 7) pfa_nil)))) (pfss_cons (pfs_dset 2 (hu64 hr) (pf_v 6) (pf_v 5)) (pfss_one (pfs_dset 3 (hu64 hr) (pf_v 6) pf_int))) pfss_nil) (pfss_cons (pfs_dadd 3 (hu64 hr) (pf_v 6) pf_int) (pfss_cons (pfs_set 8 sc_ended_looks.nd (pf_call d_picture_told (hr.mono (by decide)) (pfa_cons (pf_v 9) (pfa_cons (pf_v 10) (pfa_cons (pf_v 6) pfa_nil))))) (pfss_one (pfs_if (pft_cmp op_notN os_notN (pf_v 8) pf_non (nomark _)) (pfss_one (pfs_app 4 (pf_tup (pfa_cons (pf_tup (pfa_cons (pf_v 6) (pfa_cons (pf_ix ix_D os_ix (pf_v 7) pf_int (fun _ _ => rfl)) (pfa_cons (pf_dix 2 (hu64 hr) (pf_v 6) (fun _ _ => rfl)) (pfa_cons (pf_bin op_addD os_add (pf_v 5) pf_int) (pfa_cons (pf_v 8) pfa_nil)))))) (pfa_cons (pf_dix 3 (hu64 hr) (pf_v 6) (fun _ _ => rfl)) pfa_nil))))) pfss_nil)))))))) (pfss_frz 4 (pfss_one (pfs_ret (pf_v 4))))))))
abbrev s_shown : Stmt := top 88
theorem sc_shown : FnScope ["cells", "cell"] ["cells"] (defScope s_shown) := ⟨rfl, rfl, rfl, by decide +kernel, rfl, by decide +kernel, by decide +kernel⟩
noncomputable def b_shown : FS := (sRet (cCall tupleD (cC (cLc (iS (cV 0)) [1] (gN 1) tY (cTup (cC (cOp ixD (cV 1) (cD (.int 0))) (cC (cOp ixD (cV 1) (cD (.int 1))) cN)))) cN)))
noncomputable def f_shown : List D → Gh → M D := fun ds g => noX (fnOf 2 b_shown ds g)
theorem d_shown {P : Program} {w : World} {K : PySem.W.Frag} {mg : Str → Option Value} {base : Heap} (T : Txt P w K mg base) (A : DefAt K mg "shown" s_shown ["cells"])  : DefOk P w K mg base CX0 "shown" 1 1 f_shown :=
  A.ok sc_shown rfl (by decide) fun f cdv A outer s H E ah hr => by
    exact (pfss_one (pfs_ret (pf_callTy call_tuple_of cs_tuple T.b_tuple (by decide +kernel) (pfa_cons (pf_lc [("cell", 1)] sc_shown.nd (pfi_seq (pf_v 0)) (fun _ => (pfg_n 1 sc_shown.nd)) (fun _ => pfts_nil) (fun _ => (pf_tup (pfa_cons (pf_ix ix_D os_ix (pf_v 1) pf_int (fun _ _ => rfl)) (pfa_cons (pf_ix ix_D os_ix (pf_v 1) pf_int (fun _ _ => rfl)) pfa_nil)))) (blkOk_by (N := ["cells", "cell"]) (sc := defScope s_shown) (by decide +kernel))) pfa_nil))))
abbrev s_moments_of : Stmt := top 90
theorem sc_moments_of : FnScope ["stood", "look", "_", "begin", "end", "picture", "moment"] ["stood", "look"] (defScope s_moments_of) := ⟨rfl, rfl, rfl, by decide +kernel, rfl, by decide +kernel, by decide +kernel⟩
noncomputable def b_moments_of : FS := (sSeq (sAsg (cV 1) (gT 5 (gsC (gN 2) (gsC (gN 2) (gsC (gN 3) (gsC (gN 4) (gsC (gN 5) gsN))))))) (sRet (cLc (iR2 (cC (cV 3) (cC (cOp addD (cV 4) (cD (.int 1))) cN))) [6] (gN 6) (cT (cOp eqD (cOp ixD (cV 0) (cV 6)) (cV 5))) (cV 6))))
noncomputable def f_moments_of : List D → Gh → M D := fun ds g => noX (fnOf 7 b_moments_of ds g)
theorem d_moments_of {P : Program} {w : World} {K : PySem.W.Frag} {mg : Str → Option Value} {base : Heap} (T : Txt P w K mg base) (A : DefAt K mg "moments_of" s_moments_of ["stood", "look"])  : DefOk P w K mg base CX0 "moments_of" 1 2 f_moments_of :=
  A.ok sc_moments_of rfl (by decide) fun f cdv A outer s H E ah hr => by
    exact (pfss_cons (pfs_asg (pf_v 1) (pfg_tup rfl (pfgs_cons (pfg_n 2 sc_moments_of.nd) (pfgs_cons (pfg_n 2 sc_moments_of.nd) (pfgs_cons (pfg_n 3 sc_moments_of.nd) (pfgs_cons (pfg_n 4 sc_moments_of.nd) (pfgs_cons (pfg_n 5 sc_moments_of.nd) pfgs_nil))))))) (pfss_one (pfs_ret (pf_lc [("moment", 6)] sc_moments_of.nd (pfi_rng2 T.b_range (pfa_cons (pf_v 3) (pfa_cons (pf_bin op_addD os_add (pf_v 4) pf_int) pfa_nil))) (fun _ => (pfg_n 6 sc_moments_of.nd)) (fun _ => (pfts_one (pft_cmp (op_eqD (hu64 hr)) os_eq (pf_ix ix_D os_ix (pf_v 0) (pf_v 6) (fun _ _ => rfl)) (pf_v 5) (nomark _)))) (fun _ => (pf_v 6)) (blkOk_by (N := ["stood", "look", "_", "begin", "end", "picture", "moment"]) (sc := defScope s_moments_of) (by decide +kernel))))))
abbrev s_moments_of_looks : Stmt := top 89
theorem sc_moments_of_looks : FnScope ["play", "weaving", "standings", "stood", "cells", "_", "look"] ["play", "weaving"] (defScope s_moments_of_looks) := ⟨rfl, rfl, rfl, by decide +kernel, rfl, by decide +kernel, by decide +kernel⟩
noncomputable def b_moments_of_looks : FS := (sSeq (sAsg (cFnX 2 f_standings_in_manner (cC (cV 0) (cC (cV 1) cN))) (gN 2)) (sSeq (sAsg (cLc (iS (cV 2)) [4, 5, 5] (gT 3 (gsC (gN 4) (gsC (gN 5) (gsC (gN 5) gsN)))) tY (cFn 1 f_shown (cC (cV 4) cN))) (gN 3)) (sRet (cLc (iS (cFn 2 f_ended_looks (cC (cV 2) (cC (cV 1) cN)))) [6, 5] (gT 2 (gsC (gN 6) (gsC (gN 5) gsN))) tY (cFn 2 f_moments_of (cC (cV 3) (cC (cV 6) cN)))))))
noncomputable def f_moments_of_looks : List D → Gh → M D := fun ds g => fnOf 7 b_moments_of_looks ds g
theorem d_moments_of_looks {P : Program} {w : World} {K : PySem.W.Frag} {mg : Str → Option Value} {base : Heap} (T : Txt P w K mg base) (A : DefAt K mg "moments_of_looks" s_moments_of_looks ["play", "weaving"]) (d_standings_in_manner : DefOk P w K mg base (L2.CX P w) "standings_in_manner" 8 2 f_standings_in_manner) (d_shown : DefOk P w K mg base CX0 "shown" 1 1 f_shown) (d_ended_looks : DefOk P w K mg base CX0 "ended_looks" 2 2 f_ended_looks) (d_moments_of : DefOk P w K mg base CX0 "moments_of" 1 2 f_moments_of) : DefOk P w K mg base (L2.CX P w) "moments_of_looks" 9 2 f_moments_of_looks :=
  A.okX sc_moments_of_looks rfl (by decide) fun f cdv A outer s H E ah hr => by
    exact (pfss_cons (pfs_set 2 sc_moments_of_looks.nd (pf_callX (takes_of rfl rfl rfl rfl) d_standings_in_manner (hr.mono (by decide)) (pfa_cons (pf_v 0) (pfa_cons (pf_v 1) pfa_nil)))) (pfss_cons (pfs_set 3 sc_moments_of_looks.nd (pf_lc [("cells", 4), ("_", 5), ("_", 5)] sc_moments_of_looks.nd (pfi_seq (pf_v 2)) (fun _ => (pfg_tup rfl (pfgs_cons (pfg_n 4 sc_moments_of_looks.nd) (pfgs_cons (pfg_n 5 sc_moments_of_looks.nd) (pfgs_cons (pfg_n 5 sc_moments_of_looks.nd) pfgs_nil))))) (fun _ => pfts_nil) (fun _ => (pf_call d_shown (hr.mono (by decide)) (pfa_cons (pf_v 4) pfa_nil))) (blkOk_by (N := ["play", "weaving", "standings", "stood", "cells", "_", "look"]) (sc := defScope s_moments_of_looks) (by decide +kernel)))) (pfss_one (pfs_ret (pf_lc [("look", 6), ("_", 5)] sc_moments_of_looks.nd (pfi_seq (pf_call d_ended_looks (hr.mono (by decide)) (pfa_cons (pf_v 2) (pfa_cons (pf_v 1) pfa_nil)))) (fun _ => (pfg_tup rfl (pfgs_cons (pfg_n 6 sc_moments_of_looks.nd) (pfgs_cons (pfg_n 5 sc_moments_of_looks.nd) pfgs_nil)))) (fun _ => pfts_nil) (fun _ => (pf_call d_moments_of (hr.mono (by decide)) (pfa_cons (pf_v 3) (pfa_cons (pf_v 6) pfa_nil)))) (blkOk_by (N := ["play", "weaving", "standings", "stood", "cells", "_", "look"]) (sc := defScope s_moments_of_looks) (by decide +kernel)))))))
abbrev s_least_of : Stmt := top 91
theorem sc_least_of : FnScope ["found"] ["found"] (defScope s_least_of) := ⟨rfl, rfl, rfl, by decide +kernel, rfl, by decide +kernel, by decide +kernel⟩
noncomputable def b_least_of : FS := (sSeq (sIf (cTL (cV 0)) (sRet (cOp ixD (cV 0) (cD (.int 0)))) sNx) (sRet (cD .non)))
noncomputable def f_least_of : List D → Gh → M D := fun ds g => noX (fnOf 1 b_least_of ds g)
theorem d_least_of {P : Program} {w : World} {K : PySem.W.Frag} {mg : Str → Option Value} {base : Heap} (T : Txt P w K mg base) (A : DefAt K mg "least_of" s_least_of ["found"])  : DefOk P w K mg base CX0 "least_of" 1 1 f_least_of :=
  A.ok sc_least_of rfl (by decide) fun f cdv A outer s H E ah hr => by
    exact (pfss_cons (pfs_if (pft_lst (pf_v 0)) (pfss_one (pfs_ret (pf_ix ix_D os_ix (pf_v 0) pf_int (fun _ _ => rfl)))) pfss_nil) (pfss_one (pfs_ret pf_non)))
abbrev s_moments : Stmt := top 83
theorem sc_moments : FnScope ["play", "weaving", "found"] ["play", "weaving"] (defScope s_moments) := ⟨rfl, rfl, rfl, by decide +kernel, rfl, by decide +kernel, by decide +kernel⟩
noncomputable def b_moments : FS := (sRet (cCall tupleD (cC (cLc (iS (cFnX 2 f_moments_of_looks (cC (cV 0) (cC (cV 1) cN)))) [2] (gN 2) tY (cFn 1 f_least_of (cC (cV 2) cN))) cN)))
noncomputable def f_moments : List D → Gh → M D := fun ds g => fnOf 3 b_moments ds g
theorem d_moments {P : Program} {w : World} {K : PySem.W.Frag} {mg : Str → Option Value} {base : Heap} (T : Txt P w K mg base) (A : DefAt K mg "moments" s_moments ["play", "weaving"]) (d_moments_of_looks : DefOk P w K mg base (L2.CX P w) "moments_of_looks" 9 2 f_moments_of_looks) (d_least_of : DefOk P w K mg base CX0 "least_of" 1 1 f_least_of) : DefOk P w K mg base (L2.CX P w) "moments" 10 2 f_moments :=
  A.okX sc_moments rfl (by decide) fun f cdv A outer s H E ah hr => by
    exact (pfss_one (pfs_ret (pf_callTy call_tuple_of cs_tuple T.b_tuple (by decide +kernel) (pfa_cons (pf_lc [("found", 2)] sc_moments.nd (pfi_seq (pf_callX (takes_of rfl rfl rfl rfl) d_moments_of_looks (hr.mono (by decide)) (pfa_cons (pf_v 0) (pfa_cons (pf_v 1) pfa_nil)))) (fun _ => (pfg_n 2 sc_moments.nd)) (fun _ => pfts_nil) (fun _ => (pf_call d_least_of (hr.mono (by decide)) (pfa_cons (pf_v 2) pfa_nil))) (blkOk_by (N := ["play", "weaving", "found"]) (sc := defScope s_moments) (by decide +kernel))) pfa_nil))))
abbrev s_those_that_came : Stmt := top 95
theorem sc_those_that_came : FnScope ["weaving"] ["weaving"] (defScope s_those_that_came) := ⟨rfl, rfl, rfl, by decide +kernel, rfl, by decide +kernel, by decide +kernel⟩
noncomputable def b_those_that_came : FS := (sRet (cCall tupleD (cC (c1 sortSet2D (cV 0)) cN)))
noncomputable def f_those_that_came : List D → Gh → M D := fun ds g => noX (fnOf 1 b_those_that_came ds g)
theorem d_those_that_came {P : Program} {w : World} {K : PySem.W.Frag} {mg : Str → Option Value} {base : Heap} (T : Txt P w K mg base) (A : DefAt K mg "those_that_came" s_those_that_came ["weaving"])  : DefOk P w K mg base CX0 "those_that_came" 1 1 f_those_that_came :=
  A.ok sc_those_that_came rfl (by decide) fun f cdv A outer s H E ah hr => by
    exact (pfss_one (pfs_ret (pf_callTy call_tuple_of cs_tuple T.b_tuple (by decide +kernel) (pfa_cons (pf_sortSet2 T.b_sorted T.b_set (pf_v 0)) pfa_nil))))
abbrev s_is_wrong : Stmt := top 93
theorem sc_is_wrong : FnScope ["play", "weaving", "told"] ["play", "weaving"] (defScope s_is_wrong) := ⟨rfl, rfl, rfl, by decide +kernel, rfl, by decide +kernel, by decide +kernel⟩
noncomputable def b_is_wrong : FS := (sSeq (sAsg (cOp ixD (cFnX 2 f_run (cC (cV 0) (cC (cV 1) cN))) (cD (.int 2))) (gN 2)) (sSeq (sIf (cT (cOp inD (c1 (fldD "kind") (cV 0)) (cD k_MANNERS))) (sRet (cOp inD (cD .non) (cFnX 2 f_moments (cC (cV 0) (cC (cV 1) cN))))) sNx) (sRet (cOp notND cDead (cD .non)))))
noncomputable def f_is_wrong : List D → Gh → M D := fun ds g => fnOf 3 b_is_wrong ds g
theorem d_is_wrong {P : Program} {w : World} {K : PySem.W.Frag} {mg : Str → Option Value} {base : Heap} (T : Txt P w K mg base) (A : DefAt K mg "is_wrong" s_is_wrong ["play", "weaving"]) (d_run : DefOk P w K mg base (L2.CX P w) "run" 8 2 f_run) (d_moments : DefOk P w K mg base (L2.CX P w) "moments" 10 2 f_moments) : DefOk P w K mg base (L2.CX P w) "is_wrong" 11 2 f_is_wrong :=
  A.okX sc_is_wrong rfl (by decide) fun f cdv A outer s H E ah hr => by
    exact (pfss_cons (pfs_set 2 sc_is_wrong.nd (pf_ix ix_D os_ix (pf_callX (takes_of rfl rfl rfl rfl) d_run (hr.mono (by decide)) (pfa_cons (pf_v 0) (pfa_cons (pf_v 1) pfa_nil))) pf_int (fun _ _ => rfl))) (pfss_cons (pfs_if (pft_cmp op_in_seq os_in (pf_fld (fun C h => ⟨(T.play C h).cl, T.play_kind C h⟩) (pf_v 0)) (pf_const T.c_MANNERS) rfl) (pfss_one (pfs_ret (pf_cmp op_in_seq os_in pf_non (pf_callX (takes_of rfl rfl rfl rfl) d_moments (hr.mono (by decide)) (pfa_cons (pf_v 0) (pfa_cons (pf_v 1) pfa_nil))) rfl))) pfss_nil) (pfss_one (pfs_ret (pf_cmp op_notN os_notN pf_deadE pf_non (nomark _))))))
abbrev s_law_fresh : Stmt := top 99
theorem sc_law_fresh : FnScope ["_law_script", "_law_done"] ["_law_script", "_law_done"] (defScope s_law_fresh) := ⟨rfl, rfl, rfl, by decide +kernel, rfl, by decide +kernel, by decide +kernel⟩
noncomputable def b_law_fresh : FS := (sRet (cIfE (cT (cOp eqD (cV 1) (cCall lenD (cC (cV 0) cN)))) (cD .non) (cTup (cC (cV 1) (cC (cD .non) (cC (cD .non) (cC (cTup cN) (cC (cD .non) cN))))))))
noncomputable def f_law_fresh : List D → Gh → M D := fun ds g => noX (fnOf 2 b_law_fresh ds g)
theorem d_law_fresh {P : Program} {w : World} {K : PySem.W.Frag} {mg : Str → Option Value} {base : Heap} (T : Txt P w K mg base) (A : DefAt K mg "_law_fresh" s_law_fresh ["_law_script", "_law_done"])  : DefOk P w K mg base CX0 "_law_fresh" 1 2 f_law_fresh :=
  A.ok sc_law_fresh rfl (by decide) fun f cdv A outer s H E ah hr => by
    exact (pfss_one (pfs_ret (pf_ifE (pft_cmp (op_eqD (hu64 hr)) os_eq (pf_v 1) (pf_len T.b_len (pfa_cons (pf_v 0) pfa_nil)) (nomark _)) pf_non (pf_tup (pfa_cons (pf_v 1) (pfa_cons pf_non (pfa_cons pf_non (pfa_cons (pf_tup pfa_nil) (pfa_cons pf_non pfa_nil)))))))))
abbrev s_law_begun : Stmt := top 100
theorem sc_law_begun : FnScope ["_law_play", "_law_many", "_law_first", "_law_kind", "_law_inputs", "_law_values", "_law_value", "_law_script"] ["_law_play"] (defScope s_law_begun) := ⟨rfl, rfl, rfl, by decide +kernel, rfl, by decide +kernel, by decide +kernel⟩
noncomputable def b_law_begun : FS := (sSeq (sPar 3 4 (cC (c1 (fldD "kind") (cV 0)) (cC (c1 (fldD "inputs") (cV 0)) cN))) (sSeq (sIf (cT (cOp eqD (cV 3) (cD (.str "near")))) (sSeq (sAsg (cOp ixD (cV 4) (cD (.int 1))) (gN 5)) (sRet (cTup (cC (cOp mulD2 (cTup (cC (cTup cN) cN)) (cCall lenD (cC (cV 5) cN))) (cC (cCall tupleD (cC (cLc (iS (cV 5)) [6] (gN 6) tY (cTup (cC (cD (.int 0)) (cC (cV 6) (cC (cD (.bl false)) cN))))) cN)) (cC (cOp mulD2 (cTup (cC (cTup cN) cN)) (cCall lenD (cC (cV 5) cN))) cN)))))) sNx) (sSeq (sAsg (cCall lenD (cC (cV 4) cN)) (gN 1)) (sSeq (sIf (cT (cOp inD (cV 3) (cTup (cC (cD (.str "sweep")) (cC (cD (.str "twice")) (cC (cD (.str "borrow")) cN)))))) (sRet (cTup (cC (cOp mulD2 (cTup (cC (cTup (cC (cD (.int 0)) (cC (cD (.int 0)) (cC (cD .non) cN)))) cN)) (cV 1)) (cC (cCall tupleD (cC (cLc (iS (cV 4)) [7] (gN 7) tY (cFn 2 f_law_fresh (cC (cV 7) (cC (cD (.int 0)) cN)))) cN)) (cC (cOp mulD2 (cTup (cC (cTup cN) cN)) (cV 1)) cN))))) sNx) (sSeq sDead (sRet (cTup (cC (cOp mulD2 (cTup (cC (cD .non) cN)) (cV 1)) (cC (cOp mulD2 (cTup (cC (cV 2) cN)) (cV 1)) (cC (cOp mulD2 (cTup (cC (cTup cN) cN)) (cV 1)) cN))))))))))
noncomputable def f_law_begun : List D → Gh → M D := fun ds g => noX (fnOf 8 b_law_begun ds g)
theorem d_law_begun {P : Program} {w : World} {K : PySem.W.Frag} {mg : Str → Option Value} {base : Heap} (T : Txt P w K mg base) (A : DefAt K mg "_law_begun" s_law_begun ["_law_play"]) (d_law_fresh : DefOk P w K mg base CX0 "_law_fresh" 1 2 f_law_fresh) : DefOk P w K mg base CX0 "_law_begun" 2 1 f_law_begun :=
  A.ok sc_law_begun rfl (by decide) fun f cdv A outer s H E ah hr => by
    exact (pfss_cons (pfs_par 3 4 rfl sc_law_begun.nd (pfa_cons (pf_fld (fun C h => ⟨(T.play C h).cl, T.play_kind C h⟩) (pf_v 0)) (pfa_cons (pf_fld (fun C h => ⟨(T.play C h).cl, T.play_inputs C h⟩) (pf_v 0)) pfa_nil))) (pfss_cons (pfs_if (pft_cmp (op_eqD (hu64 hr)) os_eq (pf_v 3) pf_str (nomark _)) (pfss_cons (pfs_set 5 sc_law_begun.nd (pf_ix ix_D os_ix (pf_v 4) pf_int (fun _ _ => rfl))) (pfss_one (pfs_ret (pf_tup (pfa_cons (pf_bin op_mulD2 os_mul2 (pf_tup (pfa_cons (pf_tup pfa_nil) pfa_nil)) (pf_len T.b_len (pfa_cons (pf_v 5) pfa_nil))) (pfa_cons (pf_callTy call_tuple_of cs_tuple T.b_tuple (by decide +kernel) (pfa_cons (pf_lc [("_law_value", 6)] sc_law_begun.nd (pfi_seq (pf_v 5)) (fun _ => (pfg_n 6 sc_law_begun.nd)) (fun _ => pfts_nil) (fun _ => (pf_tup (pfa_cons pf_int (pfa_cons (pf_v 6) (pfa_cons pf_bl pfa_nil))))) (blkOk_by (N := ["_law_play", "_law_many", "_law_first", "_law_kind", "_law_inputs", "_law_values", "_law_value", "_law_script"]) (sc := defScope s_law_begun) (by decide +kernel))) pfa_nil)) (pfa_cons (pf_bin op_mulD2 os_mul2 (pf_tup (pfa_cons (pf_tup pfa_nil) pfa_nil)) (pf_len T.b_len (pfa_cons (pf_v 5) pfa_nil))) pfa_nil))))))) pfss_nil) (pfss_cons (pfs_set 1 sc_law_begun.nd (pf_len T.b_len (pfa_cons (pf_v 4) pfa_nil))) (pfss_cons (pfs_if (pft_cmp op_in_seq os_in (pf_v 3) (pf_tup (pfa_cons pf_str (pfa_cons pf_str (pfa_cons pf_str pfa_nil)))) rfl) (pfss_one (pfs_ret (pf_tup (pfa_cons (pf_bin op_mulD2 os_mul2 (pf_tup (pfa_cons (pf_tup (pfa_cons pf_int (pfa_cons pf_int (pfa_cons pf_non pfa_nil)))) pfa_nil)) (pf_v 1)) (pfa_cons (pf_callTy call_tuple_of cs_tuple T.b_tuple (by decide +kernel) (pfa_cons (pf_lc [("_law_script", 7)] sc_law_begun.nd (pfi_seq (pf_v 4)) (fun _ => (pfg_n 7 sc_law_begun.nd)) (fun _ => pfts_nil) (fun _ => (pf_call d_law_fresh (hr.mono (by decide)) (pfa_cons (pf_v 7) (pfa_cons pf_int pfa_nil)))) (blkOk_by (N := ["_law_play", "_law_many", "_law_first", "_law_kind", "_law_inputs", "_law_values", "_law_value", "_law_script"]) (sc := defScope s_law_begun) (by decide +kernel))) pfa_nil)) (pfa_cons (pf_bin op_mulD2 os_mul2 (pf_tup (pfa_cons (pf_tup pfa_nil) pfa_nil)) (pf_v 1)) pfa_nil)))))) pfss_nil) (pfss_cons pfs_dead (pfss_one (pfs_ret (pf_tup (pfa_cons (pf_bin op_mulD2 os_mul2 (pf_tup (pfa_cons pf_non pfa_nil)) (pf_v 1)) (pfa_cons (pf_bin op_mulD2 os_mul2 (pf_tup (pfa_cons (pf_v 2) pfa_nil)) (pf_v 1)) (pfa_cons (pf_bin op_mulD2 os_mul2 (pf_tup (pfa_cons (pf_tup pfa_nil) pfa_nil)) (pf_v 1)) pfa_nil)))))))))))
abbrev s_law_manner : Stmt := top 101
theorem sc_law_manner : FnScope ["_law_kind", "_law_script", "_law_cells", "_law_state", "_law_me", "_law_now", "_law_numbers", "_law_picture", "_law_done", "_law_first", "_law_last", "_law_ready", "_law_cell", "_law_number"] ["_law_kind", "_law_script", "_law_cells", "_law_state", "_law_me"] (defScope s_law_manner) := ⟨rfl, rfl, rfl, by decide +kernel, rfl, by decide +kernel, by decide +kernel⟩
noncomputable def b_law_manner : FS := (sSeq (sAsg (cV 3) (gT 5 (gsC (gN 8) (gsC (gN 9) (gsC (gN 10) (gsC (gN 5) (gsC (gN 11) gsN))))))) (sSeq (sIf (cAnd (cT (cOp eqD (cOp ixD (cOp ixD (cV 1) (cV 8)) (cD (.int 0))) (cD (.str "put")))) (cOr (cT (cOp neD (cV 0) (cD (.str "borrow")))) (cT (cOp notND (cV 11) (cD .non))))) (sRet (cTup (cC (cTup (cC (cOp addD (cOp ixD (cOp ixD (cV 2) (cV 4)) (cD (.int 0))) (cD (.int 1))) (cC (cOp ixD (cOp ixD (cV 1) (cV 8)) (cD (.int 1))) (cC (cV 11) cN)))) (cC (cFn 2 f_law_fresh (cC (cV 1) (cC (cOp addD (cV 8) (cD (.int 1))) cN))) (cC (cD .non) cN))))) sNx) (sSeq (sAsg (cOp addD (cV 5) (cTup (cC (cOp ixD (cV 2) (cCall lenD (cC (cV 5) cN))) cN))) (gN 5)) (sSeq (sIf (cT (cOp ltD (cCall lenD (cC (cV 5) cN)) (cCall lenD (cC (cV 2) cN)))) (sRet (cTup (cC (cD .non) (cC (cTup (cC (cV 8) (cC (cV 9) (cC (cV 10) (cC (cV 5) (cC (cV 11) cN)))))) (cC (cD .non) cN))))) sNx) (sSeq (sAsg (cCall tupleD (cC (cLc (iS (cV 5)) [12] (gN 12) tY (cOp ixD (cV 12) (cD (.int 0)))) cN)) (gN 6)) (sSeq (sAsg (cD .non) (gN 7)) (sSeq (sIf (cOr (cT (cOp eqD (cV 0) (cD (.str "sweep")))) (cT (cOp eqD (cV 6) (cV 10)))) (sAsg (cCall tupleD (cC (cLc (iS (cV 5)) [12] (gN 12) tY (cSl (cV 12) oN (oS (cD (.int 2))))) cN)) (gN 7)) (sIf (cAnd (cT (cOp eqD (cV 0) (cD (.str "borrow")))) (cT (cOp notND (cV 9) (cD .non)))) (sAsg (cOp ixD (cOp addD (cLc (iZ (cC (cV 5) (cC (cV 9) cN))) [12, 13] (gT 2 (gsC (gN 12) (gsC (gN 13) gsN))) (cT (cOp geD (cOp ixD (cV 12) (cD (.int 0))) (cOp addD (cV 13) (cD (.int 2))))) (cOp ixD (cV 12) (cD (.int 2)))) (cLst (cC (cD .non) cN))) (cD (.int 0))) (gN 7)) sNx)) (sSeq (sIf (cT (cOp isND (cV 7) (cD .non))) (sRet (cTup (cC (cD .non) (cC (cTup (cC (cV 8) (cC (cIfE (cT (cOp isND (cV 9) (cD .non))) (cV 6) (cV 9)) (cC (cV 6) (cC (cTup cN) (cC (cV 11) cN)))))) (cC (cD .non) cN))))) sNx) (sSeq (sIf (cT (cOp eqD (cOp ixD (cOp ixD (cV 1) (cV 8)) (cD (.int 0))) (cD (.str "see")))) (sRet (cTup (cC (cD .non) (cC (cFn 2 f_law_fresh (cC (cV 1) (cC (cOp addD (cV 8) (cD (.int 1))) cN))) (cC (cV 7) cN))))) sNx) (sRet (cTup (cC (cD .non) (cC (cTup (cC (cV 8) (cC (cD .non) (cC (cD .non) (cC (cTup cN) (cC (cV 7) cN)))))) (cC (cD .non) cN))))))))))))))
noncomputable def f_law_manner : List D → Gh → M D := fun ds g => noX (fnOf 14 b_law_manner ds g)
theorem d_law_manner {P : Program} {w : World} {K : PySem.W.Frag} {mg : Str → Option Value} {base : Heap} (T : Txt P w K mg base) (A : DefAt K mg "_law_manner" s_law_manner ["_law_kind", "_law_script", "_law_cells", "_law_state", "_law_me"]) (d_law_fresh : DefOk P w K mg base CX0 "_law_fresh" 1 2 f_law_fresh) : DefOk P w K mg base CX0 "_law_manner" 2 5 f_law_manner :=
  A.ok sc_law_manner rfl (by decide) fun f cdv A outer s H E ah hr => by
    exact (pfss_cons (pfs_asg (pf_v 3) (pfg_tup rfl (pfgs_cons (pfg_n 8 sc_law_manner.nd) (pfgs_cons (pfg_n 9 sc_law_manner.nd) (pfgs_cons (pfg_n 10 sc_law_manner.nd) (pfgs_cons (pfg_n 5 sc_law_manner.nd) (pfgs_cons (pfg_n 11 sc_law_manner.nd) pfgs_nil))))))) (pfss_cons (pfs_if (pft_w (pfw_and (pft_cmp (op_eqD (hu64 hr)) os_eq (pf_ix ix_D os_ix (pf_ix ix_D os_ix (pf_v 1) (pf_v 8) (fun _ _ => rfl)) pf_int (fun _ _ => rfl)) pf_str (nomark _)) (pfw_and1 (pft_w (pfw_or (pft_cmp (op_neD (hu64 hr)) os_ne (pf_v 0) pf_str (nomark _)) (pfw_or1 (pft_cmp op_notN os_notN (pf_v 11) pf_non (nomark _)))))))) (pfss_one (pfs_ret (pf_tup (pfa_cons (pf_tup (pfa_cons (pf_bin op_addD os_add (pf_ix ix_D os_ix (pf_ix ix_D os_ix (pf_v 2) (pf_v 4) (fun _ _ => rfl)) pf_int (fun _ _ => rfl)) pf_int) (pfa_cons (pf_ix ix_D os_ix (pf_ix ix_D os_ix (pf_v 1) (pf_v 8) (fun _ _ => rfl)) pf_int (fun _ _ => rfl)) (pfa_cons (pf_v 11) pfa_nil)))) (pfa_cons (pf_call d_law_fresh (hr.mono (by decide)) (pfa_cons (pf_v 1) (pfa_cons (pf_bin op_addD os_add (pf_v 8) pf_int) pfa_nil))) (pfa_cons pf_non pfa_nil)))))) pfss_nil) (pfss_cons (pfs_set 5 sc_law_manner.nd (pf_bin op_addD os_add (pf_v 5) (pf_tup (pfa_cons (pf_ix ix_D os_ix (pf_v 2) (pf_len T.b_len (pfa_cons (pf_v 5) pfa_nil)) (fun _ _ => rfl)) pfa_nil)))) (pfss_cons (pfs_if (pft_cmp op_lt os_lt (pf_len T.b_len (pfa_cons (pf_v 5) pfa_nil)) (pf_len T.b_len (pfa_cons (pf_v 2) pfa_nil)) (nomark _)) (pfss_one (pfs_ret (pf_tup (pfa_cons pf_non (pfa_cons (pf_tup (pfa_cons (pf_v 8) (pfa_cons (pf_v 9) (pfa_cons (pf_v 10) (pfa_cons (pf_v 5) (pfa_cons (pf_v 11) pfa_nil)))))) (pfa_cons pf_non pfa_nil)))))) pfss_nil) (pfss_cons (pfs_set 6 sc_law_manner.nd (pf_callTy call_tuple_of cs_tuple T.b_tuple (by decide +kernel) (pfa_cons (pf_lc [("_law_cell", 12)] sc_law_manner.nd (pfi_seq (pf_v 5)) (fun _ => (pfg_n 12 sc_law_manner.nd)) (fun _ => pfts_nil) (fun _ => (pf_ix ix_D os_ix (pf_v 12) pf_int (fun _ _ => rfl))) (blkOk_by (N := ["_law_kind", "_law_script", "_law_cells", "_law_state", "_law_me", "_law_now", "_law_numbers", "_law_picture", "_law_done", "_law_first", "_law_last", "_law_ready", "_law_cell", "_law_number"]) (sc := defScope s_law_manner) (by decide +kernel))) pfa_nil))) (pfss_cons (pfs_set 7 sc_law_manner.nd pf_non) (pfss_cons (pfs_if (pft_w (pfw_or (pft_cmp (op_eqD (hu64 hr)) os_eq (pf_v 0) pf_str (nomark _)) (pfw_or1 (pft_cmp (op_eqD (hu64 hr)) os_eq (pf_v 6) (pf_v 10) (nomark _))))) (pfss_one (pfs_set 7 sc_law_manner.nd (pf_callTy call_tuple_of cs_tuple T.b_tuple (by decide +kernel) (pfa_cons (pf_lc [("_law_cell", 12)] sc_law_manner.nd (pfi_seq (pf_v 5)) (fun _ => (pfg_n 12 sc_law_manner.nd)) (fun _ => pfts_nil) (fun _ => (pf_sl (pf_v 12) pfo_none (pfo_some pf_int))) (blkOk_by (N := ["_law_kind", "_law_script", "_law_cells", "_law_state", "_law_me", "_law_now", "_law_numbers", "_law_picture", "_law_done", "_law_first", "_law_last", "_law_ready", "_law_cell", "_law_number"]) (sc := defScope s_law_manner) (by decide +kernel))) pfa_nil)))) (pfss_one (pfs_if (pft_w (pfw_and (pft_cmp (op_eqD (hu64 hr)) os_eq (pf_v 0) pf_str (nomark _)) (pfw_and1 (pft_cmp op_notN os_notN (pf_v 9) pf_non (nomark _))))) (pfss_one (pfs_set 7 sc_law_manner.nd (pf_ix ix_D os_ix (pf_bin op_addD os_add (pf_lc [("_law_cell", 12), ("_law_number", 13)] sc_law_manner.nd (pfi_zip T.b_zip (pfa_cons (pf_v 5) (pfa_cons (pf_v 9) pfa_nil))) (fun _ => (pfg_tup rfl (pfgs_cons (pfg_n 12 sc_law_manner.nd) (pfgs_cons (pfg_n 13 sc_law_manner.nd) pfgs_nil)))) (fun _ => (pfts_one (pft_cmp op_ge os_ge (pf_ix ix_D os_ix (pf_v 12) pf_int (fun _ _ => rfl)) (pf_bin op_addD os_add (pf_v 13) pf_int) (nomark _)))) (fun _ => (pf_ix ix_D os_ix (pf_v 12) pf_int (fun _ _ => rfl))) (blkOk_by (N := ["_law_kind", "_law_script", "_law_cells", "_law_state", "_law_me", "_law_now", "_law_numbers", "_law_picture", "_law_done", "_law_first", "_law_last", "_law_ready", "_law_cell", "_law_number"]) (sc := defScope s_law_manner) (by decide +kernel))) (pf_lst (pfa_cons pf_non pfa_nil))) pf_int (fun _ _ => rfl)))) pfss_nil))) (pfss_cons (pfs_if (pft_cmp op_isN os_isN (pf_v 7) pf_non (nomark _)) (pfss_one (pfs_ret (pf_tup (pfa_cons pf_non (pfa_cons (pf_tup (pfa_cons (pf_v 8) (pfa_cons (pf_ifE (pft_cmp op_isN os_isN (pf_v 9) pf_non (nomark _)) (pf_v 6) (pf_v 9)) (pfa_cons (pf_v 6) (pfa_cons (pf_tup pfa_nil) (pfa_cons (pf_v 11) pfa_nil)))))) (pfa_cons pf_non pfa_nil)))))) pfss_nil) (pfss_cons (pfs_if (pft_cmp (op_eqD (hu64 hr)) os_eq (pf_ix ix_D os_ix (pf_ix ix_D os_ix (pf_v 1) (pf_v 8) (fun _ _ => rfl)) pf_int (fun _ _ => rfl)) pf_str (nomark _)) (pfss_one (pfs_ret (pf_tup (pfa_cons pf_non (pfa_cons (pf_call d_law_fresh (hr.mono (by decide)) (pfa_cons (pf_v 1) (pfa_cons (pf_bin op_addD os_add (pf_v 8) pf_int) pfa_nil))) (pfa_cons (pf_v 7) pfa_nil)))))) pfss_nil) (pfss_one (pfs_ret (pf_tup (pfa_cons pf_non (pfa_cons (pf_tup (pfa_cons (pf_v 8) (pfa_cons pf_non (pfa_cons pf_non (pfa_cons (pf_tup pfa_nil) (pfa_cons (pf_v 7) pfa_nil)))))) (pfa_cons pf_non pfa_nil)))))))))))))))
abbrev s_law_behind : Stmt := top 106
theorem sc_law_behind : FnScope ["_law_play", "_law_standing", "_law_me", "_law_cells", "_law_states", "_law_told_here", "_law_state", "_law_kind", "_law_cell", "_law_later", "_law_item"] ["_law_play", "_law_standing", "_law_me"] (defScope s_law_behind) := ⟨rfl, rfl, rfl, by decide +kernel, rfl, by decide +kernel, by decide +kernel⟩
noncomputable def b_law_behind : FS := (sSeq (sAsg (cV 1) (gT 3 (gsC (gN 3) (gsC (gN 4) (gsC (gN 5) gsN))))) (sSeq (sPar 6 7 (cC (cOp ixD (cV 4) (cV 2)) (cC (c1 (fldD "kind") (cV 0)) cN))) (sSeq (sIf (cT (cOp inD (cV 7) (cTup (cC (cD (.str "sweep")) (cC (cD (.str "twice")) (cC (cD (.str "borrow")) cN)))))) (sAsg (cFn 5 f_law_manner (cC (cV 7) (cC (cOp ixD (c1 (fldD "inputs") (cV 0)) (cV 2)) (cC (cV 3) (cC (cV 6) (cC (cV 2) cN)))))) (gT 3 (gsC (gN 8) (gsC (gN 9) (gsC (gN 10) gsN))))) (sIf (cT (cOp eqD (cV 7) (cD (.str "levels")))) (sAsg cDead (gT 3 (gsC (gN 8) (gsC (gN 9) (gsC (gN 10) gsN))))) (sIf (cT (cOp eqD (cV 7) (cD (.str "names")))) (sAsg cDead (gT 3 (gsC (gN 8) (gsC (gN 9) (gsC (gN 10) gsN))))) (sIf (cT (cOp eqD (cV 7) (cD (.str "near")))) (sAsg cDead (gT 3 (gsC (gN 8) (gsC (gN 9) (gsC (gN 10) gsN))))) (sAsg cDead (gT 3 (gsC (gN 8) (gsC (gN 9) (gsC (gN 10) gsN))))))))) (sSeq (sIf (cT (cOp notND (cV 8) (cD .non))) (sAsg (cOp addD (cOp addD (cSl (cV 3) oN (oS (cV 2))) (cTup (cC (cV 8) cN))) (cSl (cV 3) (oS (cOp addD (cV 2) (cD (.int 1)))) oN)) (gN 3)) sNx) (sSeq (sIf (cT (cOp notND (cV 10) (cD .non))) (sAsg (cOp addD (cOp addD (cSl (cV 5) oN (oS (cV 2))) (cTup (cC (cOp addD (cOp ixD (cV 5) (cV 2)) (cTup (cC (cV 10) cN))) cN))) (cSl (cV 5) (oS (cOp addD (cV 2) (cD (.int 1)))) oN)) (gN 5)) sNx) (sRet (cTup (cC (cV 3) (cC (cOp addD (cOp addD (cSl (cV 4) oN (oS (cV 2))) (cTup (cC (cV 9) cN))) (cSl (cV 4) (oS (cOp addD (cV 2) (cD (.int 1)))) oN)) (cC (cV 5) cN))))))))))
noncomputable def f_law_behind : List D → Gh → M D := fun ds g => noX (fnOf 11 b_law_behind ds g)
theorem d_law_behind {P : Program} {w : World} {K : PySem.W.Frag} {mg : Str → Option Value} {base : Heap} (T : Txt P w K mg base) (A : DefAt K mg "_law_behind" s_law_behind ["_law_play", "_law_standing", "_law_me"]) (d_law_manner : DefOk P w K mg base CX0 "_law_manner" 2 5 f_law_manner) : DefOk P w K mg base CX0 "_law_behind" 3 3 f_law_behind :=
  A.ok sc_law_behind rfl (by decide) fun f cdv A outer s H E ah hr => by
    exact (pfss_cons (pfs_asg (pf_v 1) (pfg_tup rfl (pfgs_cons (pfg_n 3 sc_law_behind.nd) (pfgs_cons (pfg_n 4 sc_law_behind.nd) (pfgs_cons (pfg_n 5 sc_law_behind.nd) pfgs_nil))))) (pfss_cons (pfs_par 6 7 rfl sc_law_behind.nd (pfa_cons (pf_ix ix_D os_ix (pf_v 4) (pf_v 2) (fun _ _ => rfl)) (pfa_cons (pf_fld (fun C h => ⟨(T.play C h).cl, T.play_kind C h⟩) (pf_v 0)) pfa_nil))) (pfss_cons (pfs_if (pft_cmp op_in_seq os_in (pf_v 7) (pf_tup (pfa_cons pf_str (pfa_cons pf_str (pfa_cons pf_str pfa_nil)))) rfl) (pfss_one (pfs_asg (pf_call d_law_manner (hr.mono (by decide)) (pfa_cons (pf_v 7) (pfa_cons (pf_ix ix_D os_ix (pf_fld (fun C h => ⟨(T.play C h).cl, T.play_inputs C h⟩) (pf_v 0)) (pf_v 2) (fun _ _ => rfl)) (pfa_cons (pf_v 3) (pfa_cons (pf_v 6) (pfa_cons (pf_v 2) pfa_nil)))))) (pfg_tup rfl (pfgs_cons (pfg_n 8 sc_law_behind.nd) (pfgs_cons (pfg_n 9 sc_law_behind.nd) (pfgs_cons (pfg_n 10 sc_law_behind.nd) pfgs_nil)))))) (pfss_one (pfs_if (pft_cmp (op_eqD (hu64 hr)) os_eq (pf_v 7) pf_str (nomark _)) (pfss_one (pfs_asg pf_deadE (pfg_tup rfl (pfgs_cons (pfg_n 8 sc_law_behind.nd) (pfgs_cons (pfg_n 9 sc_law_behind.nd) (pfgs_cons (pfg_n 10 sc_law_behind.nd) pfgs_nil)))))) (pfss_one (pfs_if (pft_cmp (op_eqD (hu64 hr)) os_eq (pf_v 7) pf_str (nomark _)) (pfss_one (pfs_asg pf_deadE (pfg_tup rfl (pfgs_cons (pfg_n 8 sc_law_behind.nd) (pfgs_cons (pfg_n 9 sc_law_behind.nd) (pfgs_cons (pfg_n 10 sc_law_behind.nd) pfgs_nil)))))) (pfss_one (pfs_if (pft_cmp (op_eqD (hu64 hr)) os_eq (pf_v 7) pf_str (nomark _)) (pfss_one (pfs_asg pf_deadE (pfg_tup rfl (pfgs_cons (pfg_n 8 sc_law_behind.nd) (pfgs_cons (pfg_n 9 sc_law_behind.nd) (pfgs_cons (pfg_n 10 sc_law_behind.nd) pfgs_nil)))))) (pfss_one (pfs_asg pf_deadE (pfg_tup rfl (pfgs_cons (pfg_n 8 sc_law_behind.nd) (pfgs_cons (pfg_n 9 sc_law_behind.nd) (pfgs_cons (pfg_n 10 sc_law_behind.nd) pfgs_nil))))))))))))) (pfss_cons (pfs_if (pft_cmp op_notN os_notN (pf_v 8) pf_non (nomark _)) (pfss_one (pfs_set 3 sc_law_behind.nd (pf_bin op_addD os_add (pf_bin op_addD os_add (pf_sl (pf_v 3) pfo_none (pfo_some (pf_v 2))) (pf_tup (pfa_cons (pf_v 8) pfa_nil))) (pf_sl (pf_v 3) (pfo_some (pf_bin op_addD os_add (pf_v 2) pf_int)) pfo_none)))) pfss_nil) (pfss_cons (pfs_if (pft_cmp op_notN os_notN (pf_v 10) pf_non (nomark _)) (pfss_one (pfs_set 5 sc_law_behind.nd (pf_bin op_addD os_add (pf_bin op_addD os_add (pf_sl (pf_v 5) pfo_none (pfo_some (pf_v 2))) (pf_tup (pfa_cons (pf_bin op_addD os_add (pf_ix ix_D os_ix (pf_v 5) (pf_v 2) (fun _ _ => rfl)) (pf_tup (pfa_cons (pf_v 10) pfa_nil))) pfa_nil))) (pf_sl (pf_v 5) (pfo_some (pf_bin op_addD os_add (pf_v 2) pf_int)) pfo_none)))) pfss_nil) (pfss_one (pfs_ret (pf_tup (pfa_cons (pf_v 3) (pfa_cons (pf_bin op_addD os_add (pf_bin op_addD os_add (pf_sl (pf_v 4) pfo_none (pfo_some (pf_v 2))) (pf_tup (pfa_cons (pf_v 9) pfa_nil))) (pf_sl (pf_v 4) (pfo_some (pf_bin op_addD os_add (pf_v 2) pf_int)) pfo_none)) (pfa_cons (pf_v 5) pfa_nil)))))))))))
abbrev s_law_wrong : Stmt := top 107
theorem sc_law_wrong : FnScope ["_law_play", "_law_weaving", "_law_stood", "_law_begins", "_law_has_lied", "_law_at", "_law_me", "_law_here", "_law_state", "_law_later", "_law_picture", "_law_seen", "_law_one", "_law_cell"] ["_law_play", "_law_weaving"] (defScope s_law_wrong) := ⟨rfl, rfl, rfl, by decide +kernel, rfl, by decide +kernel, by decide +kernel⟩
noncomputable def b_law_wrong : FS := (sSeq (sOwnL 2 (cC (cFn 1 f_law_begun (cC (cV 0) cN)) cN)) (sSeq (sOwnd 3) (sSeq (sAsg (cD (.bl false)) (gN 4)) (sSeq (sFor (iEn (cC (cV 1) cN)) (gT 2 (gsC (gN 5) (gsC (gN 6) gsN))) (sSeq (sAsg (cOIx 2 (c1 negD (cD (.int 1)))) (gN 7)) (sSeq (sIf (cT (cOp isND (cOp ixD (cOp ixD (cV 7) (cD (.int 1))) (cV 6)) (cD .non))) (sRet (cD .non)) sNx) (sSeq (sAsg (cOp ixD (cOp ixD (cV 7) (cD (.int 1))) (cV 6)) (gN 8)) (sSeq (sIf (cAnd (cT (cOp isND (cOp ixD (cV 8) (cD (.int 1))) (cD .non))) (cAnd (cT (cOp eqD (cOp ixD (cV 8) (cD (.int 3))) (cTup cN))) (cT (cOp isND (cOp ixD (cV 8) (cD (.int 4))) (cD .non))))) (sDSet 3 (cV 6) (cV 5)) sNx) (sSeq (sAsg (cFn 3 f_law_behind (cC (cV 0) (cC (cV 7) (cC (cV 6) cN)))) (gN 9)) (sSeq (sApp 2 (cV 9)) (sSeq (sAsg (cD .non) (gN 10)) (sSeq (sIf (cT (cOp gtD (cCall lenD (cC (cOp ixD (cOp ixD (cV 9) (cD (.int 2))) (cV 6)) cN)) (cCall lenD (cC (cOp ixD (cOp ixD (cV 7) (cD (.int 2))) (cV 6)) cN)))) (sAsg (cOp ixD (cOp ixD (cOp ixD (cV 9) (cD (.int 2))) (cV 6)) (c1 negD (cD (.int 1)))) (gN 10)) (sIf (cAnd (cT (cOp notND (cOp ixD (cOp ixD (cV 9) (cD (.int 1))) (cV 6)) (cD .non))) (cAnd (cT (cOp notND (cOp ixD (cOp ixD (cOp ixD (cV 9) (cD (.int 1))) (cV 6)) (cD (.int 4))) (cD .non))) (cT (cOp isND (cOp ixD (cV 8) (cD (.int 4))) (cD .non))))) (sAsg (cOp ixD (cOp ixD (cOp ixD (cV 9) (cD (.int 1))) (cV 6)) (cD (.int 4))) (gN 10)) sNx)) (sIf (cT (cOp notND (cV 10) (cD .non))) (sSeq (sAsg (cLc (iS (cOSl 2 (oS (cDIx 3 (cV 6))) oN)) [12] (gN 12) tY (cCall tupleD (cC (cLc (iS (cOp ixD (cV 12) (cD (.int 0)))) [13] (gN 13) tY (cSl (cV 13) oN (oS (cD (.int 2))))) cN))) (gN 11)) (sAsg (cOrV (cV 4) (cOp niE (cV 10) (cV 11))) (gN 4))) sNx)))))))))) (sRet (cV 4))))))
noncomputable def f_law_wrong : List D → Gh → M D := fun ds g => noX (fnOf 14 b_law_wrong ds g)
theorem d_law_wrong {P : Program} {w : World} {K : PySem.W.Frag} {mg : Str → Option Value} {base : Heap} (T : Txt P w K mg base) (A : DefAt K mg "_law_wrong" s_law_wrong ["_law_play", "_law_weaving"]) (d_law_begun : DefOk P w K mg base CX0 "_law_begun" 2 1 f_law_begun) (d_law_behind : DefOk P w K mg base CX0 "_law_behind" 3 3 f_law_behind) : DefOk P w K mg base CX0 "_law_wrong" 4 2 f_law_wrong :=
  A.ok sc_law_wrong rfl (by decide) fun f cdv A outer s H E ah hr => by
    exact (pfss_cons (pfs_ownL 2 sc_law_wrong.nd (pfa_cons (pf_call d_law_begun (hr.mono (by decide)) (pfa_cons (pf_v 0) pfa_nil)) pfa_nil)) (pfss_cons (pfs_ownd 3 sc_law_wrong.nd) (pfss_cons (pfs_set 4 sc_law_wrong.nd pf_bl) (pfss_cons (pfs_for PassesOwn.never rfl (pfi_enum T.b_enumerate (pfa_cons (pf_v 1) pfa_nil)) (pfg_tup rfl (pfgs_cons (pfg_n 5 sc_law_wrong.nd) (pfgs_cons (pfg_n 6 sc_law_wrong.nd) pfgs_nil))) (pfss_cons (pfs_set 7 sc_law_wrong.nd (pf_oix 2 (pf_neg pf_int) (fun _ _ => rfl))) (pfss_cons (pfs_if (pft_cmp op_isN os_isN (pf_ix ix_D os_ix (pf_ix ix_D os_ix (pf_v 7) pf_int (fun _ _ => rfl)) (pf_v 6) (fun _ _ => rfl)) pf_non (nomark _)) (pfss_one (pfs_ret pf_non)) pfss_nil) (pfss_cons (pfs_set 8 sc_law_wrong.nd (pf_ix ix_D os_ix (pf_ix ix_D os_ix (pf_v 7) pf_int (fun _ _ => rfl)) (pf_v 6) (fun _ _ => rfl))) (pfss_cons (pfs_if (pft_w (pfw_and (pft_cmp op_isN os_isN (pf_ix ix_D os_ix (pf_v 8) pf_int (fun _ _ => rfl)) pf_non (nomark _)) (pfw_and (pft_cmp (op_eqD (hu64 hr)) os_eq (pf_ix ix_D os_ix (pf_v 8) pf_int (fun _ _ => rfl)) (pf_tup pfa_nil) (nomark _)) (pfw_and1 (pft_cmp op_isN os_isN (pf_ix ix_D os_ix (pf_v 8) pf_int (fun _ _ => rfl)) pf_non (nomark _)))))) (pfss_one (pfs_dset 3 (hu64 hr) (pf_v 6) (pf_v 5))) pfss_nil) (pfss_cons (pfs_set 9 sc_law_wrong.nd (pf_call d_law_behind (hr.mono (by decide)) (pfa_cons (pf_v 0) (pfa_cons (pf_v 7) (pfa_cons (pf_v 6) pfa_nil))))) (pfss_cons (pfs_app 2 (pf_v 9)) (pfss_cons (pfs_set 10 sc_law_wrong.nd pf_non) (pfss_cons (pfs_if (pft_cmp op_gt os_gt (pf_len T.b_len (pfa_cons (pf_ix ix_D os_ix (pf_ix ix_D os_ix (pf_v 9) pf_int (fun _ _ => rfl)) (pf_v 6) (fun _ _ => rfl)) pfa_nil)) (pf_len T.b_len (pfa_cons (pf_ix ix_D os_ix (pf_ix ix_D os_ix (pf_v 7) pf_int (fun _ _ => rfl)) (pf_v 6) (fun _ _ => rfl)) pfa_nil)) (nomark _)) (pfss_one (pfs_set 10 sc_law_wrong.nd (pf_ix ix_D os_ix (pf_ix ix_D os_ix (pf_ix ix_D os_ix (pf_v 9) pf_int (fun _ _ => rfl)) (pf_v 6) (fun _ _ => rfl)) (pf_neg pf_int) (fun _ _ => rfl)))) (pfss_one (pfs_if (pft_w (pfw_and (pft_cmp op_notN os_notN (pf_ix ix_D os_ix (pf_ix ix_D os_ix (pf_v 9) pf_int (fun _ _ => rfl)) (pf_v 6) (fun _ _ => rfl)) pf_non (nomark _)) (pfw_and (pft_cmp op_notN os_notN (pf_ix ix_D os_ix (pf_ix ix_D os_ix (pf_ix ix_D os_ix (pf_v 9) pf_int (fun _ _ => rfl)) (pf_v 6) (fun _ _ => rfl)) pf_int (fun _ _ => rfl)) pf_non (nomark _)) (pfw_and1 (pft_cmp op_isN os_isN (pf_ix ix_D os_ix (pf_v 8) pf_int (fun _ _ => rfl)) pf_non (nomark _)))))) (pfss_one (pfs_set 10 sc_law_wrong.nd (pf_ix ix_D os_ix (pf_ix ix_D os_ix (pf_ix ix_D os_ix (pf_v 9) pf_int (fun _ _ => rfl)) (pf_v 6) (fun _ _ => rfl)) pf_int (fun _ _ => rfl)))) pfss_nil))) (pfss_one (pfs_if (pft_cmp op_notN os_notN (pf_v 10) pf_non (nomark _)) (pfss_cons (pfs_lc 11 [("_law_one", 12)] sc_law_wrong.nd (pfi_seq (pf_osl 2 (pfo_some (pf_dix 3 (hu64 hr) (pf_v 6) (fun _ _ => rfl))) pfo_none)) (fun _ => (pfg_n 12 sc_law_wrong.nd)) (fun _ => pfts_nil) (fun _ => (pf_callTy call_tuple_of cs_tuple T.b_tuple (by decide +kernel) (pfa_cons (pf_lc [("_law_cell", 13)] sc_law_wrong.nd (pfi_seq (pf_ix ix_D os_ix (pf_v 12) pf_int (fun _ _ => rfl))) (fun _ => (pfg_n 13 sc_law_wrong.nd)) (fun _ => pfts_nil) (fun _ => (pf_sl (pf_v 13) pfo_none (pfo_some pf_int))) (by exact blkOk_by (by rfl))) pfa_nil))) (blkOk_by (N := ["_law_play", "_law_weaving", "_law_stood", "_law_begins", "_law_has_lied", "_law_at", "_law_me", "_law_here", "_law_state", "_law_later", "_law_picture", "_law_seen", "_law_one", "_law_cell"]) (sc := defScope s_law_wrong) (by decide +kernel)) (sw_true rfl rfl rfl (by decide +kernel))) (pfss_one (pfs_set 4 sc_law_wrong.nd (pf_or (pf_v 4) (pf_one (pf_cmp (op_notInD (hu65 hr)) os_niE (pf_v 10) (pf_v 11) rfl)))))) pfss_nil))))))))))) (pfss_one (pfs_ret (pf_v 4)))))))
abbrev s_law_hand : Stmt := top 108
theorem sc_law_hand : FnScope ["_law_script", "_law_cells", "_law_cell"] ["_law_script"] (defScope s_law_hand) := ⟨rfl, rfl, rfl, by decide +kernel, rfl, by decide +kernel, by decide +kernel⟩
noncomputable def b_law_hand : FS := (sSeq (sAsg (cLc (iS (cSl (cV 0) oN (oS (cD (.int 63))))) [2] (gN 2) tY (cCall absD (cC (cCall intOf (cC (cV 2) cN)) cN))) (gN 1)) (sRet (cLst (cC (cV 1) (cC (cD (.int 0)) (cC (cD (.int 0)) (cC (cOp addD (cD (.int 1)) (cCall lenD (cC (cV 1) cN))) (cC (cD (.int 0)) cN))))))))
noncomputable def f_law_hand : List D → Gh → M D := fun ds g => noX (fnOf 3 b_law_hand ds g)
theorem d_law_hand {P : Program} {w : World} {K : PySem.W.Frag} {mg : Str → Option Value} {base : Heap} (T : Txt P w K mg base) (A : DefAt K mg "_law_hand" s_law_hand ["_law_script"])  : DefOk P w K mg base CX0 "_law_hand" 1 1 f_law_hand :=
  A.ok sc_law_hand rfl (by decide) fun f cdv A outer s H E ah hr => by
    exact (pfss_cons (pfs_lc 1 [("_law_cell", 2)] sc_law_hand.nd (pfi_seq (pf_sl (pf_v 0) pfo_none (pfo_some pf_int))) (fun _ => (pfg_n 2 sc_law_hand.nd)) (fun _ => pfts_nil) (fun _ => (pf_callB call_abs cs_abs T.b_abs (by decide +kernel) (pfa_cons (pf_callTy call_int1 cs_int T.b_int (by decide +kernel) (pfa_cons (pf_v 2) pfa_nil)) pfa_nil))) (blkOk_by (N := ["_law_script", "_law_cells", "_law_cell"]) (sc := defScope s_law_hand) (by decide +kernel)) (sw_true rfl rfl rfl (by decide +kernel))) (pfss_one (pfs_ret (pf_lst (pfa_cons (pf_v 1) (pfa_cons pf_int (pfa_cons pf_int (pfa_cons (pf_bin op_addD os_add pf_int (pf_len T.b_len (pfa_cons (pf_v 1) pfa_nil))) (pfa_cons pf_int pfa_nil)))))))))
abbrev s_law_draw : Stmt := top 109
theorem sc_law_draw : FnScope ["_law_hand_here", "_law_many", "_law_number", "_law_cell", "_law_digit"] ["_law_hand_here", "_law_many"] (defScope s_law_draw) := ⟨rfl, rfl, rfl, by decide +kernel, rfl, by decide +kernel, by decide +kernel⟩
noncomputable def b_law_draw : FS := (sSeq (sIf (cAnd (cT (cOp eqD (cH 0 2) (cD (.int 0)))) (cT (cOp ltD (cH 0 1) (cCall lenD (cC (cH 0 0) cN))))) (sSeq (sAsg (cOp ixD (cH 0 0) (cH 0 1)) (gN 3)) (sSeq (sH 0 1 (cOp addD (cH 0 1) (cD (.int 1)))) (sSeq (sH 0 3 (cOp modD (cCall intOf (cC (cOp addD (cOp addD (cOp mulD (cH 0 3) (cD (.int 69621))) (cV 3)) (cD (.int 11))) cN)) (cD (.int 2147483629)))) (sIf (cT (cOp geD (cV 3) (cOp powD (cD (.int 10)) (cD (.int 18))))) (sH 0 2 (cV 3)) sNx)))) sNx) (sSeq (sIf (cT (cOp gtD (cH 0 2) (cD (.int 0)))) (sSeq (sAsg (cOp modD (cCall intOf (cC (cH 0 2) cN)) (cV 1)) (gN 4)) (sSeq (sH 0 2 (cOp divD (cH 0 2) (cV 1))) (sRet (cV 4)))) sNx) (sSeq (sH 0 4 (cOp addD (cH 0 4) (cD (.int 1)))) (sSeq (sAsg (cOp modD (cCall intOf (cC (cOp mulD (cCall intOf (cC (cOp addD (cH 0 3) (cOp mulD (cD (.int 7919)) (cH 0 4))) cN)) (cD (.int 48271))) cN)) (cD (.int 2147483647))) (gN 2)) (sSeq (sAsg (cOp modD (cCall intOf (cC (cOp mulD (cV 2) (cOp addD (cOp divD (cV 2) (cD (.int 1009))) (cD (.int 69621)))) cN)) (cD (.int 2147483647))) (gN 2)) (sSeq (sAsg (cOp modD (cCall intOf (cC (cOp mulD (cV 2) (cOp addD (cOp divD (cV 2) (cD (.int 2003))) (cD (.int 40692)))) cN)) (cD (.int 2147483399))) (gN 2)) (sRet (cOp modD (cCall intOf (cC (cOp divD (cV 2) (cD (.int 16))) cN)) (cV 1)))))))))
noncomputable def f_law_draw : List D → Gh → M D := fun ds g => noX (fnOf 5 b_law_draw ds g)
theorem d_law_draw {P : Program} {w : World} {K : PySem.W.Frag} {mg : Str → Option Value} {base : Heap} (T : Txt P w K mg base) (A : DefAt K mg "_law_draw" s_law_draw ["_law_hand_here", "_law_many"])  : DefOk P w K mg base CX0 "_law_draw" 1 2 f_law_draw :=
  A.ok sc_law_draw rfl (by decide) fun f cdv A outer s H E ah hr => by
    exact (pfss_cons (pfs_if (pft_w (pfw_and (pft_cmp (op_eqD (hu64 hr)) os_eq (pf_h 0) pf_int (nomark _)) (pfw_and1 (pft_cmp op_lt os_lt (pf_h 0) (pf_len T.b_len (pfa_cons (pf_h 0) pfa_nil)) (nomark _))))) (pfss_cons (pfs_set 3 sc_law_draw.nd (pf_ix ix_D os_ix (pf_h 0) (pf_h 0) (fun _ _ => rfl))) (pfss_cons (pfs_h 0 (pf_bin op_addD os_add (pf_h 0) pf_int)) (pfss_cons (pfs_h 0 (pf_bin op_modN os_mod (pf_callTy call_int1 cs_int T.b_int (by decide +kernel) (pfa_cons (pf_bin op_addD os_add (pf_bin op_addD os_add (pf_bin op_mulD os_mul (pf_h 0) pf_int) (pf_v 3)) pf_int) pfa_nil)) pf_int)) (pfss_one (pfs_if (pft_cmp op_ge os_ge (pf_v 3) (pf_bin op_pow os_pow pf_int pf_int) (nomark _)) (pfss_one (pfs_h 0 (pf_v 3))) pfss_nil))))) pfss_nil) (pfss_cons (pfs_if (pft_cmp op_gt os_gt (pf_h 0) pf_int (nomark _)) (pfss_cons (pfs_set 4 sc_law_draw.nd (pf_bin op_modN os_mod (pf_callTy call_int1 cs_int T.b_int (by decide +kernel) (pfa_cons (pf_h 0) pfa_nil)) (pf_v 1))) (pfss_cons (pfs_h 0 (pf_bin op_fdivN os_div (pf_h 0) (pf_v 1))) (pfss_one (pfs_ret (pf_v 4))))) pfss_nil) (pfss_cons (pfs_h 0 (pf_bin op_addD os_add (pf_h 0) pf_int)) (pfss_cons (pfs_set 2 sc_law_draw.nd (pf_bin op_modN os_mod (pf_callTy call_int1 cs_int T.b_int (by decide +kernel) (pfa_cons (pf_bin op_mulD os_mul (pf_callTy call_int1 cs_int T.b_int (by decide +kernel) (pfa_cons (pf_bin op_addD os_add (pf_h 0) (pf_bin op_mulD os_mul pf_int (pf_h 0))) pfa_nil)) pf_int) pfa_nil)) pf_int)) (pfss_cons (pfs_set 2 sc_law_draw.nd (pf_bin op_modN os_mod (pf_callTy call_int1 cs_int T.b_int (by decide +kernel) (pfa_cons (pf_bin op_mulD os_mul (pf_v 2) (pf_bin op_addD os_add (pf_bin op_fdivN os_div (pf_v 2) pf_int) pf_int)) pfa_nil)) pf_int)) (pfss_cons (pfs_set 2 sc_law_draw.nd (pf_bin op_modN os_mod (pf_callTy call_int1 cs_int T.b_int (by decide +kernel) (pfa_cons (pf_bin op_mulD os_mul (pf_v 2) (pf_bin op_addD os_add (pf_bin op_fdivN os_div (pf_v 2) pf_int) pf_int)) pfa_nil)) pf_int)) (pfss_one (pfs_ret (pf_bin op_modN os_mod (pf_callTy call_int1 cs_int T.b_int (by decide +kernel) (pfa_cons (pf_bin op_fdivN os_div (pf_v 2) pf_int) pfa_nil)) (pf_v 1))))))))))
abbrev s_law_movers : Stmt := top 110
theorem sc_law_movers : FnScope ["_law_standing", "_law_me", "_law_state"] ["_law_standing"] (defScope s_law_movers) := ⟨rfl, rfl, rfl, by decide +kernel, rfl, by decide +kernel, by decide +kernel⟩
noncomputable def b_law_movers : FS := (sRet (cLc (iEn (cC (cOp ixD (cV 0) (cD (.int 1))) cN)) [1, 2] (gT 2 (gsC (gN 1) (gsC (gN 2) gsN))) (cT (cOp notND (cV 2) (cD .non))) (cV 1)))
noncomputable def f_law_movers : List D → Gh → M D := fun ds g => noX (fnOf 3 b_law_movers ds g)
theorem d_law_movers {P : Program} {w : World} {K : PySem.W.Frag} {mg : Str → Option Value} {base : Heap} (T : Txt P w K mg base) (A : DefAt K mg "_law_movers" s_law_movers ["_law_standing"])  : DefOk P w K mg base CX0 "_law_movers" 1 1 f_law_movers :=
  A.ok sc_law_movers rfl (by decide) fun f cdv A outer s H E ah hr => by
    exact (pfss_one (pfs_ret (pf_lc [("_law_me", 1), ("_law_state", 2)] sc_law_movers.nd (pfi_enum T.b_enumerate (pfa_cons (pf_ix ix_D os_ix (pf_v 0) pf_int (fun _ _ => rfl)) pfa_nil)) (fun _ => (pfg_tup rfl (pfgs_cons (pfg_n 1 sc_law_movers.nd) (pfgs_cons (pfg_n 2 sc_law_movers.nd) pfgs_nil)))) (fun _ => (pfts_one (pft_cmp op_notN os_notN (pf_v 2) pf_non (nomark _)))) (fun _ => (pf_v 1)) (blkOk_by (N := ["_law_standing", "_law_me", "_law_state"]) (sc := defScope s_law_movers) (by decide +kernel)))))
abbrev s_law_some_weaving : Stmt := top 111
theorem sc_law_some_weaving : FnScope ["_law_hand_here", "_law_play", "_law_most", "_law_here", "_law_found", "_law_turn", "_law_some", "_law_me"] ["_law_hand_here", "_law_play", "_law_most"] (defScope s_law_some_weaving) := ⟨rfl, rfl, rfl, by decide +kernel, rfl, by decide +kernel, by decide +kernel⟩
noncomputable def b_law_some_weaving : FS := (sSeq (sAsg (cFn 1 f_law_begun (cC (cV 1) cN)) (gN 3)) (sSeq (sOwn 4) (sSeq (sFor (iR1 (cC (cV 2) cN)) (gN 5) (sSeq (sAsg (cFn 1 f_law_movers (cC (cV 3) cN)) (gN 6)) (sIf (cT (cOp gtD (cCall lenD (cC (cV 6) cN)) (cD (.int 0)))) (sSeq (sAsg (cOp ixD (cV 6) (cFn 2 f_law_draw (cC (cV 0) (cC (cCall lenD (cC (cV 6) cN)) cN)))) (gN 7)) (sSeq (sAsg (cFn 3 f_law_behind (cC (cV 1) (cC (cV 3) (cC (cV 7) cN)))) (gN 3)) (sApp 4 (cV 7)))) sNx))) (sFrz 4 (sRet (cV 4))))))
noncomputable def f_law_some_weaving : List D → Gh → M D := fun ds g => noX (fnOf 8 b_law_some_weaving ds g)
theorem d_law_some_weaving {P : Program} {w : World} {K : PySem.W.Frag} {mg : Str → Option Value} {base : Heap} (T : Txt P w K mg base) (A : DefAt K mg "_law_some_weaving" s_law_some_weaving ["_law_hand_here", "_law_play", "_law_most"]) (d_law_begun : DefOk P w K mg base CX0 "_law_begun" 2 1 f_law_begun) (d_law_movers : DefOk P w K mg base CX0 "_law_movers" 1 1 f_law_movers) (d_law_draw : DefOk P w K mg base CX0 "_law_draw" 1 2 f_law_draw) (d_law_behind : DefOk P w K mg base CX0 "_law_behind" 3 3 f_law_behind) : DefOk P w K mg base CX0 "_law_some_weaving" 4 3 f_law_some_weaving :=
  A.ok sc_law_some_weaving rfl (by decide) fun f cdv A outer s H E ah hr => by
    exact (pfss_cons (pfs_set 3 sc_law_some_weaving.nd (pf_call d_law_begun (hr.mono (by decide)) (pfa_cons (pf_v 1) pfa_nil))) (pfss_cons (pfs_own0 4 sc_law_some_weaving.nd) (pfss_cons (pfs_for PassesOwn.never rfl (pfi_rng1 T.b_range (pfa_cons (pf_v 2) pfa_nil)) (pfg_n 5 sc_law_some_weaving.nd) (pfss_cons (pfs_set 6 sc_law_some_weaving.nd (pf_call d_law_movers (hr.mono (by decide)) (pfa_cons (pf_v 3) pfa_nil))) (pfss_one (pfs_if (pft_cmp op_gt os_gt (pf_len T.b_len (pfa_cons (pf_v 6) pfa_nil)) pf_int (nomark _)) (pfss_cons (pfs_set 7 sc_law_some_weaving.nd (pf_ix ix_D os_ix (pf_v 6) (pf_call d_law_draw (hr.mono (by decide)) (pfa_cons (pf_v 0) (pfa_cons (pf_len T.b_len (pfa_cons (pf_v 6) pfa_nil)) pfa_nil))) (fun _ _ => rfl))) (pfss_cons (pfs_set 3 sc_law_some_weaving.nd (pf_call d_law_behind (hr.mono (by decide)) (pfa_cons (pf_v 1) (pfa_cons (pf_v 3) (pfa_cons (pf_v 7) pfa_nil))))) (pfss_one (pfs_app 4 (pf_v 7))))) pfss_nil)))) (pfss_frz 4 (pfss_one (pfs_ret (pf_v 4)))))))
abbrev s_law_flag : Stmt := top 112
theorem sc_law_flag : FnScope ["_law_told_here", "_law_due"] ["_law_told_here", "_law_due"] (defScope s_law_flag) := ⟨rfl, rfl, rfl, by decide +kernel, rfl, by decide +kernel, by decide +kernel⟩
noncomputable def b_law_flag : FS := (sRet (cAndV (cIs "bool" (cV 0)) (cOp eqD (cV 0) (cV 1))))
noncomputable def f_law_flag : List D → Gh → M D := fun ds g => noX (fnOf 2 b_law_flag ds g)
theorem d_law_flag {P : Program} {w : World} {K : PySem.W.Frag} {mg : Str → Option Value} {base : Heap} (T : Txt P w K mg base) (A : DefAt K mg "_law_flag" s_law_flag ["_law_told_here", "_law_due"])  : DefOk P w K mg base CX0 "_law_flag" 1 2 f_law_flag :=
  A.ok sc_law_flag rfl (by decide) fun f cdv A outer s H E ah hr => by
    exact (pfss_one (pfs_ret (pf_and (pf_is (t := "bool") (by simp) T.play T.b_isinstance T.b_bool (by decide +kernel) (pf_v 0)) (pf_one (pf_cmp (op_eqD (hu64 hr)) os_eq (pf_v 0) (pf_v 1) (nomark _))))))
abbrev s_law_is : Stmt := top 113
theorem sc_law_is : FnScope ["_law_told_here", "_law_due", "_law_one", "_law_two"] ["_law_told_here", "_law_due"] (defScope s_law_is) := ⟨rfl, rfl, rfl, by decide +kernel, rfl, by decide +kernel, by decide +kernel⟩
noncomputable def b_law_is (f_REC : List D → Gh → M D) : FS := (sSeq (sIf (cT (c1 (isTTD "tuple" "list") (cV 1))) (sSeq (sIf (cOr (cT (cOp neD (cIs "tuple" (cV 0)) (cIs "tuple" (cV 1)))) (cNot (cT (c1 (isTTD "tuple" "list") (cV 0))))) (sRet (cD (.bl false))) sNx) (sRet (cAndV (cOp eqD (cCall lenD (cC (cV 0) cN)) (cCall lenD (cC (cV 1) cN))) (cCall allD (cC (cLc (iZ (cC (cV 0) (cC (cV 1) cN))) [2, 3] (gT 2 (gsC (gN 2) (gsC (gN 3) gsN))) tY (cFn 2 f_REC (cC (cV 2) (cC (cV 3) cN)))) cN))))) sNx) (sRet (cAndV (cOp eqD (cIs "bool" (cV 0)) (cIs "bool" (cV 1))) (cOp eqD (cV 0) (cV 1)))))
noncomputable def f_law_is_at : Nat → List D → Gh → M D
  | 0 => fun _ _ => none
  | n + 1 => fun ds g => noX (fnOf 4 (b_law_is (f_law_is_at n)) ds g)
theorem d_law_is_step {P : Program} {w : World} {K : PySem.W.Frag} {mg : Str → Option Value} {base : Heap} {m k : Nat} (hk : 0 ≤ k) (T : Txt P w K mg base) (A : DefAt K mg "_law_is" s_law_is ["_law_told_here", "_law_due"])  (d_REC : DefOk P w K mg base CX0 "_law_is" k 2 (f_law_is_at m)) : DefOk P w K mg base CX0 "_law_is" (k + 1) 2 (f_law_is_at (m + 1)) :=
  A.ok sc_law_is rfl (by decide) fun f cdv A outer s H E ah hr => by
    exact (pfss_cons (pfs_if (pft_val (pf_isT (t := "tuple") (u := "list") (by simp) (by simp) T.play T.b_isinstance T.b_tuple T.b_list (by decide +kernel) (by decide +kernel) (pf_v 1))) (pfss_cons (pfs_if (pft_w (pfw_or (pft_cmp (op_neD (hu64 hr)) os_ne (pf_is (t := "tuple") (by simp) T.play T.b_isinstance T.b_tuple (by decide +kernel) (pf_v 0)) (pf_is (t := "tuple") (by simp) T.play T.b_isinstance T.b_tuple (by decide +kernel) (pf_v 1)) (nomark _)) (pfw_or1 (pft_not (pft_val (pf_isT (t := "tuple") (u := "list") (by simp) (by simp) T.play T.b_isinstance T.b_tuple T.b_list (by decide +kernel) (by decide +kernel) (pf_v 0))))))) (pfss_one (pfs_ret pf_bl)) pfss_nil) (pfss_one (pfs_ret (pf_and (pf_cmp (op_eqD (hu64 hr)) os_eq (pf_len T.b_len (pfa_cons (pf_v 0) pfa_nil)) (pf_len T.b_len (pfa_cons (pf_v 1) pfa_nil)) (nomark _)) (pf_one (pf_callB (cr_all rfl) cs_all T.b_all (by decide +kernel) (pfa_cons (pf_lc [("_law_one", 2), ("_law_two", 3)] sc_law_is.nd (pfi_zip T.b_zip (pfa_cons (pf_v 0) (pfa_cons (pf_v 1) pfa_nil))) (fun _ => (pfg_tup rfl (pfgs_cons (pfg_n 2 sc_law_is.nd) (pfgs_cons (pfg_n 3 sc_law_is.nd) pfgs_nil)))) (fun _ => pfts_nil) (fun _ => (pf_call d_REC (hr.mono (by omega)) (pfa_cons (pf_v 2) (pfa_cons (pf_v 3) pfa_nil)))) (blkOk_by (N := ["_law_told_here", "_law_due", "_law_one", "_law_two"]) (sc := defScope s_law_is) (by decide +kernel))) pfa_nil))))))) pfss_nil) (pfss_one (pfs_ret (pf_and (pf_cmp (op_eqD (hu64 hr)) os_eq (pf_is (t := "bool") (by simp) T.play T.b_isinstance T.b_bool (by decide +kernel) (pf_v 0)) (pf_is (t := "bool") (by simp) T.play T.b_isinstance T.b_bool (by decide +kernel) (pf_v 1)) (nomark _)) (pf_one (pf_cmp (op_eqD (hu64 hr)) os_eq (pf_v 0) (pf_v 1) (nomark _)))))))
noncomputable def f_law_is : List D → Gh → M D := f_law_is_at 45
theorem d_law_is_all {P : Program} {w : World} {K : PySem.W.Frag} {mg : Str → Option Value} {base : Heap} (T : Txt P w K mg base) (A : DefAt K mg "_law_is" s_law_is ["_law_told_here", "_law_due"])  : ∀ m, DefOk P w K mg base CX0 "_law_is" (0 + m) 2 (f_law_is_at m)
  | 0 => by
    obtain ⟨f, fd, F, hm, hb⟩ := A
    exact ⟨f, fd, _, ⟨fun vs H Q E ⟨ah, S, g, ds, hl, R, hv, G⟩ => G.elim, fun A outer s H args us vs Q E hr h1 h2 h3 ⟨ah, S, g, ds, hl, R, hv, G⟩ => G.elim⟩, hm, F.kp, hb⟩
  | m + 1 => d_law_is_step (k := 0 + m) (by omega) T A  (d_law_is_all T A  m)
theorem d_law_is {P : Program} {w : World} {K : PySem.W.Frag} {mg : Str → Option Value} {base : Heap} (T : Txt P w K mg base) (A : DefAt K mg "_law_is" s_law_is ["_law_told_here", "_law_due"])  : DefOk P w K mg base CX0 "_law_is" 45 2 f_law_is := d_law_is_all T A  45
abbrev s_law_shrunk : Stmt := top 114
theorem sc_law_shrunk : FnScope ["_law_play", "_law_weaving", "_law_here", "_law_turn", "_law_some", "_law_at"] ["_law_play", "_law_weaving"] (defScope s_law_shrunk) := ⟨rfl, rfl, rfl, by decide +kernel, rfl, by decide +kernel, by decide +kernel⟩
noncomputable def b_law_shrunk : FS := (sSeq (sAsg (cCall tupleD (cC (cV 1) cN)) (gN 2)) (sSeq (sFor (iR1 (cC (cCall lenD (cC (cV 1) cN)) cN)) (gN 3) (sSeq (sAsg (cLc (iR1 (cC (cCall lenD (cC (cV 2) cN)) cN)) [5] (gN 5) (cT (cOp isBlD (cFn 2 f_law_wrong (cC (cV 0) (cC (cOp addD (cSl (cV 2) oN (oS (cV 5))) (cSl (cV 2) (oS (cOp addD (cV 5) (cD (.int 1)))) oN)) cN))) (cD (.bl true)))) (cV 5)) (gN 4)) (sSeq (sIf (cT (cOp eqD (cCall lenD (cC (cV 4) cN)) (cD (.int 0)))) (sRet (cV 2)) sNx) (sAsg (cOp addD (cSl (cV 2) oN (oS (cOp ixD (cV 4) (cD (.int 0))))) (cSl (cV 2) (oS (cOp addD (cOp ixD (cV 4) (cD (.int 0))) (cD (.int 1)))) oN)) (gN 2))))) (sRet (cV 2))))
noncomputable def f_law_shrunk : List D → Gh → M D := fun ds g => noX (fnOf 6 b_law_shrunk ds g)
theorem d_law_shrunk {P : Program} {w : World} {K : PySem.W.Frag} {mg : Str → Option Value} {base : Heap} (T : Txt P w K mg base) (A : DefAt K mg "_law_shrunk" s_law_shrunk ["_law_play", "_law_weaving"]) (d_law_wrong : DefOk P w K mg base CX0 "_law_wrong" 4 2 f_law_wrong) : DefOk P w K mg base CX0 "_law_shrunk" 5 2 f_law_shrunk :=
  A.ok sc_law_shrunk rfl (by decide) fun f cdv A outer s H E ah hr => by
    exact (pfss_cons (pfs_set 2 sc_law_shrunk.nd (pf_callTy call_tuple_of cs_tuple T.b_tuple (by decide +kernel) (pfa_cons (pf_v 1) pfa_nil))) (pfss_cons (pfs_for PassesOwn.never rfl (pfi_rng1 T.b_range (pfa_cons (pf_len T.b_len (pfa_cons (pf_v 1) pfa_nil)) pfa_nil)) (pfg_n 3 sc_law_shrunk.nd) (pfss_cons (pfs_lc 4 [("_law_at", 5)] sc_law_shrunk.nd (pfi_rng1 T.b_range (pfa_cons (pf_len T.b_len (pfa_cons (pf_v 2) pfa_nil)) pfa_nil)) (fun _ => (pfg_n 5 sc_law_shrunk.nd)) (fun _ => (pfts_one (pft_cmp op_isBlA os_isBl (pf_call d_law_wrong (hr.mono (by decide)) (pfa_cons (pf_v 0) (pfa_cons (pf_bin op_addD os_add (pf_sl (pf_v 2) pfo_none (pfo_some (pf_v 5))) (pf_sl (pf_v 2) (pfo_some (pf_bin op_addD os_add (pf_v 5) pf_int)) pfo_none)) pfa_nil))) pf_bl (nomark _)))) (fun _ => (pf_v 5)) (blkOk_by (N := ["_law_play", "_law_weaving", "_law_here", "_law_turn", "_law_some", "_law_at"]) (sc := defScope s_law_shrunk) (by decide +kernel)) (sw_true rfl rfl rfl (by decide +kernel))) (pfss_cons (pfs_if (pft_cmp (op_eqD (hu64 hr)) os_eq (pf_len T.b_len (pfa_cons (pf_v 4) pfa_nil)) pf_int (nomark _)) (pfss_one (pfs_ret (pf_v 2))) pfss_nil) (pfss_one (pfs_set 2 sc_law_shrunk.nd (pf_bin op_addD os_add (pf_sl (pf_v 2) pfo_none (pfo_some (pf_ix ix_D os_ix (pf_v 4) pf_int (fun _ _ => rfl)))) (pf_sl (pf_v 2) (pfo_some (pf_bin op_addD os_add (pf_ix ix_D os_ix (pf_v 4) pf_int (fun _ _ => rfl)) pf_int)) pfo_none))))))) (pfss_one (pfs_ret (pf_v 2)))))
abbrev s_is_wrong_weaving : Stmt := top 97
theorem sc_is_wrong_weaving : FnScope ["play", "thing"] ["play", "thing"] (defScope s_is_wrong_weaving) := ⟨rfl, rfl, rfl, by decide +kernel, rfl, by decide +kernel, by decide +kernel⟩
noncomputable def b_is_wrong_weaving : FS := (sTryC (sRet (cFnX 2 f_is_wrong (cC (cV 0) (cC (cV 1) cN)))) "NoWeaving" false)
noncomputable def f_is_wrong_weaving : List D → Gh → M D := fun ds g => noX (fnOf 2 b_is_wrong_weaving ds g)
theorem d_is_wrong_weaving {P : Program} {w : World} {K : PySem.W.Frag} {mg : Str → Option Value} {base : Heap} (T : Txt P w K mg base) (A : DefAt K mg "is_wrong_weaving" s_is_wrong_weaving ["play", "thing"]) (d_is_wrong : DefOk P w K mg base (L2.CX P w) "is_wrong" 11 2 f_is_wrong) : DefOk P w K mg base CX0 "is_wrong_weaving" 12 2 f_is_wrong_weaving :=
  A.ok sc_is_wrong_weaving rfl (by decide) fun f cdv A outer s H E ah hr => by
    exact (pfss_one (pfs_tryC T.x_NoWeaving (fun W pn xe tk hp => (pfws_one (pfw_ret (pf_callX tk d_is_wrong (hr.mono (by decide)) (pfa_cons (pf_v 0) (pfa_cons (pf_v 1) pfa_nil))))))))
abbrev s_first_shorter : Stmt := top 96
theorem sc_first_shorter : FnScope ["play", "weaving", "index", "shorter"] ["play", "weaving"] (defScope s_first_shorter) := ⟨rfl, rfl, rfl, by decide +kernel, rfl, by decide +kernel, by decide +kernel⟩
noncomputable def b_first_shorter : FS := (sSeq (sFor (iR1 (cC (cCall lenD (cC (cV 1) cN)) cN)) (gN 2) (sSeq (sAsg (cOp addD (cSl (cV 1) oN (oS (cV 2))) (cSl (cV 1) (oS (cOp addD (cV 2) (cD (.int 1)))) oN)) (gN 3)) (sIf (cT (cFn 2 f_is_wrong_weaving (cC (cV 0) (cC (cV 3) cN)))) (sRet (cV 3)) sNx))) (sRet (cD .non)))
noncomputable def f_first_shorter : List D → Gh → M D := fun ds g => noX (fnOf 4 b_first_shorter ds g)
theorem d_first_shorter {P : Program} {w : World} {K : PySem.W.Frag} {mg : Str → Option Value} {base : Heap} (T : Txt P w K mg base) (A : DefAt K mg "first_shorter" s_first_shorter ["play", "weaving"]) (d_is_wrong_weaving : DefOk P w K mg base CX0 "is_wrong_weaving" 12 2 f_is_wrong_weaving) : DefOk P w K mg base CX0 "first_shorter" 13 2 f_first_shorter :=
  A.ok sc_first_shorter rfl (by decide) fun f cdv A outer s H E ah hr => by
    exact (pfss_cons (pfs_for PassesOwn.never rfl (pfi_rng1 T.b_range (pfa_cons (pf_len T.b_len (pfa_cons (pf_v 1) pfa_nil)) pfa_nil)) (pfg_n 2 sc_first_shorter.nd) (pfss_cons (pfs_set 3 sc_first_shorter.nd (pf_bin op_addD os_add (pf_sl (pf_v 1) pfo_none (pfo_some (pf_v 2))) (pf_sl (pf_v 1) (pfo_some (pf_bin op_addD os_add (pf_v 2) pf_int)) pfo_none))) (pfss_one (pfs_if (pft_val (pf_call d_is_wrong_weaving (hr.mono (by decide)) (pfa_cons (pf_v 0) (pfa_cons (pf_v 3) pfa_nil)))) (pfss_one (pfs_ret (pf_v 3))) pfss_nil)))) (pfss_one (pfs_ret pf_non)))
abbrev s_shrunk : Stmt := top 94
theorem sc_shrunk : FnScope ["play", "weaving", "left", "shorter"] ["play", "weaving"] (defScope s_shrunk) := ⟨rfl, rfl, rfl, by decide +kernel, rfl, by decide +kernel, by decide +kernel⟩
noncomputable def b_shrunk : FS := (sSeq (sIf (cNot (cT (cFnX 2 f_is_wrong (cC (cV 0) (cC (cV 1) cN))))) (sRaise0 "NotWrong") sNx) (sSeq (sAsg (cCall tupleD (cC (cV 1) cN)) (gN 2)) (sSeq (sAsg (cFn 2 f_first_shorter (cC (cV 0) (cC (cV 2) cN))) (gN 3)) (sSeq (whileN (cT (cOp notND (cV 3) (cD .non))) (sSeq (sAsg (cV 3) (gN 2)) (sAsg (cFn 2 f_first_shorter (cC (cV 0) (cC (cV 2) cN))) (gN 3))) 1000) (sRet (cV 2))))))
noncomputable def f_shrunk : List D → Gh → M D := fun ds g => fnOf 4 b_shrunk ds g
theorem d_shrunk {P : Program} {w : World} {K : PySem.W.Frag} {mg : Str → Option Value} {base : Heap} (T : Txt P w K mg base) (A : DefAt K mg "shrunk" s_shrunk ["play", "weaving"]) (d_is_wrong : DefOk P w K mg base (L2.CX P w) "is_wrong" 11 2 f_is_wrong) (d_first_shorter : DefOk P w K mg base CX0 "first_shorter" 13 2 f_first_shorter) : DefOk P w K mg base (L2.CX P w) "shrunk" 14 2 f_shrunk :=
  A.okX sc_shrunk rfl (by decide) fun f cdv A outer s H E ah hr => by
    exact (pfss_cons (pfs_if (pft_not (pft_val (pf_callX (takes_of rfl rfl rfl rfl) d_is_wrong (hr.mono (by decide)) (pfa_cons (pf_v 0) (pfa_cons (pf_v 1) pfa_nil))))) (pfss_one (pfs_raise0 rfl (takes_of rfl rfl rfl rfl) T.x_NotWrong (hr.mono (by decide)))) pfss_nil) (pfss_cons (pfs_set 2 sc_shrunk.nd (pf_callTy call_tuple_of cs_tuple T.b_tuple (by decide +kernel) (pfa_cons (pf_v 1) pfa_nil))) (pfss_cons (pfs_set 3 sc_shrunk.nd (pf_call d_first_shorter (hr.mono (by decide)) (pfa_cons (pf_v 0) (pfa_cons (pf_v 2) pfa_nil)))) (pfss_cons (pfs_while 1000 (passes_of rfl) (pft_cmp op_notN os_notN (pf_v 3) pf_non (nomark _)) (pfss_cons (pfs_set 2 sc_shrunk.nd (pf_v 3)) (pfss_one (pfs_set 3 sc_shrunk.nd (pf_call d_first_shorter (hr.mono (by decide)) (pfa_cons (pf_v 0) (pfa_cons (pf_v 2) pfa_nil))))))) (pfss_one (pfs_ret (pf_v 2)))))))
abbrev s_law_told : Stmt := top 115
theorem sc_law_told : FnScope ["_law_play", "_law_weaving", "_law_found", "e"] ["_law_play", "_law_weaving"] (defScope s_law_told) := ⟨rfl, rfl, rfl, by decide +kernel, rfl, by decide +kernel, by decide +kernel⟩
noncomputable def b_law_told : FS := (sSeq (sAsg (cD (.str "odd")) (gN 2)) (sSeq (sTryIs (sAsg (cFnX 2 f_shrunk (cC (cV 0) (cC (cV 1) cN))) (gN 2)) "NotWrong" 3 2 "notwrong") (sRet (cV 2))))
noncomputable def f_law_told : List D → Gh → M D := fun ds g => noX (fnOf 4 b_law_told ds g)
theorem d_law_told {P : Program} {w : World} {K : PySem.W.Frag} {mg : Str → Option Value} {base : Heap} (T : Txt P w K mg base) (A : DefAt K mg "_law_told" s_law_told ["_law_play", "_law_weaving"]) (d_shrunk : DefOk P w K mg base (L2.CX P w) "shrunk" 14 2 f_shrunk) : DefOk P w K mg base CX0 "_law_told" 15 2 f_law_told :=
  A.ok sc_law_told rfl (by decide) fun f cdv A outer s H E ah hr => by
    exact (pfss_cons (pfs_set 2 sc_law_told.nd pf_str) (pfss_cons (pfs_tryIs 3 2 sc_law_told.nd T.s_NotWrong_PictureError (fun W pn xe tk hp => (pfws_one (pfw_set 2 sc_law_told.nd (pf_callX tk d_shrunk (hr.mono (by decide)) (pfa_cons (pf_v 0) (pfa_cons (pf_v 1) pfa_nil)))))) T.b_isinstance T.b_ValueError) (pfss_one (pfs_ret (pf_v 2)))))
abbrev s_is_word_of : Stmt := top 25
theorem sc_is_word_of : FnScope ["words", "thing"] ["words", "thing"] (defScope s_is_word_of) := ⟨rfl, rfl, rfl, by decide +kernel, rfl, by decide +kernel, by decide +kernel⟩
noncomputable def b_is_word_of : FS := (sRet (cAndV (cIs "str" (cV 1)) (cOp inD (cV 1) (cV 0))))
noncomputable def f_is_word_of : List D → Gh → M D := fun ds g => noX (fnOf 2 b_is_word_of ds g)
theorem d_is_word_of {P : Program} {w : World} {K : PySem.W.Frag} {mg : Str → Option Value} {base : Heap} (T : Txt P w K mg base) (A : DefAt K mg "is_word_of" s_is_word_of ["words", "thing"])  : DefOk P w K mg base CX0 "is_word_of" 1 2 f_is_word_of :=
  A.ok sc_is_word_of rfl (by decide) fun f cdv A outer s H E ah hr => by
    exact (pfss_one (pfs_ret (pf_and (pf_is (t := "str") (by simp) T.play T.b_isinstance T.b_str (by decide +kernel) (pf_v 1)) (pf_one (pf_cmp op_in_seq os_in (pf_v 1) (pf_v 0) rfl)))))
abbrev s_is_lot_below : Stmt := top 26
theorem sc_is_lot_below : FnScope ["limit", "thing", "item", "one", "other"] ["limit", "thing"] (defScope s_is_lot_below) := ⟨rfl, rfl, rfl, by decide +kernel, rfl, by decide +kernel, by decide +kernel⟩
noncomputable def b_is_lot_below : FS := (sSeq (sIf (cNot (cT (cIs "tuple" (cV 1)))) (sRet (cD (.bl false))) sNx) (sSeq (sIf (cNot (cT (cCall allD (cC (cLc (iS (cV 1)) [2] (gN 2) tY (cFn 2 f_is_number_below (cC (cV 0) (cC (cV 2) cN)))) cN)))) (sRet (cD (.bl false))) sNx) (sRet (cCall allD (cC (cLc (iZ (cC (cV 1) (cC (cSl (cV 1) (oS (cD (.int 1))) oN) cN))) [3, 4] (gT 2 (gsC (gN 3) (gsC (gN 4) gsN))) tY (cOp ltD (cV 3) (cV 4))) cN)))))
noncomputable def f_is_lot_below : List D → Gh → M D := fun ds g => noX (fnOf 5 b_is_lot_below ds g)
theorem d_is_lot_below {P : Program} {w : World} {K : PySem.W.Frag} {mg : Str → Option Value} {base : Heap} (T : Txt P w K mg base) (A : DefAt K mg "is_lot_below" s_is_lot_below ["limit", "thing"]) (d_is_number_below : DefOk P w K mg base CX0 "is_number_below" 3 2 f_is_number_below) : DefOk P w K mg base CX0 "is_lot_below" 4 2 f_is_lot_below :=
  A.ok sc_is_lot_below rfl (by decide) fun f cdv A outer s H E ah hr => by
    exact (pfss_cons (pfs_if (pft_not (pft_val (pf_is (t := "tuple") (by simp) T.play T.b_isinstance T.b_tuple (by decide +kernel) (pf_v 1)))) (pfss_one (pfs_ret pf_bl)) pfss_nil) (pfss_cons (pfs_if (pft_not (pft_val (pf_callB (cr_all rfl) cs_all T.b_all (by decide +kernel) (pfa_cons (pf_lc [("item", 2)] sc_is_lot_below.nd (pfi_seq (pf_v 1)) (fun _ => (pfg_n 2 sc_is_lot_below.nd)) (fun _ => pfts_nil) (fun _ => (pf_call d_is_number_below (hr.mono (by decide)) (pfa_cons (pf_v 0) (pfa_cons (pf_v 2) pfa_nil)))) (blkOk_by (N := ["limit", "thing", "item", "one", "other"]) (sc := defScope s_is_lot_below) (by decide +kernel))) pfa_nil)))) (pfss_one (pfs_ret pf_bl)) pfss_nil) (pfss_one (pfs_ret (pf_callB (cr_all rfl) cs_all T.b_all (by decide +kernel) (pfa_cons (pf_lc [("one", 3), ("other", 4)] sc_is_lot_below.nd (pfi_zip T.b_zip (pfa_cons (pf_v 1) (pfa_cons (pf_sl (pf_v 1) (pfo_some pf_int) pfo_none) pfa_nil))) (fun _ => (pfg_tup rfl (pfgs_cons (pfg_n 3 sc_is_lot_below.nd) (pfgs_cons (pfg_n 4 sc_is_lot_below.nd) pfgs_nil)))) (fun _ => pfts_nil) (fun _ => (pf_cmp op_lt os_lt (pf_v 3) (pf_v 4) (nomark _))) (blkOk_by (N := ["limit", "thing", "item", "one", "other"]) (sc := defScope s_is_lot_below) (by decide +kernel))) pfa_nil))))))
abbrev s_is_row_of_hands : Stmt := top 39
theorem sc_is_row_of_hands : FnScope ["thing"] ["thing"] (defScope s_is_row_of_hands) := ⟨rfl, rfl, rfl, by decide +kernel, rfl, by decide +kernel, by decide +kernel⟩
noncomputable def b_is_row_of_hands : FS := (sRet (cAndV (cIs "tuple" (cV 0)) (cChain leD leD (cD (.int 1)) (cCall lenD (cC (cV 0) cN)) (cD k_MOST_HANDS))))
noncomputable def f_is_row_of_hands : List D → Gh → M D := fun ds g => noX (fnOf 1 b_is_row_of_hands ds g)
theorem d_is_row_of_hands {P : Program} {w : World} {K : PySem.W.Frag} {mg : Str → Option Value} {base : Heap} (T : Txt P w K mg base) (A : DefAt K mg "is_row_of_hands" s_is_row_of_hands ["thing"])  : DefOk P w K mg base CX0 "is_row_of_hands" 1 1 f_is_row_of_hands :=
  A.ok sc_is_row_of_hands rfl (by decide) fun f cdv A outer s H E ah hr => by
    exact (pfss_one (pfs_ret (pf_and (pf_is (t := "tuple") (by simp) T.play T.b_isinstance T.b_tuple (by decide +kernel) (pf_v 0)) (pf_one (pf_chain op_le op_le fs_int os_le pf_int (pf_len T.b_len (pfa_cons (pf_v 0) pfa_nil)) (pf_const T.c_MOST_HANDS))))))
abbrev s_is_near : Stmt := top 40
theorem sc_is_near : FnScope ["thing", "rounds", "values", "value"] ["thing"] (defScope s_is_near) := ⟨rfl, rfl, rfl, by decide +kernel, rfl, by decide +kernel, by decide +kernel⟩
noncomputable def b_is_near : FS := (sSeq (sIf (cOr (cNot (cT (cIs "tuple" (cV 0)))) (cT (cOp neD (cCall lenD (cC (cV 0) cN)) (cD (.int 2))))) (sRet (cD (.bl false))) sNx) (sSeq (sAsg (cV 0) (gT 2 (gsC (gN 1) (gsC (gN 2) gsN)))) (sSeq (sIf (cOr (cNot (cT (cFn 3 f_is_whole_within (cC (cD (.int 1)) (cC (cD k_MOST_ROUNDS) (cC (cV 1) cN)))))) (cNot (cT (cFn 1 f_is_row_of_hands (cC (cV 2) cN))))) (sRet (cD (.bl false))) sNx) (sRet (cCall allD (cC (cLc (iS (cV 2)) [3] (gN 3) tY (cFn 3 f_is_whole_within (cC (c1 negD (cD k_NEAR_MOST)) (cC (cD k_NEAR_MOST) (cC (cV 3) cN))))) cN))))))
noncomputable def f_is_near : List D → Gh → M D := fun ds g => noX (fnOf 4 b_is_near ds g)
theorem d_is_near {P : Program} {w : World} {K : PySem.W.Frag} {mg : Str → Option Value} {base : Heap} (T : Txt P w K mg base) (A : DefAt K mg "is_near" s_is_near ["thing"]) (d_is_whole_within : DefOk P w K mg base CX0 "is_whole_within" 2 3 f_is_whole_within) (d_is_row_of_hands : DefOk P w K mg base CX0 "is_row_of_hands" 1 1 f_is_row_of_hands) : DefOk P w K mg base CX0 "is_near" 3 1 f_is_near :=
  A.ok sc_is_near rfl (by decide) fun f cdv A outer s H E ah hr => by
    exact (pfss_cons (pfs_if (pft_w (pfw_or (pft_not (pft_val (pf_is (t := "tuple") (by simp) T.play T.b_isinstance T.b_tuple (by decide +kernel) (pf_v 0)))) (pfw_or1 (pft_cmp (op_neD (hu64 hr)) os_ne (pf_len T.b_len (pfa_cons (pf_v 0) pfa_nil)) pf_int (nomark _))))) (pfss_one (pfs_ret pf_bl)) pfss_nil) (pfss_cons (pfs_asg (pf_v 0) (pfg_tup rfl (pfgs_cons (pfg_n 1 sc_is_near.nd) (pfgs_cons (pfg_n 2 sc_is_near.nd) pfgs_nil)))) (pfss_cons (pfs_if (pft_w (pfw_or (pft_not (pft_val (pf_call d_is_whole_within (hr.mono (by decide)) (pfa_cons pf_int (pfa_cons (pf_const T.c_MOST_ROUNDS) (pfa_cons (pf_v 1) pfa_nil)))))) (pfw_or1 (pft_not (pft_val (pf_call d_is_row_of_hands (hr.mono (by decide)) (pfa_cons (pf_v 2) pfa_nil))))))) (pfss_one (pfs_ret pf_bl)) pfss_nil) (pfss_one (pfs_ret (pf_callB (cr_all rfl) cs_all T.b_all (by decide +kernel) (pfa_cons (pf_lc [("value", 3)] sc_is_near.nd (pfi_seq (pf_v 2)) (fun _ => (pfg_n 3 sc_is_near.nd)) (fun _ => pfts_nil) (fun _ => (pf_call d_is_whole_within (hr.mono (by decide)) (pfa_cons (pf_neg (pf_const T.c_NEAR_MOST)) (pfa_cons (pf_const T.c_NEAR_MOST) (pfa_cons (pf_v 3) pfa_nil))))) (blkOk_by (N := ["thing", "rounds", "values", "value"]) (sc := defScope s_is_near) (by decide +kernel))) pfa_nil)))))))
abbrev s_is_deed : Stmt := top 42
theorem sc_is_deed : FnScope ["thing"] ["thing"] (defScope s_is_deed) := ⟨rfl, rfl, rfl, by decide +kernel, rfl, by decide +kernel, by decide +kernel⟩
noncomputable def b_is_deed : FS := (sSeq (sIf (cNot (cT (cIs "tuple" (cV 0)))) (sRet (cD (.bl false))) sNx) (sSeq (sIf (cT (cOp eqD (cCall lenD (cC (cV 0) cN)) (cD (.int 1)))) (sRet (cFn 2 f_is_word_of (cC (cTup (cC (cD (.str "see")) cN)) (cC (cOp ixD (cV 0) (cD (.int 0))) cN)))) sNx) (sRet (cAndV (cOp eqD (cCall lenD (cC (cV 0) cN)) (cD (.int 2))) (cAndV (cFn 2 f_is_word_of (cC (cTup (cC (cD (.str "put")) cN)) (cC (cOp ixD (cV 0) (cD (.int 0))) cN))) (cFn 2 f_is_number_below (cC (cD k_NUMBER_LIMIT) (cC (cOp ixD (cV 0) (cD (.int 1))) cN))))))))
noncomputable def f_is_deed : List D → Gh → M D := fun ds g => noX (fnOf 1 b_is_deed ds g)
theorem d_is_deed {P : Program} {w : World} {K : PySem.W.Frag} {mg : Str → Option Value} {base : Heap} (T : Txt P w K mg base) (A : DefAt K mg "is_deed" s_is_deed ["thing"]) (d_is_word_of : DefOk P w K mg base CX0 "is_word_of" 1 2 f_is_word_of) (d_is_number_below : DefOk P w K mg base CX0 "is_number_below" 3 2 f_is_number_below) : DefOk P w K mg base CX0 "is_deed" 4 1 f_is_deed :=
  A.ok sc_is_deed rfl (by decide) fun f cdv A outer s H E ah hr => by
    exact (pfss_cons (pfs_if (pft_not (pft_val (pf_is (t := "tuple") (by simp) T.play T.b_isinstance T.b_tuple (by decide +kernel) (pf_v 0)))) (pfss_one (pfs_ret pf_bl)) pfss_nil) (pfss_cons (pfs_if (pft_cmp (op_eqD (hu64 hr)) os_eq (pf_len T.b_len (pfa_cons (pf_v 0) pfa_nil)) pf_int (nomark _)) (pfss_one (pfs_ret (pf_call d_is_word_of (hr.mono (by decide)) (pfa_cons (pf_tup (pfa_cons pf_str pfa_nil)) (pfa_cons (pf_ix ix_D os_ix (pf_v 0) pf_int (fun _ _ => rfl)) pfa_nil))))) pfss_nil) (pfss_one (pfs_ret (pf_and (pf_cmp (op_eqD (hu64 hr)) os_eq (pf_len T.b_len (pfa_cons (pf_v 0) pfa_nil)) pf_int (nomark _)) (pf_and (pf_call d_is_word_of (hr.mono (by decide)) (pfa_cons (pf_tup (pfa_cons pf_str pfa_nil)) (pfa_cons (pf_ix ix_D os_ix (pf_v 0) pf_int (fun _ _ => rfl)) pfa_nil))) (pf_one (pf_call d_is_number_below (hr.mono (by decide)) (pfa_cons (pf_const T.c_NUMBER_LIMIT) (pfa_cons (pf_ix ix_D os_ix (pf_v 0) pf_int (fun _ _ => rfl)) pfa_nil))))))))))
abbrev s_is_script : Stmt := top 41
theorem sc_is_script : FnScope ["thing", "item"] ["thing"] (defScope s_is_script) := ⟨rfl, rfl, rfl, by decide +kernel, rfl, by decide +kernel, by decide +kernel⟩
noncomputable def b_is_script : FS := (sSeq (sIf (cOr (cNot (cT (cIs "tuple" (cV 0)))) (cT (cOp gtD (cCall lenD (cC (cV 0) cN)) (cD k_MOST_DEEDS)))) (sRet (cD (.bl false))) sNx) (sRet (cCall allD (cC (cLc (iS (cV 0)) [1] (gN 1) tY (cFn 1 f_is_deed (cC (cV 1) cN))) cN))))
noncomputable def f_is_script : List D → Gh → M D := fun ds g => noX (fnOf 2 b_is_script ds g)
theorem d_is_script {P : Program} {w : World} {K : PySem.W.Frag} {mg : Str → Option Value} {base : Heap} (T : Txt P w K mg base) (A : DefAt K mg "is_script" s_is_script ["thing"]) (d_is_deed : DefOk P w K mg base CX0 "is_deed" 4 1 f_is_deed) : DefOk P w K mg base CX0 "is_script" 5 1 f_is_script :=
  A.ok sc_is_script rfl (by decide) fun f cdv A outer s H E ah hr => by
    exact (pfss_cons (pfs_if (pft_w (pfw_or (pft_not (pft_val (pf_is (t := "tuple") (by simp) T.play T.b_isinstance T.b_tuple (by decide +kernel) (pf_v 0)))) (pfw_or1 (pft_cmp op_gt os_gt (pf_len T.b_len (pfa_cons (pf_v 0) pfa_nil)) (pf_const T.c_MOST_DEEDS) (nomark _))))) (pfss_one (pfs_ret pf_bl)) pfss_nil) (pfss_one (pfs_ret (pf_callB (cr_all rfl) cs_all T.b_all (by decide +kernel) (pfa_cons (pf_lc [("item", 1)] sc_is_script.nd (pfi_seq (pf_v 0)) (fun _ => (pfg_n 1 sc_is_script.nd)) (fun _ => pfts_nil) (fun _ => (pf_call d_is_deed (hr.mono (by decide)) (pfa_cons (pf_v 1) pfa_nil))) (blkOk_by (N := ["thing", "item"]) (sc := defScope s_is_script) (by decide +kernel))) pfa_nil)))))
abbrev s_is_inputs : Stmt := top 38
theorem sc_is_inputs : FnScope ["kind", "thing", "item"] ["kind", "thing"] (defScope s_is_inputs) := ⟨rfl, rfl, rfl, by decide +kernel, rfl, by decide +kernel, by decide +kernel⟩
noncomputable def b_is_inputs : FS := (sSeq (sIf (cT (cOp eqD (cV 0) (cD (.str "near")))) (sRet (cFn 1 f_is_near (cC (cV 1) cN))) sNx) (sSeq (sIf (cNot (cT (cFn 1 f_is_row_of_hands (cC (cV 1) cN)))) (sRet (cD (.bl false))) sNx) (sSeq (sIf (cT (cOp inD (cV 0) (cD k_MANNERS))) (sRet (cCall allD (cC (cLc (iS (cV 1)) [2] (gN 2) tY (cFn 1 f_is_script (cC (cV 2) cN))) cN))) sNx) (sSeq (sIf (cT (cOp eqD (cV 0) (cD (.str "chain")))) (sRet (cCall allD (cC (cLc (iS (cV 1)) [2] (gN 2) tY (cFn 2 f_is_lot_below (cC (cD k_LOT_LIMIT) (cC (cV 2) cN)))) cN))) sNx) (sSeq (sIf (cNot (cT (cCall allD (cC (cLc (iS (cV 1)) [2] (gN 2) tY (cFn 2 f_is_number_below (cC (cD k_NUMBER_LIMIT) (cC (cV 2) cN)))) cN)))) (sRet (cD (.bl false))) sNx) (sRet (cOrV (cOp eqD (cV 0) (cD (.str "levels"))) (cOp eqD (c1 lenSetD (cV 1)) (cCall lenD (cC (cV 1) cN))))))))))
noncomputable def f_is_inputs : List D → Gh → M D := fun ds g => noX (fnOf 3 b_is_inputs ds g)
theorem d_is_inputs {P : Program} {w : World} {K : PySem.W.Frag} {mg : Str → Option Value} {base : Heap} (T : Txt P w K mg base) (A : DefAt K mg "is_inputs" s_is_inputs ["kind", "thing"]) (d_is_near : DefOk P w K mg base CX0 "is_near" 3 1 f_is_near) (d_is_row_of_hands : DefOk P w K mg base CX0 "is_row_of_hands" 1 1 f_is_row_of_hands) (d_is_script : DefOk P w K mg base CX0 "is_script" 5 1 f_is_script) (d_is_lot_below : DefOk P w K mg base CX0 "is_lot_below" 4 2 f_is_lot_below) (d_is_number_below : DefOk P w K mg base CX0 "is_number_below" 3 2 f_is_number_below) : DefOk P w K mg base CX0 "is_inputs" 6 2 f_is_inputs :=
  A.ok sc_is_inputs rfl (by decide) fun f cdv A outer s H E ah hr => by
    exact (pfss_cons (pfs_if (pft_cmp (op_eqD (hu64 hr)) os_eq (pf_v 0) pf_str (nomark _)) (pfss_one (pfs_ret (pf_call d_is_near (hr.mono (by decide)) (pfa_cons (pf_v 1) pfa_nil)))) pfss_nil) (pfss_cons (pfs_if (pft_not (pft_val (pf_call d_is_row_of_hands (hr.mono (by decide)) (pfa_cons (pf_v 1) pfa_nil)))) (pfss_one (pfs_ret pf_bl)) pfss_nil) (pfss_cons (pfs_if (pft_cmp op_in_seq os_in (pf_v 0) (pf_const T.c_MANNERS) rfl) (pfss_one (pfs_ret (pf_callB (cr_all rfl) cs_all T.b_all (by decide +kernel) (pfa_cons (pf_lc [("item", 2)] sc_is_inputs.nd (pfi_seq (pf_v 1)) (fun _ => (pfg_n 2 sc_is_inputs.nd)) (fun _ => pfts_nil) (fun _ => (pf_call d_is_script (hr.mono (by decide)) (pfa_cons (pf_v 2) pfa_nil))) (blkOk_by (N := ["kind", "thing", "item"]) (sc := defScope s_is_inputs) (by decide +kernel))) pfa_nil)))) pfss_nil) (pfss_cons (pfs_if (pft_cmp (op_eqD (hu64 hr)) os_eq (pf_v 0) pf_str (nomark _)) (pfss_one (pfs_ret (pf_callB (cr_all rfl) cs_all T.b_all (by decide +kernel) (pfa_cons (pf_lc [("item", 2)] sc_is_inputs.nd (pfi_seq (pf_v 1)) (fun _ => (pfg_n 2 sc_is_inputs.nd)) (fun _ => pfts_nil) (fun _ => (pf_call d_is_lot_below (hr.mono (by decide)) (pfa_cons (pf_const T.c_LOT_LIMIT) (pfa_cons (pf_v 2) pfa_nil)))) (blkOk_by (N := ["kind", "thing", "item"]) (sc := defScope s_is_inputs) (by decide +kernel))) pfa_nil)))) pfss_nil) (pfss_cons (pfs_if (pft_not (pft_val (pf_callB (cr_all rfl) cs_all T.b_all (by decide +kernel) (pfa_cons (pf_lc [("item", 2)] sc_is_inputs.nd (pfi_seq (pf_v 1)) (fun _ => (pfg_n 2 sc_is_inputs.nd)) (fun _ => pfts_nil) (fun _ => (pf_call d_is_number_below (hr.mono (by decide)) (pfa_cons (pf_const T.c_NUMBER_LIMIT) (pfa_cons (pf_v 2) pfa_nil)))) (blkOk_by (N := ["kind", "thing", "item"]) (sc := defScope s_is_inputs) (by decide +kernel))) pfa_nil)))) (pfss_one (pfs_ret pf_bl)) pfss_nil) (pfss_one (pfs_ret (pf_or (pf_cmp (op_eqD (hu64 hr)) os_eq (pf_v 0) pf_str (nomark _)) (pf_one (pf_cmp (op_eqD (hu64 hr)) os_eq (pf_lenSet T.b_len T.b_set (pf_v 1)) (pf_len T.b_len (pfa_cons (pf_v 1) pfa_nil)) (nomark _)))))))))))
abbrev s_Play_init : Stmt := inClass (top 36) 0
theorem sc_Play_init : FnScope ["self", "kind", "inputs"] ["self", "kind", "inputs"] (defScope s_Play_init) := ⟨rfl, rfl, rfl, by decide +kernel, rfl, by decide +kernel, by decide +kernel⟩
noncomputable def f_Play : List D → Gh → M D := mkF2 "Play" "kind" "inputs" (cNot (cT (cFn 2 f_is_word_of (cC (cD k_KINDS) (cC (cV 1) cN))))) (sRaise "BadPlay" "part" (cD (.str "kind"))) (cNot (cT (cFn 2 f_is_inputs (cC (cV 1) (cC (cV 2) cN))))) (sRaise "BadPlay" "part" (cD (.str "inputs"))) 3
theorem d_MK {P : Program} {w : World} {K : PySem.W.Frag} {mg : Str → Option Value} {base : Heap} (T : Txt P w K mg base) {C f : Addr} {fd : FuncData} (F : Fun K "__init__" "Play.__init__" s_Play_init f fd) (hm : mg "Play" = some (.ref C)) (M : Mk K C f) (hb : Binds K fd ["self", "kind", "inputs"] []) (d_is_word_of : DefOk P w K mg base CX0 "is_word_of" 1 2 f_is_word_of) (d_is_inputs : DefOk P w K mg base CX0 "is_inputs" 6 2 f_is_inputs) : MkOk P w K mg base "Play" 7 2 f_Play := by
  refine ⟨C, f, fd, _, mk_ok2 F sc_Play_init rfl (T.play C hm).cl (T.play_kind C hm) (T.play_inputs C hm) (by decide +kernel) hm rfl rfl rfl rfl (by decide) (by decide) (by decide) (by decide) (fun cdv A outer s H E ah hr => ⟨?_, ?_, ?_, ?_⟩), hm, M, hb⟩
  · exact (pft_not (pft_val (pf_call d_is_word_of (hr.mono (by decide)) (pfa_cons (pf_const T.c_KINDS) (pfa_cons (pf_v 1) pfa_nil)))))
  · exact (pfs_raise rfl (takes_of rfl rfl rfl rfl) T.x_BadPlay (hr.mono (by decide)) pf_str)
  · exact (pft_not (pft_val (pf_call d_is_inputs (hr.mono (by decide)) (pfa_cons (pf_v 1) (pfa_cons (pf_v 2) pfa_nil)))))
  · exact (pfs_raise rfl (takes_of rfl rfl rfl rfl) T.x_BadPlay (hr.mono (by decide)) pf_str)
abbrev s_Play_eq : Stmt := inClass (top 36) 1
theorem sc_Play_eq : FnScope ["self", "other"] ["self", "other"] (defScope s_Play_eq) := ⟨rfl, rfl, rfl, by decide +kernel, rfl, by decide +kernel, by decide +kernel⟩
noncomputable def b_Play___eq__ : FS := (sRet (cAndV (cTyEq (cV 0) (cV 1)) (cAndV (cOp eqD (c1 (fldD "kind") (cV 0)) (c1 (fldD "kind") (cV 1))) (cOp eqD (c1 (fldD "inputs") (cV 0)) (c1 (fldD "inputs") (cV 1))))))
noncomputable def f_Play___eq__ : List D → Gh → M D := fun ds g => noX (fnOf 2 b_Play___eq__ ds g)
theorem d_EQ {P : Program} {w : World} {K : PySem.W.Frag} {mg : Str → Option Value} {base : Heap} (T : Txt P w K mg base) {C f : Addr} {fd : FuncData} (F : Fun K "__eq__" "Play.__eq__" s_Play_eq f fd) (hm : mg "Play" = some (.ref C)) (hb : Binds K fd ["self", "other"] []) (h1 : PySem.W.findIn K (.ref C) "__eq__" = some (some (.ref f))) (h2 : PySem.W.isFn K (.ref f) = true) (h3 : PySem.W.subIn K (.type "tuple") (.ref C) = some false) : EqOk P w K mg base 1 f_Play___eq__ :=
  ⟨C, f, fd, _, hm, fd_ok F sc_Play_eq rfl (by decide) (fun cdv A outer s H E ah hr => by
    exact (pfss_one (pfs_ret (pf_and (pf_tyEq T.b_type (pf_v 0) (pf_v 1)) (pf_and (pf_cmp (op_eqD (hu64 hr)) os_eq (pf_fld (fun C h => ⟨(T.play C h).cl, T.play_kind C h⟩) (pf_v 0)) (pf_fld (fun C h => ⟨(T.play C h).cl, T.play_kind C h⟩) (pf_v 1)) (nomark _)) (pf_one (pf_cmp (op_eqD (hu64 hr)) os_eq (pf_fld (fun C h => ⟨(T.play C h).cl, T.play_inputs C h⟩) (pf_v 0)) (pf_fld (fun C h => ⟨(T.play C h).cl, T.play_inputs C h⟩) (pf_v 1)) (nomark _)))))))), hb, h1, h2, h3⟩
abbrev s_law : Stmt := top 116
theorem sc_law : FnScope ["_law_script", "_law_hand_here", "_law_turn", "_law_many", "_law_scripts", "_law_me", "_law_play", "_law_weaving", "_law_due", "_law_deeds", "_law_row", "_law_deed"] ["_law_script"] (defScope s_law) := ⟨rfl, rfl, rfl, by decide +kernel, rfl, by decide +kernel, by decide +kernel⟩
noncomputable def b_law : FS := (sSeq (sFor (iR1 (cC (cD (.int 3)) cN)) (gN 2) (sSeq (sAsg (cOp addD (cD (.int 3)) (cCall intOf (cC (cOp eqD (cFn 2 f_law_draw (cC (cV 1) (cC (cD (.int 4)) cN))) (cD (.int 0))) cN))) (gN 3)) (sSeq (sOwn 4) (sSeq (sFor (iR1 (cC (cV 3) cN)) (gN 5) (sSeq (sAsg (cLst (cC (cTup (cC (cD (.str "see")) cN)) (cC (cTup (cC (cD (.str "put")) (cC (cFn 2 f_law_draw (cC (cV 1) (cC (cD (.int 4)) cN))) cN))) cN))) (gN 9)) (sSeq (sAsg (cLc (iR1 (cC (cOp addD (cD (.int 1)) (cFn 2 f_law_draw (cC (cV 1) (cC (cD (.int 3)) cN)))) cN)) [11] (gN 11) tY (cOp ixD (cV 9) (cFn 2 f_law_draw (cC (cV 1) (cC (cD (.int 2)) cN))))) (gN 10)) (sApp 4 (cCall tupleD (cC (cV 10) cN)))))) (sFrz 4 (sSeq (sAsg (cFn 2 f_Play (cC (cD (.str "sweep")) (cC (cCall tupleD (cC (cV 4) cN)) cN))) (gN 6)) (sSeq (sAsg (cFn 3 f_law_some_weaving (cC (cV 1) (cC (cV 6) (cC (cOp addD (cD (.int 6)) (cFn 2 f_law_draw (cC (cV 1) (cC (cD (.int 16)) cN)))) cN)))) (gN 7)) (sSeq (sAsg (cD (.str "notwrong")) (gN 8)) (sSeq (sIf (cT (cOp isBlD (cFn 2 f_law_wrong (cC (cV 6) (cC (cV 7) cN))) (cD (.bl true)))) (sSeq (sAsg (cFn 2 f_law_shrunk (cC (cV 6) (cC (cV 7) cN))) (gN 8)) (sIf (cNot (cT (cFn 2 f_law_flag (cC (cFn 2 f_is_wrong (cC (cV 6) (cC (cV 8) cN))) (cC (cD (.bl true)) cN))))) (sRet (cD (.bl false))) sNx)) sNx) (sIf (cNot (cT (cFn 2 f_law_is (cC (cLst (cC (cFn 2 f_law_told (cC (cV 6) (cC (cV 7) cN))) cN)) (cC (cLst (cC (cV 8) cN)) cN))))) (sRet (cD (.bl false))) sNx)))))))))) (sRet (cD (.bl true))))
theorem d_law {P : Program} {w : World} {K : PySem.W.Frag} {mg : Str → Option Value} {base : Heap} (T : Txt P w K mg base) {f : Addr} {fd : FuncData} (F : Fun K "law" "law" s_law f fd) (d_law_draw : DefOk P w K mg base CX0 "_law_draw" 1 2 f_law_draw) (d_law_some_weaving : DefOk P w K mg base CX0 "_law_some_weaving" 4 3 f_law_some_weaving) (d_law_wrong : DefOk P w K mg base CX0 "_law_wrong" 4 2 f_law_wrong) (d_law_shrunk : DefOk P w K mg base CX0 "_law_shrunk" 5 2 f_law_shrunk) (d_is_wrong : DefOk P w K mg base (L2.CX P w) "is_wrong" 11 2 f_is_wrong) (d_law_flag : DefOk P w K mg base CX0 "_law_flag" 1 2 f_law_flag) (d_law_told : DefOk P w K mg base CX0 "_law_told" 15 2 f_law_told) (d_law_is : DefOk P w K mg base CX0 "_law_is" 45 2 f_law_is) (d_MK : MkOk P w K mg base "Play" 7 2 f_Play) (d_law_hand : DefOk P w K mg base CX0 "_law_hand" 1 1 f_law_hand) {g0 : List Int → Gh}
    (hh0 : ∀ ns g, ns.length ≤ 63 → f_law_hand [.scr ns] g = some (.ok (.lst [.lst ((g0 ns).xs.map .int), .int (g0 ns).i, .int (g0 ns).c, .int (g0 ns).r, .int (g0 ns).n]) g))
    (main : ∀ ns : List Int, ns.length ≤ 63 → ∃ g, b_law (.un :: .dt .hnd :: List.replicate 10 .un) (g0 ns) = some (.ok (.rt (.bl true)) g)) : FnOk P w K mg base CX0 46 f fd ["_law_script"] (spLaw K) := by
  refine law_okDc (k := 45) F sc_law rfl d_law_hand (by decide) hh0 rfl rfl rfl (by first | exact Or.inl rfl | exact Or.inr rfl) (fun cdv A outer s H E => by first | exact .inl rfl | exact .inr rfl) (by decide) (by decide) (by decide) (fun cdv A outer s H E ah hr => ?_) (fun cdv A outer s H E => rfl) main
  exact (pfss_cons (pfs_for PassesOwn.never rfl (pfi_rng1 T.b_range (pfa_cons pf_int pfa_nil)) (pfg_n 2 sc_law.nd) (pfss_cons (pfs_set 3 sc_law.nd (pf_bin op_addD os_add pf_int (pf_callTy call_int1 cs_int T.b_int (by decide +kernel) (pfa_cons (pf_cmp (op_eqD (hu64 hr)) os_eq (pf_call d_law_draw (hr.mono (by decide)) (pfa_cons (pf_v 1) (pfa_cons pf_int pfa_nil))) pf_int (nomark _)) pfa_nil)))) (pfss_cons (pfs_own0 4 sc_law.nd) (pfss_cons (pfs_for PassesOwn.never rfl (pfi_rng1 T.b_range (pfa_cons (pf_v 3) pfa_nil)) (pfg_n 5 sc_law.nd) (pfss_cons (pfs_set 9 sc_law.nd (pf_lst (pfa_cons (pf_tup (pfa_cons pf_str pfa_nil)) (pfa_cons (pf_tup (pfa_cons pf_str (pfa_cons (pf_call d_law_draw (hr.mono (by decide)) (pfa_cons (pf_v 1) (pfa_cons pf_int pfa_nil))) pfa_nil))) pfa_nil)))) (pfss_cons (pfs_lc 10 [("_law_deed", 11)] sc_law.nd (pfi_rng1 T.b_range (pfa_cons (pf_bin op_addD os_add pf_int (pf_call d_law_draw (hr.mono (by decide)) (pfa_cons (pf_v 1) (pfa_cons pf_int pfa_nil)))) pfa_nil)) (fun _ => (pfg_n 11 sc_law.nd)) (fun _ => pfts_nil) (fun _ => (pf_ix ix_D os_ix (pf_v 9) (pf_call d_law_draw (hr.mono (by decide)) (pfa_cons (pf_v 1) (pfa_cons pf_int pfa_nil))) (fun _ _ => rfl))) (blkOk_by (N := ["_law_script", "_law_hand_here", "_law_turn", "_law_many", "_law_scripts", "_law_me", "_law_play", "_law_weaving", "_law_due", "_law_deeds", "_law_row", "_law_deed"]) (sc := defScope s_law) (by decide +kernel)) (sw_true rfl rfl rfl (by decide +kernel))) (pfss_one (pfs_app 4 (pf_callTy call_tuple_of cs_tuple T.b_tuple (by decide +kernel) (pfa_cons (pf_v 10) pfa_nil))))))) (pfss_frz 4 (pfss_cons (pfs_set 6 sc_law.nd (pf_mk d_MK (hr.mono (by decide)) (pfa_cons pf_str (pfa_cons (pf_callTy call_tuple_of cs_tuple T.b_tuple (by decide +kernel) (pfa_cons (pf_v 4) pfa_nil)) pfa_nil)))) (pfss_cons (pfs_set 7 sc_law.nd (pf_call d_law_some_weaving (hr.mono (by decide)) (pfa_cons (pf_v 1) (pfa_cons (pf_v 6) (pfa_cons (pf_bin op_addD os_add pf_int (pf_call d_law_draw (hr.mono (by decide)) (pfa_cons (pf_v 1) (pfa_cons pf_int pfa_nil)))) pfa_nil))))) (pfss_cons (pfs_set 8 sc_law.nd pf_str) (pfss_cons (pfs_if (pft_cmp op_isBlA os_isBl (pf_call d_law_wrong (hr.mono (by decide)) (pfa_cons (pf_v 6) (pfa_cons (pf_v 7) pfa_nil))) pf_bl (nomark _)) (pfss_cons (pfs_set 8 sc_law.nd (pf_call d_law_shrunk (hr.mono (by decide)) (pfa_cons (pf_v 6) (pfa_cons (pf_v 7) pfa_nil)))) (pfss_one (pfs_if (pft_not (pft_val (pf_call d_law_flag (hr.mono (by decide)) (pfa_cons (pf_callN d_is_wrong (hr.mono (by decide)) (pfa_cons (pf_v 6) (pfa_cons (pf_v 8) pfa_nil))) (pfa_cons pf_bl pfa_nil))))) (pfss_one (pfs_ret pf_bl)) pfss_nil))) pfss_nil) (pfss_one (pfs_if (pft_not (pft_val (pf_call d_law_is (hr.mono (by decide)) (pfa_cons (pf_lst (pfa_cons (pf_call d_law_told (hr.mono (by decide)) (pfa_cons (pf_v 6) (pfa_cons (pf_v 7) pfa_nil))) pfa_nil)) (pfa_cons (pf_lst (pfa_cons (pf_v 8) pfa_nil)) pfa_nil))))) (pfss_one (pfs_ret pf_bl)) pfss_nil))))))))))) (pfss_one (pfs_ret pf_bl)))
end Kk22
set_option Elab.async false
set_option linter.all false
set_option maxRecDepth 100000
set_option maxHeartbeats 0
namespace Kk22
open PySem PySem.Spec PyProof.Rows L2 FD
/-! ### the text of the errors -/
abbrev s_BadPlay_exc : Stmt := inClass (top 2) 0
theorem sc_BadPlay_exc : FnScope ["self", "part"] ["self", "part"] (defScope s_BadPlay_exc) := ⟨rfl, rfl, rfl, by decide +kernel, rfl, by decide +kernel, by decide +kernel⟩
abbrev s_NoWeaving_exc : Stmt := inClass (top 3) 0
theorem sc_NoWeaving_exc : FnScope ["self", "index"] ["self", "index"] (defScope s_NoWeaving_exc) := ⟨rfl, rfl, rfl, by decide +kernel, rfl, by decide +kernel, by decide +kernel⟩
abbrev s_NotWrong_exc : Stmt := inClass (top 7) 0
theorem sc_NotWrong_exc : FnScope ["self"] ["self"] (defScope s_NotWrong_exc) := ⟨rfl, rfl, rfl, by decide +kernel, rfl, by decide +kernel, by decide +kernel⟩
/-! ### the defs, the facts -/
def D_BadPlay_init : He.DefD := ⟨("BadPlay", some "__init__"), "__init__", "BadPlay.__init__", defArgs s_BadPlay_exc, defBody s_BadPlay_exc, defScope s_BadPlay_exc, [], []⟩
def D_NoWeaving_init : He.DefD := ⟨("NoWeaving", some "__init__"), "__init__", "NoWeaving.__init__", defArgs s_NoWeaving_exc, defBody s_NoWeaving_exc, defScope s_NoWeaving_exc, [], []⟩
def D_NotWrong_init : He.DefD := ⟨("NotWrong", some "__init__"), "__init__", "NotWrong.__init__", defArgs s_NotWrong_exc, defBody s_NotWrong_exc, defScope s_NotWrong_exc, [], []⟩
def D_many_hands : He.DefD := ⟨("many_hands", none), "many_hands", "many_hands", defArgs s_many_hands, defBody s_many_hands, defScope s_many_hands, [], []⟩
def D_state_ahead : He.DefD := ⟨("state_ahead", none), "state_ahead", "state_ahead", defArgs s_state_ahead, defBody s_state_ahead, defScope s_state_ahead, [], []⟩
def D_first_in_manner : He.DefD := ⟨("first_in_manner", none), "first_in_manner", "first_in_manner", defArgs s_first_in_manner, defBody s_first_in_manner, defScope s_first_in_manner, [], []⟩
def D_first_of_hand : He.DefD := ⟨("first_of_hand", none), "first_of_hand", "first_of_hand", defArgs s_first_of_hand, defBody s_first_of_hand, defScope s_first_of_hand, [], []⟩
def D_first_standing : He.DefD := ⟨("first_standing", none), "first_standing", "first_standing", defArgs s_first_standing, defBody s_first_standing, defScope s_first_standing, [], []⟩
def D_is_whole : He.DefD := ⟨("is_whole", none), "is_whole", "is_whole", defArgs s_is_whole, defBody s_is_whole, defScope s_is_whole, [], []⟩
def D_is_whole_within : He.DefD := ⟨("is_whole_within", none), "is_whole_within", "is_whole_within", defArgs s_is_whole_within, defBody s_is_whole_within, defScope s_is_whole_within, [], []⟩
def D_is_number_below : He.DefD := ⟨("is_number_below", none), "is_number_below", "is_number_below", defArgs s_is_number_below, defBody s_is_number_below, defScope s_is_number_below, [], []⟩
def D_is_hand : He.DefD := ⟨("is_hand", none), "is_hand", "is_hand", defArgs s_is_hand, defBody s_is_hand, defScope s_is_hand, [], []⟩
def D_puts_next : He.DefD := ⟨("puts_next", none), "puts_next", "puts_next", defArgs s_puts_next, defBody s_puts_next, defScope s_puts_next, [], []⟩
def D_behind_put : He.DefD := ⟨("behind_put", none), "behind_put", "behind_put", defArgs s_behind_put, defBody s_behind_put, defScope s_behind_put, [], []⟩
def D_behind_picture : He.DefD := ⟨("behind_picture", none), "behind_picture", "behind_picture", defArgs s_behind_picture, defBody s_behind_picture, defScope s_behind_picture, [], []⟩
def D_numbers_of : He.DefD := ⟨("numbers_of", none), "numbers_of", "numbers_of", defArgs s_numbers_of, defBody s_numbers_of, defScope s_numbers_of, [], []⟩
def D_borrowed : He.DefD := ⟨("borrowed", none), "borrowed", "borrowed", defArgs s_borrowed, defBody s_borrowed, defScope s_borrowed, [], []⟩
def D_picture_of_sweep : He.DefD := ⟨("picture_of_sweep", none), "picture_of_sweep", "picture_of_sweep", defArgs s_picture_of_sweep, defBody s_picture_of_sweep, defScope s_picture_of_sweep, [], []⟩
def D_behind_look : He.DefD := ⟨("behind_look", none), "behind_look", "behind_look", defArgs s_behind_look, defBody s_behind_look, defScope s_behind_look, [], []⟩
def D_step_in_manner : He.DefD := ⟨("step_in_manner", none), "step_in_manner", "step_in_manner", defArgs s_step_in_manner, defBody s_step_in_manner, defScope s_step_in_manner, [], []⟩
def D_step_of_hand : He.DefD := ⟨("step_of_hand", none), "step_of_hand", "step_of_hand", defArgs s_step_of_hand, defBody s_step_of_hand, defScope s_step_of_hand, [], []⟩
def D_put_at : He.DefD := ⟨("put_at", none), "put_at", "put_at", defArgs s_put_at, defBody s_put_at, defScope s_put_at, [], []⟩
def D_standing_behind : He.DefD := ⟨("standing_behind", none), "standing_behind", "standing_behind", defArgs s_standing_behind, defBody s_standing_behind, defScope s_standing_behind, [], []⟩
def D_standings_along : He.DefD := ⟨("standings_along", none), "standings_along", "standings_along", defArgs s_standings_along, defBody s_standings_along, defScope s_standings_along, [], []⟩
def D_run : He.DefD := ⟨("run", none), "run", "run", defArgs s_run, defBody s_run, defScope s_run, [], []⟩
def D_standings_in_manner : He.DefD := ⟨("standings_in_manner", none), "standings_in_manner", "standings_in_manner", defArgs s_standings_in_manner, defBody s_standings_in_manner, defScope s_standings_in_manner, [], []⟩
def D_goes_on : He.DefD := ⟨("goes_on", none), "goes_on", "goes_on", defArgs s_goes_on, defBody s_goes_on, defScope s_goes_on, [], []⟩
def D_picture_told : He.DefD := ⟨("picture_told", none), "picture_told", "picture_told", defArgs s_picture_told, defBody s_picture_told, defScope s_picture_told, [], []⟩
def D_ended_looks : He.DefD := ⟨("ended_looks", none), "ended_looks", "ended_looks", defArgs s_ended_looks, defBody s_ended_looks, defScope s_ended_looks, [], []⟩
def D_shown : He.DefD := ⟨("shown", none), "shown", "shown", defArgs s_shown, defBody s_shown, defScope s_shown, [], []⟩
def D_moments_of : He.DefD := ⟨("moments_of", none), "moments_of", "moments_of", defArgs s_moments_of, defBody s_moments_of, defScope s_moments_of, [], []⟩
def D_moments_of_looks : He.DefD := ⟨("moments_of_looks", none), "moments_of_looks", "moments_of_looks", defArgs s_moments_of_looks, defBody s_moments_of_looks, defScope s_moments_of_looks, [], []⟩
def D_least_of : He.DefD := ⟨("least_of", none), "least_of", "least_of", defArgs s_least_of, defBody s_least_of, defScope s_least_of, [], []⟩
def D_moments : He.DefD := ⟨("moments", none), "moments", "moments", defArgs s_moments, defBody s_moments, defScope s_moments, [], []⟩
def D_those_that_came : He.DefD := ⟨("those_that_came", none), "those_that_came", "those_that_came", defArgs s_those_that_came, defBody s_those_that_came, defScope s_those_that_came, [], []⟩
def D_is_wrong : He.DefD := ⟨("is_wrong", none), "is_wrong", "is_wrong", defArgs s_is_wrong, defBody s_is_wrong, defScope s_is_wrong, [], []⟩
def D_law_fresh : He.DefD := ⟨("_law_fresh", none), "_law_fresh", "_law_fresh", defArgs s_law_fresh, defBody s_law_fresh, defScope s_law_fresh, [], []⟩
def D_law_begun : He.DefD := ⟨("_law_begun", none), "_law_begun", "_law_begun", defArgs s_law_begun, defBody s_law_begun, defScope s_law_begun, [], []⟩
def D_law_manner : He.DefD := ⟨("_law_manner", none), "_law_manner", "_law_manner", defArgs s_law_manner, defBody s_law_manner, defScope s_law_manner, [], []⟩
def D_law_behind : He.DefD := ⟨("_law_behind", none), "_law_behind", "_law_behind", defArgs s_law_behind, defBody s_law_behind, defScope s_law_behind, [], []⟩
def D_law_wrong : He.DefD := ⟨("_law_wrong", none), "_law_wrong", "_law_wrong", defArgs s_law_wrong, defBody s_law_wrong, defScope s_law_wrong, [], []⟩
def D_law_hand : He.DefD := ⟨("_law_hand", none), "_law_hand", "_law_hand", defArgs s_law_hand, defBody s_law_hand, defScope s_law_hand, [], []⟩
def D_law_draw : He.DefD := ⟨("_law_draw", none), "_law_draw", "_law_draw", defArgs s_law_draw, defBody s_law_draw, defScope s_law_draw, [], []⟩
def D_law_movers : He.DefD := ⟨("_law_movers", none), "_law_movers", "_law_movers", defArgs s_law_movers, defBody s_law_movers, defScope s_law_movers, [], []⟩
def D_law_some_weaving : He.DefD := ⟨("_law_some_weaving", none), "_law_some_weaving", "_law_some_weaving", defArgs s_law_some_weaving, defBody s_law_some_weaving, defScope s_law_some_weaving, [], []⟩
def D_law_flag : He.DefD := ⟨("_law_flag", none), "_law_flag", "_law_flag", defArgs s_law_flag, defBody s_law_flag, defScope s_law_flag, [], []⟩
def D_law_is : He.DefD := ⟨("_law_is", none), "_law_is", "_law_is", defArgs s_law_is, defBody s_law_is, defScope s_law_is, [], []⟩
def D_law_shrunk : He.DefD := ⟨("_law_shrunk", none), "_law_shrunk", "_law_shrunk", defArgs s_law_shrunk, defBody s_law_shrunk, defScope s_law_shrunk, [], []⟩
def D_is_wrong_weaving : He.DefD := ⟨("is_wrong_weaving", none), "is_wrong_weaving", "is_wrong_weaving", defArgs s_is_wrong_weaving, defBody s_is_wrong_weaving, defScope s_is_wrong_weaving, [], []⟩
def D_first_shorter : He.DefD := ⟨("first_shorter", none), "first_shorter", "first_shorter", defArgs s_first_shorter, defBody s_first_shorter, defScope s_first_shorter, [], []⟩
def D_shrunk : He.DefD := ⟨("shrunk", none), "shrunk", "shrunk", defArgs s_shrunk, defBody s_shrunk, defScope s_shrunk, [], []⟩
def D_law_told : He.DefD := ⟨("_law_told", none), "_law_told", "_law_told", defArgs s_law_told, defBody s_law_told, defScope s_law_told, [], []⟩
def D_is_word_of : He.DefD := ⟨("is_word_of", none), "is_word_of", "is_word_of", defArgs s_is_word_of, defBody s_is_word_of, defScope s_is_word_of, [], []⟩
def D_is_lot_below : He.DefD := ⟨("is_lot_below", none), "is_lot_below", "is_lot_below", defArgs s_is_lot_below, defBody s_is_lot_below, defScope s_is_lot_below, [], []⟩
def D_is_row_of_hands : He.DefD := ⟨("is_row_of_hands", none), "is_row_of_hands", "is_row_of_hands", defArgs s_is_row_of_hands, defBody s_is_row_of_hands, defScope s_is_row_of_hands, [], []⟩
def D_is_near : He.DefD := ⟨("is_near", none), "is_near", "is_near", defArgs s_is_near, defBody s_is_near, defScope s_is_near, [], []⟩
def D_is_deed : He.DefD := ⟨("is_deed", none), "is_deed", "is_deed", defArgs s_is_deed, defBody s_is_deed, defScope s_is_deed, [], []⟩
def D_is_script : He.DefD := ⟨("is_script", none), "is_script", "is_script", defArgs s_is_script, defBody s_is_script, defScope s_is_script, [], []⟩
def D_is_inputs : He.DefD := ⟨("is_inputs", none), "is_inputs", "is_inputs", defArgs s_is_inputs, defBody s_is_inputs, defScope s_is_inputs, [], []⟩
def D_MK : He.DefD := ⟨("Play", some "__init__"), "__init__", "Play.__init__", defArgs s_Play_init, defBody s_Play_init, defScope s_Play_init, [], []⟩
def D_EQ : He.DefD := ⟨("Play", some "__eq__"), "__eq__", "Play.__eq__", defArgs s_Play_eq, defBody s_Play_eq, defScope s_Play_eq, [], []⟩
def D_law : He.DefD := ⟨("law", none), "law", "law", defArgs s_law, defBody s_law, defScope s_law, [], []⟩
def fns : List He.DefD := [D_BadPlay_init, D_NoWeaving_init, D_NotWrong_init, D_many_hands, D_state_ahead, D_first_in_manner, D_first_of_hand, D_first_standing, D_is_whole, D_is_whole_within, D_is_number_below, D_is_hand, D_puts_next, D_behind_put, D_behind_picture, D_numbers_of, D_borrowed, D_picture_of_sweep, D_behind_look, D_step_in_manner, D_step_of_hand, D_put_at, D_standing_behind, D_standings_along, D_run, D_standings_in_manner, D_goes_on, D_picture_told, D_ended_looks, D_shown, D_moments_of, D_moments_of_looks, D_least_of, D_moments, D_those_that_came, D_is_wrong, D_law_fresh, D_law_begun, D_law_manner, D_law_behind, D_law_wrong, D_law_hand, D_law_draw, D_law_movers, D_law_some_weaving, D_law_flag, D_law_is, D_law_shrunk, D_is_wrong_weaving, D_first_shorter, D_shrunk, D_law_told, D_is_word_of, D_is_lot_below, D_is_row_of_hands, D_is_near, D_is_deed, D_is_script, D_is_inputs, D_MK, D_EQ, D_law]
def fas : List He.Fa := [.free "ValueError", .free "abs", .free "all", .free "bool", .free "enumerate", .free "int", .free "isinstance", .free "len", .free "list", .free "range", .free "set", .free "sorted", .free "str", .free "tuple", .free "type", .free "zip", .int "LOT_LIMIT" 20, .int "MOST_DEEDS" 6, .int "MOST_HANDS" 5, .int "MOST_ROUNDS" 6, .int "NEAR_MOST" 1000, .int "NUMBER_LIMIT" 1000, .glo "Play", .cls "Play", .noat "Play" "kind", .noat "Play" "inputs", .glo "many_hands", .glo "state_ahead", .glo "first_in_manner", .glo "first_of_hand", .glo "first_standing", .glo "is_whole", .glo "is_whole_within", .glo "is_number_below", .glo "is_hand", .glo "puts_next", .glo "behind_put", .glo "behind_picture", .glo "numbers_of", .glo "borrowed", .glo "picture_of_sweep", .glo "behind_look", .glo "step_in_manner", .glo "step_of_hand", .glo "put_at", .glo "standing_behind", .glo "standings_along", .glo "run", .glo "standings_in_manner", .glo "goes_on", .glo "picture_told", .glo "ended_looks", .glo "shown", .glo "moments_of", .glo "moments_of_looks", .glo "least_of", .glo "moments", .glo "those_that_came", .glo "is_wrong", .glo "_law_fresh", .glo "_law_begun", .glo "_law_manner", .glo "_law_behind", .glo "_law_wrong", .glo "_law_hand", .glo "_law_draw", .glo "_law_movers", .glo "_law_some_weaving", .glo "_law_flag", .glo "_law_is", .glo "_law_shrunk", .glo "is_wrong_weaving", .glo "first_shorter", .glo "shrunk", .glo "_law_told", .glo "is_word_of", .glo "is_lot_below", .glo "is_row_of_hands", .glo "is_near", .glo "is_deed", .glo "is_script", .glo "is_inputs", .mkr "Play", .meth "Play" "__eq__", .glo "law"]
def exs (K : PySem.W.Frag) : List Bool := [cgB K "FIRST_CELL" [(.int 0), (.int 0), .non], ctB K "KINDS" ["sweep", "twice", "borrow", "levels", "names", "near", "chain"], ctB K "MANNERS" ["sweep", "twice", "borrow"], excB K "BadPlay" "part", excB K "NoWeaving" "index", excSubB K "NotWrong" "PictureError", excB0 K "NotWrong", clsIB K "Play", decide (PySem.W.subIn K (.type "tuple") (.ref (He.ga K "Play")) = some false)]
def ex (K : PySem.W.Frag) : Bool := (exs K).all id
theorem ex_at {K : PySem.W.Frag} (i : Nat) (e : ex K = true) {b : Bool} (h : (exs K)[i]? = some b := by rfl) : b = true := List.all_eq_true.mp e b (List.mem_of_getElem? h)
abbrev R : PySem.W.OpenRow := PySem.W.OpenLaw.row PySem.Challenge.rw_onepicture_k22_whole_weavings_shrunk
abbrev hk : PySem.W.Hook := hookQ fas fns ex
def ob (s : PySem.W.SharedT) : AlF := obsQ fas fns ex (HandSHeadRun.getT s)
theorem ob_eq (s : PySem.W.SharedT) : ob s = hk.obs s.abs := obsQ_eq (HandSHeadRun.getT_eq s)
abbrev ls0 : List Str := ["PictureError", "BadPlay", "NoWeaving", "NoManner", "NoCame", "NoTold", "NotWrong", "FIRST_CELL", "state_ahead", "first_in_manner", "puts_next", "step_in_manner", "behind_put", "behind_look", "behind_picture", "numbers_of", "picture_of_sweep", "borrowed", "is_whole", "is_number", "is_whole_within", "is_number_below", "is_word_of", "is_lot_below", "MANNERS", "KINDS", "MOST_HANDS", "MOST_DEEDS", "MOST_ROUNDS", "NEAR_MOST"]
abbrev ls1 : List Str := ["NUMBER_LIMIT", "LOT_LIMIT", "Play", "many_hands", "is_inputs", "is_row_of_hands", "is_near", "is_script", "is_deed", "fault", "is_told", "is_row_told", "most_told", "is_one_told", "is_pair", "is_picture", "is_group", "fault_of_pictures", "strangers_in", "at_most", "pairs_of", "has_all", "are_chain", "fault_of_levels", "fault_of_names", "fault_of_near", "fault_of_chain", "first_in_levels", "step_in_levels", "those_below"]
abbrev ls2 : List Str := ["first_in_seeing", "step_in_seeing", "step_in_names", "free_number", "step_in_near", "step_in_chain", "first_standing", "run", "standings_along", "is_hand", "first_of_hand", "standing_behind", "step_of_hand", "put_at", "moments", "standings_in_manner", "ended_looks", "goes_on", "picture_told", "shown", "moments_of_looks", "moments_of", "least_of", "is_wrong", "shrunk", "those_that_came", "first_shorter", "is_wrong_weaving", "_law_fresh", "_law_begun"]
abbrev ls3 : List Str := ["_law_manner", "_law_level", "_law_name", "_law_top", "_law_chain", "_law_behind", "_law_wrong", "_law_hand", "_law_draw", "_law_movers", "_law_some_weaving", "_law_flag", "_law_is", "_law_shrunk", "_law_told"]
abbrev ls : List Str := ls0 ++ ls1 ++ ls2 ++ ls3
theorem runA (w : World) : HandSHeadRun.RunEq R (PySem.W.view R.prog [116]) PySem.W.Hook.none (fun _ => ()) 8000 ls w := by
  intro os
  kernel_rfl
theorem runB (w : World) (os : OsState) : (topEnd R 8000 w os).map (fun s => obsQ fas fns ex (HandSHeadRun.getT s)) = some (valF fns) := by kernel_rfl
theorem run (w : World) : HandSHeadRun.RunEq R (PySem.W.view R.prog [116]) hk ob 8000 ls w := run_joinQ (runA w) (runB w)
end Kk22
set_option Elab.async false
set_option linter.all false
set_option maxRecDepth 100000
set_option maxHeartbeats 4000000
namespace Kk22
open PySem L2 FD
theorem fmod_lt {a b : Int} (h : 0 < b) : 0 ≤ a.fmod b ∧ a.fmod b < b := by
  rw [Int.fmod_eq_emod_of_nonneg a (by omega)]
  exact ⟨Int.emod_nonneg a (by omega), Int.emod_lt_of_pos a h⟩
mutual
def fine : D → Bool
  | .non => true
  | .bl _ => true
  | .int _ => true
  | .str z => okStr z
  | .tup xs => decide (xs.length ≤ 500) && fines xs
  | .lst xs => decide (xs.length ≤ 500) && fines xs
  | .emp => true
  | .obj c _ _ => c == "Play"
  | .hnd => false
  | .rng _ _ => false
  | .scr _ => false
  | .dct _ _ => false
def fines : List D → Bool
  | [] => true
  | d :: ds => fine d && fines ds
end
theorem fines_mem {ds : List D} : fines ds = true ↔ ∀ d ∈ ds, fine d = true := by
  induction ds with
  | nil => simp [fines]
  | cons d ds ih => simp [fines, ih]
theorem fine_tup {xs : List D} : fine (.tup xs) = true ↔ xs.length ≤ 500 ∧ ∀ d ∈ xs, fine d = true := by simp [fine, fines_mem]
theorem fine_lst {xs : List D} : fine (.lst xs) = true ↔ xs.length ≤ 500 ∧ ∀ d ∈ xs, fine d = true := by simp [fine, fines_mem]
def isInt : D → Bool
  | .int _ => true
  | _ => false
theorem is_whole_eq {d : D} (h : fine d = true) (g : Gh) : f_is_whole [d] g = some (.ok (.bl (isInt d)) g) := by
  cases d <;> simp_all [f_is_whole, b_is_whole, fnOf, isTyD, isTyB, isInt, fine]
def inR (a b : Int) : D → Bool
  | .int i => decide (a ≤ i) && decide (i ≤ b)
  | _ => false
theorem is_whole_within_eq (a b : Int) {d : D} (h : fine d = true) (g : Gh) : f_is_whole_within [.int a, .int b, d] g = some (.ok (.bl (inR a b d)) g) := by
  have := is_whole_eq h g
  simp [f_is_whole_within, b_is_whole_within, fnOf, this]
  cases d <;> simp [isInt, inR]
  rename_i i
  by_cases h1 : a ≤ i <;> simp [h1]
theorem is_number_below_eq (l : Int) {d : D} (h : fine d = true) (g : Gh) : f_is_number_below [.int l, d] g = some (.ok (.bl (inR 0 (l - 1) d)) g) := by
  simp [f_is_number_below, b_is_number_below, fnOf, is_whole_within_eq 0 (l - 1) h g]
def isW (ws : List Str) : D → Bool
  | .str z => ws.contains z
  | _ => false
theorem inV_strs (z : Str) : ∀ ws : List Str, inV (.str z) (ws.map V.str) = ws.contains z
  | [] => rfl
  | w :: ws => by
    have ih := inV_strs z ws
    simp only [inV] at ih
    simp only [List.map_cons, inV, List.any_cons, ih, List.contains_cons, eqV]
    congr 1
    exact Bool.beq_comm
theorem inD_strs (z : Str) (ws : List Str) : inD (.str z) (.tup (ws.map .str)) = some (.bl (ws.contains z)) := by
  have h1 : (ws.map D.str).all flatD = true := by simp [flatD]
  have h2 : (ws.map D.str).map toV = ws.map V.str := by simp [toV]
  simp [inD, inB, flatD, h1, h2, inV_strs, toV]
theorem inD_strsL (z : Str) (ws : List Str) : inD (.str z) (.lst (ws.map .str)) = some (.bl (ws.contains z)) := by
  have h1 : (ws.map D.str).all flatD = true := by simp [flatD]
  have h2 : (ws.map D.str).map toV = ws.map V.str := by simp [toV]
  simp [inD, inB, flatD, h1, h2, inV_strs, toV]
theorem notInD_strsL (z : Str) (ws : List Str) : notInD (.str z) (.lst (ws.map .str)) = some (.bl (!ws.contains z)) := by
  have h1 : (ws.map D.str).all flatD = true := by simp [flatD]
  have h2 : (ws.map D.str).map toV = ws.map V.str := by simp [toV]
  simp [notInD, inB, flatD, h1, h2, inV_strs, toV]
theorem is_word_of_eq (ws : List Str) {d : D} (h : fine d = true) (g : Gh) : f_is_word_of [.tup (ws.map .str), d] g = some (.ok (.bl (isW ws d)) g) := by
  cases d <;> simp_all [f_is_word_of, b_is_word_of, fnOf, isTyD, isTyB, isW, fine, inD_strs]
def deedB : D → Bool
  | .tup [x] => isW ["see"] x
  | .tup [x, y] => isW ["put"] x && inR 0 999 y
  | _ => false
theorem is_word_one (w : Str) {d : D} (h : fine d = true) (g : Gh) : f_is_word_of [.tup [.str w], d] g = some (.ok (.bl (isW [w] d)) g) := is_word_of_eq [w] h g
theorem is_deed_eq {d : D} (h : fine d = true) (g : Gh) : f_is_deed [d] g = some (.ok (.bl (deedB d)) g) := by
  cases d with
  | tup xs =>
    obtain ⟨hl, hm⟩ := fine_tup.mp h
    match xs, hl, hm with
    | [], _, _ => simp [f_is_deed, b_is_deed, fnOf, isTyD, isTyB, sSeq, deedB]
    | [x], _, hm =>
      have hx := hm x (by simp)
      simp [f_is_deed, b_is_deed, fnOf, isTyD, isTyB, sSeq, deedB, ixD_tup, is_word_one, hx]
    | [x, y], _, hm =>
      have hx := hm x (by simp)
      have hy := hm y (by simp)
      have hb := is_number_below_eq 1000 hy g
      simp [f_is_deed, b_is_deed, fnOf, isTyD, isTyB, sSeq, deedB, ixD_tup, is_word_one, hx, hb, k_NUMBER_LIMIT]
      cases isW [Str.ofString "put"] x <;> simp
    | x :: y :: z :: r, hl, _ =>
      have e1 : ((r.length : Int) + 1 + 1 + 1 == 1) = false := by simp; omega
      have e2 : ((r.length : Int) + 1 + 1 + 1 == 2) = false := by simp; omega
      simp [f_is_deed, b_is_deed, fnOf, isTyD, isTyB, sSeq, deedB, e1, e2]
  | hnd => simp [fine] at h
  | rng => simp [fine] at h
  | scr => simp [fine] at h
  | dct => simp [fine] at h
  | obj c ks ds => simp_all [f_is_deed, b_is_deed, fnOf, isTyD, isTyB, sSeq, deedB, fine]
  | _ => simp [f_is_deed, b_is_deed, fnOf, isTyD, isTyB, sSeq, deedB]
theorem okS {z : Str} (h : z.cps.all (· < 0x110000) = true) : okStr z = true := by
  unfold okStr
  simpa [PyData.canLay0, PyData.strOk] using h
def scriptB : D → Bool
  | .tup xs => decide (xs.length ≤ 6) && xs.all deedB
  | _ => false
theorem is_script_eq {d : D} (h : fine d = true) (g : Gh) : f_is_script [d] g = some (.ok (.bl (scriptB d)) g) := by
  cases d with
  | tup xs =>
    obtain ⟨hl, hm⟩ := fine_tup.mp h
    have hc : compD (gN 1) tY (cFn 1 f_is_deed (cC (cV 1) cN)) xs (blkE [.dt (.tup xs), .un] [1]) g = some (.ok (xs.map fun d => .bl (deedB d)) g) := by
      refine compD_map fun d hd => ⟨_, rfl, ?_⟩
      have := is_deed_eq (hm d hd) g
      simp [blkE, wipeE, hideE, this]
    by_cases h6 : xs.length ≤ 6
    · have e1 : ¬ (6 : Int) < xs.length := by omega
      have e2 : xs.length ≤ 1000 := by omega
      simp [f_is_script, b_is_script, fnOf, isTyD, isTyB, sSeq, scriptB, k_MOST_DEEDS, e1, hc, h6, e2, allD_map]
    · have e1 : (6 : Int) < xs.length := by omega
      simp [f_is_script, b_is_script, fnOf, isTyD, isTyB, sSeq, scriptB, k_MOST_DEEDS, e1, h6]
  | hnd => simp [fine] at h
  | rng => simp [fine] at h
  | scr => simp [fine] at h
  | dct => simp [fine] at h
  | obj c ks ds => simp_all [f_is_script, b_is_script, fnOf, isTyD, isTyB, sSeq, scriptB, fine]
  | _ => simp [f_is_script, b_is_script, fnOf, isTyD, isTyB, sSeq, scriptB]
def rowB : D → Bool
  | .tup xs => decide (1 ≤ xs.length) && decide (xs.length ≤ 5)
  | _ => false
theorem is_row_eq {d : D} (h : fine d = true) (g : Gh) : f_is_row_of_hands [d] g = some (.ok (.bl (rowB d)) g) := by
  cases d with
  | tup xs =>
    by_cases h1 : 1 ≤ xs.length
    · have e1 : (1 : Int) ≤ xs.length := by omega
      have e2 : (decide ((xs.length : Int) ≤ 5)) = decide (xs.length ≤ 5) := by
        by_cases h5 : xs.length ≤ 5
        · rw [decide_eq_true h5, decide_eq_true (by omega)]
        · rw [decide_eq_false h5, decide_eq_false (by omega)]
      simp [f_is_row_of_hands, b_is_row_of_hands, fnOf, isTyD, isTyB, rowB, k_MOST_HANDS, e1, h1, e2]
    · have e1 : ¬ (1 : Int) ≤ xs.length := by omega
      simp [f_is_row_of_hands, b_is_row_of_hands, fnOf, isTyD, isTyB, rowB, k_MOST_HANDS, e1, h1]
  | hnd => simp [fine] at h
  | rng => simp [fine] at h
  | scr => simp [fine] at h
  | dct => simp [fine] at h
  | obj c ks ds =>
    have hc : c = "Play" := by simpa [fine] using h
    subst hc
    simp [f_is_row_of_hands, b_is_row_of_hands, fnOf, isTyD, isTyB, rowB]
  | _ => simp [f_is_row_of_hands, b_is_row_of_hands, fnOf, isTyD, isTyB, rowB]
abbrev MAN : List Str := ["sweep", "twice", "borrow"]
abbrev KIN : List Str := ["sweep", "twice", "borrow", "levels", "names", "near", "chain"]
theorem kMAN : k_MANNERS = .tup (MAN.map .str) := rfl
theorem kKIN : k_KINDS = .tup (KIN.map .str) := rfl
theorem ok7 : ∀ k ∈ KIN, okStr k = true := by
  intro k hk
  simp only [List.mem_cons, List.not_mem_nil, or_false] at hk
  rcases hk with rfl | rfl | rfl | rfl | rfl | rfl | rfl <;> exact okS (by decide +kernel)
theorem okW {z : Str} (h : z ∈ KIN) (w : Str) (hw : okStr w = true) : eqD (.str z) (.str w) = some (.bl (z == w)) := eqD_str (ok7 z h) hw
def plain : Nat → D → Bool
  | 0, _ => false
  | _ + 1, .non => true
  | _ + 1, .bl _ => true
  | _ + 1, .int _ => true
  | _ + 1, .str z => okStr z
  | n + 1, .tup xs => decide (xs.length ≤ 500) && xs.all (plain n)
  | _ + 1, _ => false
theorem plain_tup {n : Nat} {xs : List D} : plain (n + 1) (.tup xs) = true ↔ xs.length ≤ 500 ∧ ∀ d ∈ xs, plain n d = true := by
  simp [plain]
theorem plain_mono {n : Nat} : ∀ {d : D}, plain n d = true → plain (n + 1) d = true := by
  induction n with
  | zero => intro d h; simp [plain] at h
  | succ n ih =>
    intro d h
    cases d with
    | tup xs =>
      rw [plain_tup] at h ⊢
      exact ⟨h.1, fun d hd => ih (h.2 d hd)⟩
    | _ => simpa [plain] using h
def pyOk (n : Nat) (d : D) : Prop := ∃ p, d.py = some p ∧ p.canLay0 = true ∧ p.depth ≤ n ∧ PyData.eqv p p = true
def pysOk (n : Nat) (ds : List D) : Prop := ∃ ps, D.pys ds = some ps ∧ PyData.canLayAll0 ps = true ∧ PyData.depthAll ps ≤ n ∧ PyData.eqvAll ps ps = true
theorem pysOk_of {n : Nat} : ∀ {ds : List D}, (∀ d ∈ ds, pyOk n d) → pysOk n ds
  | [], _ => ⟨[], rfl, rfl, Nat.zero_le _, rfl⟩
  | d :: ds, h => by
    obtain ⟨p, h1, h2, h3, h4⟩ := h d (by simp)
    obtain ⟨ps, e1, e2, e3, e4⟩ := pysOk_of (ds := ds) fun d hd => h d (by simp [hd])
    refine ⟨p :: ps, by simp [D.pys, h1, e1], by simp [PyData.canLayAll0, h2, e2], ?_, by simp [PyData.eqvAll, h4, e4]⟩
    simp only [PyData.depthAll]
    omega
theorem plain_py {n : Nat} : ∀ {d : D}, plain n d = true → pyOk n d := by
  induction n with
  | zero => intro d h; simp [plain] at h
  | succ n ih =>
    intro d h
    cases d with
    | non => exact ⟨_, rfl, rfl, by simp [PyData.depth], rfl⟩
    | bl b => exact ⟨_, rfl, rfl, by simp [PyData.depth], by simp [PyData.eqv]⟩
    | int i => exact ⟨_, rfl, rfl, by simp [PyData.depth], by simp [PyData.eqv]⟩
    | str z => exact ⟨_, rfl, h, by simp [PyData.depth], by simp [PyData.eqv]⟩
    | tup xs =>
      obtain ⟨ps, e1, e2, e3, e4⟩ := pysOk_of (ds := xs) fun d hd => ih ((plain_tup.mp h).2 d hd)
      refine ⟨.tuple ps, by simp [D.py, e1], by simp [PyData.canLay0, e2], ?_, by simp [PyData.eqv, e4]⟩
      simp only [PyData.depth]
      omega
    | _ => simp [plain] at h
theorem plain_fine {n : Nat} : ∀ {d : D}, plain n d = true → fine d = true := by
  induction n with
  | zero => intro d h; simp [plain] at h
  | succ n ih =>
    intro d h
    cases d with
    | tup xs =>
      rw [plain_tup] at h
      rw [fine_tup]
      exact ⟨h.1, fun d hd => ih (h.2 d hd)⟩
    | str z => exact h
    | lst z => simp [plain] at h
    | obj z => simp [plain] at h
    | hnd => simp [plain] at h
    | rng => simp [plain] at h
    | scr => simp [plain] at h
    | dct => simp [plain] at h
    | _ => rfl
def eqP (a b : D) : Bool := match a.py, b.py with
  | some p, some q => PyData.eqv p q
  | _, _ => false
theorem shaped_of {p : PyData} {n : Nat} (h : p.canLay0 = true) (hd : p.depth ≤ n) (hn : n ≤ 64) : SeqAt.shaped p = true := by
  unfold SeqAt.shaped
  rw [h, decide_eq_true (by omega)]; rfl
theorem eqB_plain {n m : Nat} {a b : D} (ha : plain n a = true) (hb : plain m b = true) (hn : n ≤ 64) (hm : m ≤ 64) : eqB a b = some (eqP a b) := by
  obtain ⟨p, h1, h2, h3, h4⟩ := plain_py ha
  obtain ⟨q, e1, e2, e3, e4⟩ := plain_py hb
  simp only [eqB, eqP, h1, e1]
  exact if_pos ⟨shaped_of h2 h3 hn, shaped_of e2 e3 hm⟩
theorem eqD_plain {n m : Nat} {a b : D} (ha : plain n a = true) (hb : plain m b = true) (hn : n ≤ 64) (hm : m ≤ 64) : eqD a b = some (.bl (eqP a b)) := by
  unfold eqD; rw [eqB_plain ha hb hn hm]; rfl
theorem eqP_refl {n : Nat} {a : D} (ha : plain n a = true) : eqP a a = true := by
  obtain ⟨p, h1, h2, h3, h4⟩ := plain_py ha
  simp [eqP, h1, h4]
theorem eqP_pair {n m : Nat} {a b c d : D} (ha : plain n a = true) (hb : plain n b = true) (hc : plain m c = true) (hd : plain m d = true) : eqP (.tup [a, b]) (.tup [c, d]) = (eqP a c && eqP b d) := by
  obtain ⟨p, h1, _⟩ := plain_py ha
  obtain ⟨q, h2, _⟩ := plain_py hb
  obtain ⟨r, h3, _⟩ := plain_py hc
  obtain ⟨s, h4, _⟩ := plain_py hd
  simp [eqP, D.py, D.pys, h1, h2, h3, h4, PyData.eqv, PyData.eqvAll]
theorem zip_self (xs : List D) : ((xs.zip xs).map fun p => D.tup [p.1, p.2]) = xs.map fun x => D.tup [x, x] := by
  induction xs with
  | nil => rfl
  | cons x xs ih => simp [ih]
theorem plain_le {n : Nat} {d : D} : ∀ (k : Nat), plain n d = true → plain (n + k) d = true
  | 0, h => h
  | k + 1, h => plain_mono (plain_le k h)
def thePlay (k d : D) : D := .obj "Play" ["kind", "inputs"] [k, d]
end Kk22
set_option Elab.async false
set_option linter.all false
set_option maxRecDepth 100000
set_option maxHeartbeats 4000000
namespace Kk22
open PySem L2 FD
def TM {α : Type} (m : Gh → M α) (P : α → Prop) : Prop := ∀ g, HOK g → Sat (m g) (fun d g' => P d ∧ HOK g')
theorem TM.imp {α : Type} {m : Gh → M α} {P Q : α → Prop} (h : TM m P) (k : ∀ a, P a → Q a) : TM m Q := fun g hg => (h g hg).imp fun a _ p => ⟨k a p.1, p.2⟩
theorem TM.bd {α β : Type} {m : Gh → M α} {k : α → Gh → M β} {P : α → Prop} {Q : β → Prop} (h : TM m P) (hk : ∀ a, P a → TM (k a) Q) : TM (fun g => (m g).bd k) Q := fun g hg => Sat.bd (h g hg) fun a g1 p => hk a p.1 g1 p.2
theorem TM.pure {α : Type} {a : α} {P : α → Prop} (h : P a) : TM (fun g => some (.ok a g)) P := fun g hg => .ok ⟨h, hg⟩
theorem TM.of {α : Type} {m : Gh → M α} {a : α} {P : α → Prop} (h : P a) (e : ∀ g, m g = some (.ok a g)) : TM m P := fun g hg => ⟨a, g, e g, h, hg⟩
theorem te_d {ρ : List En} {d : D} {P : D → Prop} (h : P d) : TM (cD d ρ) P := TM.pure h
theorem te_v {ρ : List En} {i : Nat} {d : D} {P : D → Prop} (e : ρ[i]? = some (.dt d)) (h : P d) : TM (cV i ρ) P := by
  refine TM.of h fun g => ?_
  simp only [cV, e]
theorem ta_n {ρ : List En} {P : List D → Prop} (h : P []) : TM (cN ρ) P := TM.pure h
theorem ta_c {ρ : List En} {a : FE} {b : FA} {P : D → Prop} {R : List D → Prop} {Q : List D → Prop} (ha : TM (a ρ) P) (hb : TM (b ρ) R) (h : ∀ x xs, P x → R xs → Q (x :: xs)) : TM (cC a b ρ) Q := by
  show TM (fun g => (a ρ g).bd _) Q
  refine TM.bd ha fun x hx => ?_
  refine TM.bd hb fun xs hxs => ?_
  exact TM.pure (h x xs hx hxs)
def Each (Ps : List (D → Prop)) (xs : List D) : Prop := xs.length = Ps.length ∧ ∀ p ∈ Ps.zip xs, p.1 p.2
theorem each_n {ρ : List En} : TM (cN ρ) (fun xs => xs = []) := ta_n rfl
theorem te_tup {ρ : List En} {a : FA} {R : List D → Prop} {P : D → Prop} (ha : TM (a ρ) R) (h : ∀ xs, R xs → xs.length ≤ 1000 ∧ P (.tup xs)) : TM (cTup a ρ) P := by
  show TM (fun g => (a ρ g).bd _) P
  refine TM.bd ha fun xs hx => ?_
  refine TM.of (h xs hx).2 fun g => ?_
  exact if_pos (h xs hx).1
theorem te_lst {ρ : List En} {a : FA} {R : List D → Prop} {P : D → Prop} (ha : TM (a ρ) R) (h : ∀ xs, R xs → xs.length ≤ 1000 ∧ P (.lst xs)) : TM (cLst a ρ) P := by
  show TM (fun g => (a ρ g).bd _) P
  refine TM.bd ha fun xs hx => ?_
  refine TM.of (h xs hx).2 fun g => ?_
  exact if_pos (h xs hx).1
theorem te_op {ρ : List En} {op : D → D → Option D} {a b : FE} {P R Q : D → Prop} (ha : TM (a ρ) P) (hb : TM (b ρ) R) (h : ∀ x y, P x → R y → ∃ z, op x y = some z ∧ Q z) : TM (cOp op a b ρ) Q := by
  show TM (fun g => (a ρ g).bd _) Q
  refine TM.bd ha fun x hx => TM.bd hb fun y hy => ?_
  obtain ⟨z, e, q⟩ := h x y hx hy
  refine TM.of q fun g => ?_
  rw [e]; rfl
theorem te_1 {ρ : List En} {op : D → Option D} {a : FE} {P Q : D → Prop} (ha : TM (a ρ) P) (h : ∀ x, P x → ∃ z, op x = some z ∧ Q z) : TM (c1 op a ρ) Q := by
  show TM (fun g => (a ρ g).bd _) Q
  refine TM.bd ha fun x hx => ?_
  obtain ⟨z, e, q⟩ := h x hx
  refine TM.of q fun g => ?_
  rw [e]; rfl
theorem te_call {ρ : List En} {op : List D → Option D} {a : FA} {R : List D → Prop} {Q : D → Prop} (ha : TM (a ρ) R) (h : ∀ x, R x → ∃ z, op x = some z ∧ Q z) : TM (cCall op a ρ) Q := by
  show TM (fun g => (a ρ g).bd _) Q
  refine TM.bd ha fun x hx => ?_
  obtain ⟨z, e, q⟩ := h x hx
  refine TM.of q fun g => ?_
  rw [e]; rfl
theorem te_fn {ρ : List En} {n : Nat} {Fn : List D → Gh → M D} {a : FA} {R : List D → Prop} {P : D → Prop} (ha : TM (a ρ) R) (h : ∀ xs, R xs → xs.length = n ∧ TM (Fn xs) P) : TM (cFn n Fn a ρ) P := by
  show TM (fun g => (a ρ g).bd _) P
  refine TM.bd ha fun xs hx => fun g hg => ?_
  obtain ⟨hl, hf⟩ := h xs hx
  obtain ⟨d, g', e, p⟩ := hf g hg
  refine ⟨d, g', ?_, p⟩
  show (if xs.length = n then noX (Fn xs g) else none) = _
  rw [if_pos hl, e]; rfl
theorem tt_t {ρ : List En} {a : FE} {P : D → Prop} {Q : Bool → Prop} (ha : TM (a ρ) P) (h : ∀ x, P x → ∃ b, toB x = some b ∧ Q b) : TM (cT a ρ) Q := by
  show TM (fun g => (a ρ g).bd _) Q
  refine TM.bd ha fun x hx => ?_
  obtain ⟨z, e, q⟩ := h x hx
  refine TM.of q fun g => ?_
  rw [e]; rfl
theorem tt_and {ρ : List En} {a b : FT} {P Q R : Bool → Prop} (ha : TM (a ρ) P) (hb : P true → TM (b ρ) R) (h1 : P false → Q false) (h2 : ∀ y, P true → R y → Q y) : TM (cAnd a b ρ) Q := by
  show TM (fun g => (a ρ g).bd _) Q
  refine TM.bd ha fun x hx => ?_
  cases x with
  | false => exact TM.of (h1 hx) fun g => rfl
  | true => exact (hb hx).imp fun y hy => h2 y hx hy
theorem ts_ret {ρ : List En} {a : FE} {P : D → Prop} {Q : Fl → Prop} (ha : TM (a ρ) P) (h : ∀ x, P x → Q (.rt x)) : TM (sRet a ρ) Q := by
  show TM (fun g => (a ρ g).bd _) Q
  exact TM.bd ha fun x hx => TM.pure (h x hx)
theorem ts_asg {ρ : List En} {a : FE} {gs : FG} {P : D → Prop} {Q : Fl → Prop} (ha : TM (a ρ) P) (h : ∀ x, P x → ∃ ρ1, gs x ρ = some ρ1 ∧ Q (.nx ρ1)) : TM (sAsg a gs ρ) Q := by
  show TM (fun g => (a ρ g).bd _) Q
  refine TM.bd ha fun x hx => ?_
  obtain ⟨ρ1, e, q⟩ := h x hx
  refine TM.of q fun g => ?_
  rw [e]
theorem ts_if {ρ : List En} {c : FT} {a b : FS} {P : Bool → Prop} {Q : Fl → Prop} (hc : TM (c ρ) P) (ha : P true → TM (a ρ) Q) (hb : P false → TM (b ρ) Q) : TM (sIf c a b ρ) Q := by
  show TM (fun g => (c ρ g).bd _) Q
  refine TM.bd hc fun x hx => ?_
  cases x with
  | true => exact ha hx
  | false => exact hb hx
theorem ts_seq {ρ : List En} {a b : FS} {Q : Fl → Prop} {I : List En → Prop} (ha : TM (a ρ) (fun f => ∃ ρ1, f = .nx ρ1 ∧ I ρ1)) (hb : ∀ ρ1, I ρ1 → TM (b ρ1) Q) : TM (sSeq a b ρ) Q := fun g hg => by
  obtain ⟨_, g1, e, ⟨ρ1, rfl, i⟩, hg1⟩ := ha g hg
  obtain ⟨f, g2, e2, q⟩ := hb ρ1 i g1 hg1
  exact ⟨f, g2, (sSeq_nx e).trans e2, q⟩
theorem ts_seq2 {ρ : List En} {a b : FS} {P : D → Prop} {I : List En → Prop} (ha : TM (a ρ) (fun f => (∃ ρ1, f = .nx ρ1 ∧ I ρ1) ∨ ∃ d, f = .rt d ∧ P d)) (hb : ∀ ρ1, I ρ1 → TM (b ρ1) (fun f => ∃ d, f = .rt d ∧ P d)) : TM (sSeq a b ρ) (fun f => ∃ d, f = .rt d ∧ P d) := fun g hg => by
  obtain ⟨f, g1, e, h, hg1⟩ := ha g hg
  rcases h with ⟨ρ1, rfl, i⟩ | ⟨d, rfl, p⟩
  · obtain ⟨f, g2, e2, q⟩ := hb ρ1 i g1 hg1
    exact ⟨f, g2, (sSeq_nx e).trans e2, q⟩
  · exact ⟨_, g1, sSeq_rt e, ⟨d, rfl, p⟩, hg1⟩
theorem ts_ifret {ρ : List En} {c : FT} {a b : FS} {B : Bool → Prop} {P : D → Prop} (hc : TM (c ρ) B) (ha : B true → TM (a ρ) (fun f => ∃ d, f = .rt d ∧ P d)) (hb : B false → TM (b ρ) (fun f => ∃ d, f = .rt d ∧ P d)) : TM (sSeq (sIf c a sNx) b ρ) (fun f => ∃ d, f = .rt d ∧ P d) := by
  refine ts_seq2 (I := fun ρ1 => ρ1 = ρ ∧ B false) (ts_if hc (fun h => (ha h).imp fun f q => .inr q) (fun h => TM.pure (.inl ⟨ρ, rfl, rfl, h⟩))) ?_
  rintro ρ1 ⟨rfl, h⟩
  exact hb h
theorem tf_fn {N : Nat} {b : FS} {ds : List D} {P : D → Prop} (h : TM (b (ds.map .dt ++ List.replicate (N - ds.length) .un)) (fun f => ∃ d, f = .rt d ∧ P d)) : TM (fun g => noX (fnOf N b ds g)) P := fun g hg => by
  obtain ⟨_, g1, e, ⟨d, rfl, p⟩, hg1⟩ := h g hg
  refine ⟨d, g1, ?_, p, hg1⟩
  show noX (fnOf N b ds g) = _
  unfold fnOf
  rw [e]; rfl
def Fit : List (D → Prop) → List D → Prop
  | [], [] => True
  | p :: ps, x :: xs => p x ∧ Fit ps xs
  | _, _ => False
theorem fa_n {ρ : List En} : TM (cN ρ) (Fit []) := ta_n trivial
theorem fa_c {ρ : List En} {a : FE} {b : FA} {P : D → Prop} {Ps : List (D → Prop)} (ha : TM (a ρ) P) (hb : TM (b ρ) (Fit Ps)) : TM (cC a b ρ) (Fit (P :: Ps)) := ta_c ha hb fun x xs p q => ⟨p, q⟩
theorem fit1 {P : D → Prop} {xs : List D} (h : Fit [P] xs) : ∃ x, xs = [x] ∧ P x := by
  match xs, h with
  | [x], h => exact ⟨x, rfl, h.1⟩
theorem fit2 {P Q : D → Prop} {xs : List D} (h : Fit [P, Q] xs) : ∃ x y, xs = [x, y] ∧ P x ∧ Q y := by
  match xs, h with
  | [x, y], h => exact ⟨x, y, rfl, h.1, h.2.1⟩
theorem fit3 {P Q R : D → Prop} {xs : List D} (h : Fit [P, Q, R] xs) : ∃ x y z, xs = [x, y, z] ∧ P x ∧ Q y ∧ R z := by
  match xs, h with
  | [x, y, z], h => exact ⟨x, y, z, rfl, h.1, h.2.1, h.2.2.1⟩
def Menu (n : Nat) (P : D → Prop) (xs : List D) : Prop := xs.length = n ∧ ∀ x ∈ xs, P x
theorem me_n {ρ : List En} {P : D → Prop} : TM (cN ρ) (Menu 0 P) := ta_n ⟨rfl, fun x h => by simp at h⟩
theorem me_c {ρ : List En} {a : FE} {b : FA} {P : D → Prop} {n : Nat} (ha : TM (a ρ) P) (hb : TM (b ρ) (Menu n P)) : TM (cC a b ρ) (Menu (n + 1) P) := ta_c ha hb fun x xs p q => ⟨by simp [q.1], fun y hy => by
  rcases List.mem_cons.mp hy with rfl | h
  · exact p
  · exact q.2 y h⟩
theorem t_comp {gs : FG} {fe : FE} {ρ : List En} {P : D → Prop} : ∀ {ds : List D}, (∀ d ∈ ds, ∃ ρ1, gs d ρ = some ρ1 ∧ TM (fe ρ1) P) → TM (compD gs tY fe ds ρ) (fun ys => ys.length = ds.length ∧ ∀ y ∈ ys, P y)
  | [], _ => TM.pure ⟨rfl, fun y hy => by simp at hy⟩
  | d :: ds, h => fun g hg => by
    obtain ⟨ρ1, e1, h1⟩ := h d (by simp)
    obtain ⟨y, g2, e2, p, hg2⟩ := h1 g hg
    obtain ⟨ys, g3, e3, ⟨q1, q2⟩, hg3⟩ := t_comp (ds := ds) (fun d hd => h d (by simp [hd])) g2 hg2
    refine ⟨y :: ys, g3, ?_, ⟨by simp [q1], fun z hz => ?_⟩, hg3⟩
    · simp [compD, e1, e2, e3]
    · rcases List.mem_cons.mp hz with rfl | hz
      · exact p
      · exact q2 z hz
theorem t_compF {gs : FG} {ft : FT} {fe : FE} {ρ : List En} : ∀ {ds : List D}, (∀ d ∈ ds, ∃ ρ1, gs d ρ = some ρ1 ∧ TM (ft ρ1) (fun _ => True) ∧ TM (fe ρ1) (fun y => y = d)) → TM (compD gs ft fe ds ρ) (fun ys => ys.Sublist ds)
  | [], _ => TM.pure (List.Sublist.refl _)
  | d :: ds, h => fun g hg => by
    obtain ⟨ρ1, e1, h0, h1⟩ := h d (by simp)
    obtain ⟨b, g1, e0, _, hg1⟩ := h0 g hg
    cases b with
    | false =>
      obtain ⟨ys, g3, e3, q, hg3⟩ := t_compF (ds := ds) (fun d hd => h d (by simp [hd])) g1 hg1
      exact ⟨ys, g3, by simp [compD, e1, e0, e3], q.cons _, hg3⟩
    | true =>
      obtain ⟨y, g2, e2, rfl, hg2⟩ := h1 g1 hg1
      obtain ⟨ys, g3, e3, q, hg3⟩ := t_compF (ds := ds) (fun d hd => h d (by simp [hd])) g2 hg2
      exact ⟨y :: ys, g3, by simp [compD, e1, e0, e2, e3], q.cons₂ _, hg3⟩
theorem te_lc {fi : FI} {vs : List Nat} {gs : FG} {ft : FT} {fe : FE} {ρ : List En} {ds : List D} {R : List D → Prop} {Q : D → Prop} (hi : TM (fi ρ) (fun xs => xs = ds)) (hc : TM (compD gs ft fe ds (blkE ρ vs)) R) (h : ∀ ys, R ys → ys.length ≤ 1000 ∧ Q (.lst ys)) : TM (cLc fi vs gs ft fe ρ) Q := by
  show TM (fun g => (fi ρ g).bd _) Q
  refine TM.bd hi ?_
  rintro xs rfl
  show TM (fun g => (compD gs ft fe xs (blkE ρ vs) g).bd _) Q
  refine TM.bd hc fun ys hy => TM.of (h ys hy).2 fun g => if_pos (h ys hy).1
theorem ti_rng {ρ : List En} {a : FE} {j : Int} (h0 : 0 ≤ j) (h1 : j ≤ 100000) (ha : TM (a ρ) (fun d => d = .int j)) : TM (iR1 (cC a cN) ρ) (fun xs => xs = rngD 0 j.toNat) := by
  show TM (fun g => (cC a cN ρ g).bd _) _
  refine TM.bd (fa_c ha fa_n) fun xs h => ?_
  obtain ⟨x, rfl, rfl⟩ := fit1 h
  refine TM.of rfl fun g => ?_
  rw [rng1_int h0 h1]; rfl
theorem rng_len (a : Int) (n : Nat) : (rngD a n).length = n := by simp [rngD]
theorem t_loop {gs : FG} {fb : FS} {I : Nat → List En → Prop} (h : ∀ d n ρ, I n ρ → ∃ ρ1, gs d ρ = some ρ1 ∧ TM (fb ρ1) (fun f => ∃ ρ2, f = .nx ρ2 ∧ I (n + 1) ρ2)) : ∀ (ds : List D) (n : Nat) (ρ : List En), I n ρ → TM (loopD gs fb ds ρ) (fun f => ∃ ρ2, f = .nx ρ2 ∧ I (n + ds.length) ρ2)
  | [], n, ρ, i => TM.pure ⟨ρ, rfl, i⟩
  | d :: ds, n, ρ, i => fun g hg => by
    obtain ⟨ρ1, h1, hb⟩ := h d n ρ i
    obtain ⟨f, g2, e, ⟨ρ2, rfl, i2⟩, hg2⟩ := hb g hg
    obtain ⟨f3, g3, e3, ⟨ρ3, rfl, i3⟩, hg3⟩ := t_loop h ds (n + 1) ρ2 i2 g2 hg2
    refine ⟨_, g3, ?_, ⟨ρ3, rfl, ?_⟩, hg3⟩
    · unfold loopD
      rw [h1]
      simp only [e]
      exact e3
    · rw [List.length_cons, show n + (ds.length + 1) = n + 1 + ds.length by omega]; exact i3
theorem ts_for {ρ : List En} {fi : FI} {gs : FG} {fb : FS} {ds : List D} {Q : Fl → Prop} (hi : TM (fi ρ) (fun xs => xs = ds)) (hl : TM (loopD gs fb ds ρ) Q) : TM (sFor fi gs fb ρ) Q := by
  show TM (fun g => (fi ρ g).bd _) Q
  refine TM.bd hi ?_
  rintro xs rfl
  exact hl
theorem ts_app {ρ : List En} {i : Nat} {a : FE} {xs : List D} {P : D → Prop} {Q : Fl → Prop} (hi : ρ[i]? = some (.own xs)) (hl : xs.length ≤ 1000) (ha : TM (a ρ) P) (h : ∀ y, P y → Q (.nx (ρ.set i (.own (xs ++ [y]))))) : TM (sApp i a ρ) Q := by
  have e : sApp i a ρ = fun g => (a ρ g).bd fun y g1 => if xs.length ≤ 1000 then some (.ok (.nx (ρ.set i (.own (xs ++ [y])))) g1) else none := by
    funext g
    simp only [sApp, hi]
  rw [e]
  exact TM.bd ha fun y hy => TM.of (h y hy) fun g => if_pos hl
theorem ts_own {ρ : List En} {i : Nat} {Q : Fl → Prop} (h : Q (.nx (ρ.set i (.own [])))) : TM (sOwn i ρ) Q := TM.pure h
theorem ts_frz {ρ : List En} {i : Nat} {b : FS} {xs : List D} {Q : Fl → Prop} (hi : ρ[i]? = some (.own xs)) (hb : TM (b (ρ.set i (.dt (.lst xs)))) Q) : TM (sFrz i b ρ) Q := by
  have e : sFrz i b ρ = b (ρ.set i (.dt (.lst xs))) := by
    funext g
    simp only [sFrz, hi]
  rw [e]
  exact hb
theorem te_of {α : Type} {m : Gh → M α} {a : α} {P : α → Prop} (e : ∀ g, m g = some (.ok a g)) (h : P a) : TM m P := TM.of h e
theorem ts_forR {ρ : List En} {fi : FI} {gs : FG} {fb : FS} {R : List D → Prop} {Q : Fl → Prop} (hi : TM (fi ρ) R) (hl : ∀ xs, R xs → TM (loopD gs fb xs ρ) Q) : TM (sFor fi gs fb ρ) Q := by
  show TM (fun g => (fi ρ g).bd _) Q
  exact TM.bd hi fun xs h => hl xs h
theorem t_loopN {gs : FG} {fb : FS} {N : Nat} {I : Nat → List En → Prop} (h : ∀ d n ρ, n < N → I n ρ → ∃ ρ1, gs d ρ = some ρ1 ∧ TM (fb ρ1) (fun f => ∃ ρ2, f = .nx ρ2 ∧ I (n + 1) ρ2)) : ∀ (ds : List D) (n : Nat) (ρ : List En), n + ds.length ≤ N → I n ρ → TM (loopD gs fb ds ρ) (fun f => ∃ ρ2, f = .nx ρ2 ∧ I (n + ds.length) ρ2)
  | [], n, ρ, _, i => TM.pure ⟨ρ, rfl, i⟩
  | d :: ds, n, ρ, hn, i => fun g hg => by
    simp only [List.length_cons] at hn
    obtain ⟨ρ1, h1, hb⟩ := h d n ρ (by omega) i
    obtain ⟨f, g2, e, ⟨ρ2, rfl, i2⟩, hg2⟩ := hb g hg
    obtain ⟨f3, g3, e3, ⟨ρ3, rfl, i3⟩, hg3⟩ := t_loopN h ds (n + 1) ρ2 (by omega) i2 g2 hg2
    refine ⟨_, g3, ?_, ⟨ρ3, rfl, ?_⟩, hg3⟩
    · unfold loopD
      rw [h1]
      simp only [e]
      exact e3
    · rw [List.length_cons, show n + (ds.length + 1) = n + 1 + ds.length by omega]; exact i3
theorem te_ixm {ρ : List En} {n : Nat} {a : FA} {e : FE} {P : D → Prop} (ha : TM (a ρ) (Menu n P)) (he : TM (e ρ) (fun d => ∃ v, d = .int v ∧ 0 ≤ v ∧ v < (n : Int))) (hn : n ≤ 1000 := by decide) : TM (cOp ixD (cLst a) e ρ) P := by
  refine te_op (P := fun d => ∃ xs, d = .lst xs ∧ Menu n P xs) (te_lst ha fun xs h => ⟨by rw [h.1]; exact hn, xs, rfl, h⟩) he ?_
  rintro x y ⟨xs, rfl, h⟩ ⟨v, rfl, h0, h1⟩
  have hv : v.toNat < xs.length := by rw [h.1]; omega
  refine ⟨xs[v.toNat], ?_, h.2 _ (List.getElem_mem hv)⟩
  rw [ixD_lst h0, List.getElem?_eq_getElem hv]
theorem tt_int {ρ : List En} {c : FT} {b : Bool} (e : ∀ g, c ρ g = some (.ok b g)) : TM (c ρ) (fun x => x = b) := TM.of rfl e
theorem ti_v {ρ : List En} {i : Nat} {v : Int} (e : ρ[i]? = some (.dt (.int v))) : TM (cV i ρ) (fun d => d = .int v) := te_v e rfl
def Fine (d : D) : Prop := fine d = true
def Deed (d : D) : Prop := deedB d = true ∧ fine d = true
def Range (a b : Int) (d : D) : Prop := ∃ v, d = .int v ∧ a ≤ v ∧ v ≤ b
theorem Range.inR {a b : Int} {d : D} (h : Range a b d) : inR a b d = true := by
  obtain ⟨v, rfl, h0, h1⟩ := h
  simp [Kk22.inR, h0, h1]
theorem Range.fine {a b : Int} {d : D} (h : Range a b d) : fine d = true := by
  obtain ⟨v, rfl, _⟩ := h; rfl
theorem see_deed : Deed (.tup [.str "see"]) := ⟨by decide +kernel, by decide +kernel⟩
def Script (d : D) : Prop := scriptB d = true ∧ fine d = true
theorem rowB_of {n : Nat} {P : D → Prop} {ys : List D} (h : Menu n P ys) (h1 : 1 ≤ n) (h5 : n ≤ 5) : rowB (.tup ys) = true := by
  simp only [rowB, Bool.and_eq_true, decide_eq_true_eq, h.1]
  omega
/-- a play of a manner -/
def Man (d : D) : Prop := ∃ k ys n, d = .tup [.str k, .tup ys] ∧ k ∈ MAN ∧ Menu n Script ys ∧ 1 ≤ n ∧ n ≤ 5
end Kk22
set_option Elab.async false
set_option linter.all false
set_option maxRecDepth 100000
set_option maxHeartbeats 4000000
namespace Kk22
open PySem L2 FD
/-! ### what is told without a draw -/
def EX {α : Type} (m : Gh → M α) (a : α) : Prop := ∀ g, m g = some (.ok a g)
theorem EX.bd {α β : Type} {m : Gh → M α} {k : α → Gh → M β} {a : α} {b : β} (h : EX m a) (hk : EX (k a) b) : EX (fun g => (m g).bd k) b := fun g => by
  show (m g).bd k = _
  rw [h g]; exact hk g
theorem ex_d {ρ : List En} {d : D} : EX (cD d ρ) d := fun g => rfl
theorem ex_v {ρ : List En} {i : Nat} {d : D} (e : ρ[i]? = some (.dt d)) : EX (cV i ρ) d := fun g => by simp only [cV, e]
theorem ex_n {ρ : List En} : EX (cN ρ) [] := fun g => rfl
theorem ex_c {ρ : List En} {a : FE} {b : FA} {x : D} {xs : List D} (ha : EX (a ρ) x) (hb : EX (b ρ) xs) : EX (cC a b ρ) (x :: xs) := EX.bd ha (EX.bd hb fun g => rfl)
theorem ex_tup {ρ : List En} {a : FA} {xs : List D} (ha : EX (a ρ) xs) (hl : xs.length ≤ 1000 := by simp) : EX (cTup a ρ) (.tup xs) := EX.bd ha fun g => if_pos hl
theorem ex_lst {ρ : List En} {a : FA} {xs : List D} (ha : EX (a ρ) xs) (hl : xs.length ≤ 1000 := by simp) : EX (cLst a ρ) (.lst xs) := EX.bd ha fun g => if_pos hl
theorem ex_op {ρ : List En} {op : D → D → Option D} {a b : FE} {x y z : D} (ha : EX (a ρ) x) (hb : EX (b ρ) y) (h : op x y = some z) : EX (cOp op a b ρ) z := EX.bd ha (EX.bd hb fun g => by rw [h]; rfl)
theorem ex_1 {ρ : List En} {op : D → Option D} {a : FE} {x z : D} (ha : EX (a ρ) x) (h : op x = some z) : EX (c1 op a ρ) z := EX.bd ha fun g => by rw [h]; rfl
theorem ex_call {ρ : List En} {op : List D → Option D} {a : FA} {xs : List D} {z : D} (ha : EX (a ρ) xs) (h : op xs = some z) : EX (cCall op a ρ) z := EX.bd ha fun g => by rw [h]; rfl
theorem ex_fn {ρ : List En} {n : Nat} {Fn : List D → Gh → M D} {a : FA} {xs : List D} {z : D} (ha : EX (a ρ) xs) (h : EX (Fn xs) z) (hn : xs.length = n := by rfl) : EX (cFn n Fn a ρ) z := EX.bd ha fun g => by
  show (if xs.length = n then noX (Fn xs g) else none) = _
  rw [if_pos hn, h g]; rfl
theorem ex_sl {ρ : List En} {a : FE} {lo hi : FO} {x z : D} {l h : Option Int} (ha : EX (a ρ) x) (hl : EX (lo ρ) l) (hh : EX (hi ρ) h) (e : slD x l h = some z) : EX (cSl a lo hi ρ) z := EX.bd ha (EX.bd hl (EX.bd hh fun g => by rw [e]; rfl))
theorem exo_n {ρ : List En} : EX (oN ρ) none := fun g => rfl
theorem exo_s {ρ : List En} {a : FE} {i : Int} (ha : EX (a ρ) (.int i)) : EX (oS a ρ) (some i) := EX.bd ha fun g => rfl
theorem ex_and1 {ρ : List En} {a b : FE} {z : D} (ha : EX (a ρ) (.bl true)) (hb : EX (b ρ) z) : EX (cAndV a b ρ) z := EX.bd ha hb
theorem ex_and0 {ρ : List En} {a b : FE} (ha : EX (a ρ) (.bl false)) : EX (cAndV a b ρ) (.bl false) := EX.bd ha fun g => rfl
theorem ex_or1 {ρ : List En} {a b : FE} (ha : EX (a ρ) (.bl true)) : EX (cOrV a b ρ) (.bl true) := EX.bd ha fun g => rfl
theorem ex_or0 {ρ : List En} {a b : FE} {z : D} (ha : EX (a ρ) (.bl false)) (hb : EX (b ρ) z) : EX (cOrV a b ρ) z := EX.bd ha hb
theorem ext {ρ : List En} {a : FE} {b : Bool} (ha : EX (a ρ) (.bl b)) : EX (cT a ρ) b := EX.bd ha fun g => rfl
theorem ext_not {ρ : List En} {a : FT} {b : Bool} (ha : EX (a ρ) b) : EX (cNot a ρ) (!b) := EX.bd ha fun g => rfl
theorem ext_and1 {ρ : List En} {a b : FT} {z : Bool} (ha : EX (a ρ) true) (hb : EX (b ρ) z) : EX (cAnd a b ρ) z := EX.bd ha hb
theorem ext_and0 {ρ : List En} {a b : FT} (ha : EX (a ρ) false) : EX (cAnd a b ρ) false := EX.bd ha fun g => rfl
theorem ext_or1 {ρ : List En} {a b : FT} (ha : EX (a ρ) true) : EX (cOr a b ρ) true := EX.bd ha fun g => rfl
theorem ext_or0 {ρ : List En} {a b : FT} {z : Bool} (ha : EX (a ρ) false) (hb : EX (b ρ) z) : EX (cOr a b ρ) z := EX.bd ha hb
/-! blocks -/
theorem ex_lc {fi : FI} {vs : List Nat} {gs : FG} {ft : FT} {fe : FE} {ρ : List En} {ds ys : List D} (hi : EX (fi ρ) ds) (hc : EX (compD gs ft fe ds (blkE ρ vs)) ys) (hl : ys.length ≤ 1000) : EX (cLc fi vs gs ft fe ρ) (.lst ys) := EX.bd hi (EX.bd hc fun g => if_pos hl)
theorem exi_s {ρ : List En} {a : FE} {x : D} {ds : List D} (ha : EX (a ρ) x) (h : seqOf x = some ds) : EX (iS a ρ) ds := EX.bd ha fun g => by rw [h]; rfl
theorem exi_r {ρ : List En} {a : FE} {n : Nat} (ha : EX (a ρ) (.int (n : Nat))) (h : n ≤ 100000) : EX (iR1 (cC a cN) ρ) (rngD 0 n) := EX.bd (ex_c ha ex_n) fun g => by rw [rng1_nat h]; rfl
theorem exi_z {ρ : List En} {a : FA} {xs ds : List D} (ha : EX (a ρ) xs) (h : zipD xs = some ds) : EX (iZ a ρ) ds := EX.bd ha fun g => by rw [h]; rfl
theorem exi_e {ρ : List En} {a : FA} {xs ds : List D} (ha : EX (a ρ) xs) (h : enumD xs = some ds) : EX (iEn a ρ) ds := EX.bd ha fun g => by rw [h]; rfl
theorem exi_v {ρ : List En} {a : FE} {n : Nat} (ha : EX (a ρ) (.rng 0 (n : Nat))) (h : n ≤ 100000) : EX (iRv a ρ) (rngD 0 n) := EX.bd ha fun g => by
  have e : rngOf (.rng 0 (n : Nat)) = some (rngD 0 n) := by
    unfold rngOf
    have c1 : (n : Int) < 2 ^ 62 := by rw [p62]; omega
    have c2 : -(2 ^ 62) ≤ (n : Int) := by rw [p62]; omega
    have c3 : -(2 ^ 62) ≤ (0 : Int) := by rw [p62]; omega
    have c4 : (0 : Int) < 2 ^ 62 := by rw [p62]; omega
    have hk : ck (-(2 ^ 62) ≤ (0 : Int) ∧ (0 : Int) < 2 ^ 62 ∧ -(2 ^ 62) ≤ (n : Int) ∧ (n : Int) < 2 ^ 62) = true := ck_of ⟨c3, c4, c2, c1⟩
    show (if ck (-(2 ^ 62) ≤ (0 : Int) ∧ (0 : Int) < 2 ^ 62 ∧ -(2 ^ 62) ≤ (n : Int) ∧ (n : Int) < 2 ^ 62) = true then some (rngD 0 ((n : Int) - 0).toNat) else none) = _
    rw [if_pos hk]
    simp
  rw [e]; rfl
theorem exc_map {gs : FG} {fe : FE} {F : D → D} {ρ : List En} {ds : List D} (h : ∀ d ∈ ds, ∃ ρ1, gs d ρ = some ρ1 ∧ EX (fe ρ1) (F d)) : EX (compD gs tY fe ds ρ) (ds.map F) := fun g => compD_map fun d hd => by
  obtain ⟨ρ1, h1, h2⟩ := h d hd
  exact ⟨ρ1, h1, h2 g⟩
theorem exc_fil {gs : FG} {ft : FT} {fe : FE} {p : D → Bool} {F : D → D} {ρ : List En} {ds : List D} (h : ∀ d ∈ ds, ∃ ρ1, gs d ρ = some ρ1 ∧ EX (ft ρ1) (p d) ∧ EX (fe ρ1) (F d)) : EX (compD gs ft fe ds ρ) ((ds.filter p).map F) := fun g => compD_filter fun d hd => by
  obtain ⟨ρ1, h1, h2, h3⟩ := h d hd
  exact ⟨ρ1, h1, h2 g, h3 g⟩
/-! statements -/
theorem exs_ret {ρ : List En} {a : FE} {x : D} (ha : EX (a ρ) x) : EX (sRet a ρ) (.rt x) := EX.bd ha fun g => rfl
theorem exs_asg {ρ ρ1 : List En} {a : FE} {gs : FG} {x : D} (ha : EX (a ρ) x) (h : gs x ρ = some ρ1) : EX (sAsg a gs ρ) (.nx ρ1) := EX.bd ha fun g => by rw [h]
theorem exs_par {ρ : List En} {i j : Nat} {a : FA} {x y : D} (ha : EX (a ρ) [x, y]) : EX (sPar i j a ρ) (.nx ((ρ.set i (.dt x)).set j (.dt y))) := EX.bd ha fun g => rfl
theorem exs_drop {ρ : List En} {a : FE} {x : D} (ha : EX (a ρ) x) : EX (sDrop a ρ) (.nx ρ) := EX.bd ha fun g => rfl
theorem exs_nx {ρ : List En} : EX (sNx ρ) (.nx ρ) := fun g => rfl
theorem exs_if1 {ρ : List En} {c : FT} {a b : FS} {f : Fl} (hc : EX (c ρ) true) (ha : EX (a ρ) f) : EX (sIf c a b ρ) f := EX.bd hc ha
theorem exs_if0 {ρ : List En} {c : FT} {a b : FS} {f : Fl} (hc : EX (c ρ) false) (hb : EX (b ρ) f) : EX (sIf c a b ρ) f := EX.bd hc hb
theorem exs_seq {ρ ρ1 : List En} {a b : FS} {f : Fl} (ha : EX (a ρ) (.nx ρ1)) (hb : EX (b ρ1) f) : EX (sSeq a b ρ) f := fun g => (sSeq_nx (ha g)).trans (hb g)
theorem exs_rt {ρ : List En} {a b : FS} {d : D} (ha : EX (a ρ) (.rt d)) : EX (sSeq a b ρ) (.rt d) := fun g => sSeq_rt (ha g)
theorem exs_for {ρ : List En} {fi : FI} {gs : FG} {fb : FS} {ds : List D} {f : Fl} (hi : EX (fi ρ) ds) (hl : EX (loopD gs fb ds ρ) f) : EX (sFor fi gs fb ρ) f := EX.bd hi hl
theorem exf {N : Nat} {b : FS} {ds : List D} {d : D} (h : EX (b (ds.map .dt ++ List.replicate (N - ds.length) .un)) (.rt d)) : EX (fun g => noX (fnOf N b ds g)) d := fun g => by
  show noX (fnOf N b ds g) = _
  unfold fnOf
  rw [h g]; rfl
theorem exf_nx {N : Nat} {b : FS} {ds : List D} {ρ : List En} (h : EX (b (ds.map .dt ++ List.replicate (N - ds.length) .un)) (.nx ρ)) : EX (fun g => noX (fnOf N b ds g)) .non := fun g => by
  show noX (fnOf N b ds g) = _
  unfold fnOf
  rw [h g]; rfl
end Kk22
set_option Elab.async false
set_option linter.all false
set_option maxRecDepth 100000
set_option maxHeartbeats 4000000
namespace Kk22
open PySem L2 FD
theorem cLc_ok {fi : FI} {vs : List Nat} {gs : FG} {ft : FT} {fe : FE} {ρ : List En} {g g1 g2 : Gh} {ds ys : List D} (hi : fi ρ g = some (.ok ds g1)) (hc : compD gs ft fe ds (blkE ρ vs) g1 = some (.ok ys g2)) (hl : ys.length ≤ 1000) : cLc fi vs gs ft fe ρ g = some (.ok (.lst ys) g2) := by
  simp only [cLc, hi, M.bd, hc, if_pos hl]
/-! ### small things -/
def tiny : Nat → D → Bool
  | 0, _ => false
  | _ + 1, .non => true
  | _ + 1, .int i => decide (i.natAbs ≤ 1000)
  | n + 1, .tup xs => decide (xs.length ≤ 6) && xs.all (tiny n)
  | _ + 1, _ => false
theorem tiny_tup {n : Nat} {xs : List D} : tiny (n + 1) (.tup xs) = true ↔ xs.length ≤ 6 ∧ ∀ d ∈ xs, tiny n d = true := by simp [tiny]
theorem tiny_mono {n : Nat} : ∀ {d : D}, tiny n d = true → tiny (n + 1) d = true := by
  induction n with
  | zero => intro d h; simp [tiny] at h
  | succ n ih =>
    intro d h
    cases d with
    | tup xs =>
      rw [tiny_tup] at h ⊢
      exact ⟨h.1, fun d hd => ih (h.2 d hd)⟩
    | _ => simpa [tiny] using h
theorem tiny_le {n : Nat} {d : D} : ∀ (k : Nat), tiny n d = true → tiny (n + k) d = true
  | 0, h => h
  | k + 1, h => tiny_mono (tiny_le k h)
theorem tiny_plain {n : Nat} : ∀ {d : D}, tiny n d = true → plain n d = true := by
  induction n with
  | zero => intro d h; simp [tiny] at h
  | succ n ih =>
    intro d h
    cases d with
    | tup xs =>
      rw [tiny_tup] at h
      rw [plain_tup]
      exact ⟨by omega, fun d hd => ih (h.2 d hd)⟩
    | non => rfl
    | int i => rfl
    | _ => simp [tiny] at h
theorem tiny_int {i : Int} {n : Nat} (h : i.natAbs ≤ 1000) : tiny (n + 1) (.int i) = true := by simp [tiny, h]
/-! a row with one thing in a place -/
theorem put_at_cut {xs : List D} {i : Nat} {d : D} (h : i < xs.length) : cutD xs none (some (i : Int)) ++ [d] ++ cutD xs (some ((i : Int) + 1)) none = xs.set i d := by
  have e1 : cutD xs none (some (i : Int)) = xs.take i := by
    have a : HT.sIx xs.length 0 none = 0 := rfl
    have b : HT.sIx xs.length xs.length (some (i : Int)) = i := by
      rw [HT.sIx_nat]; omega
    unfold cutD
    rw [a, b]
    simp
  have e2 : cutD xs (some ((i : Int) + 1)) none = xs.drop (i + 1) := by
    have a : HT.sIx xs.length 0 (some ((i : Int) + 1)) = i + 1 := by
      rw [show ((i : Int) + 1) = ((i + 1 : Nat) : Int) by omega, HT.sIx_nat]; omega
    have b : HT.sIx xs.length xs.length none = xs.length := rfl
    unfold cutD
    rw [a, b]
    rw [List.take_of_length_le (by simp)]
  rw [e1, e2, List.set_eq_take_append_cons_drop, if_pos h]
  simp
theorem put_at_ex {N : FS} {xs : List D} {i : Nat} {d : D} (h : i < xs.length) (hl : xs.length ≤ 400) : EX ((sRet (cOp addD (cOp addD (cSl (cV 0) oN (oS (cV 1))) (cTup (cC (cV 2) cN))) (cSl (cV 0) (oS (cOp addD (cV 1) (cD (.int 1)))) oN))) [.dt (.tup xs), .dt (.int i), .dt d]) (.rt (.tup (xs.set i d))) := by
  have e := put_at_cut (d := d) h
  have l1 : (cutD xs none (some (i : Int))).length ≤ xs.length := by unfold cutD; simp; omega
  have l2 : (cutD xs (some ((i : Int) + 1)) none).length ≤ xs.length := by unfold cutD; simp; omega
  rw [← e]
  refine exs_ret (ex_op (ex_op (ex_sl (ex_v rfl) exo_n (exo_s (ex_v rfl)) rfl) (ex_tup (ex_c (ex_v rfl) ex_n)) (if_pos ?_)) (ex_sl (ex_v rfl) (exo_s (ex_op (ex_v rfl) ex_d rfl)) exo_n rfl) (if_pos ?_))
  · simp; omega
  · simp; omega
theorem put_at_eq {xs : List D} {i : Nat} {d : D} (h : i < xs.length) (hl : xs.length ≤ 400) : EX (f_put_at [.tup xs, .int i, d]) (.tup (xs.set i d)) := exf (N := 3) (put_at_ex (N := sNx) h hl)
/-- a state at its beginning -/
def fresh (d : Int) : D := .tup [.int d, .non, .non, .tup [], .non]
def aheadD (ss : List D) (d : Int) : D := if d = (ss.length : Int) then .non else fresh d
theorem state_ahead_eq (ss : List D) (d : Int) : EX (f_state_ahead [.tup ss, .int d]) (aheadD ss d) := fun g => by
  unfold aheadD
  by_cases h : d = (ss.length : Int)
  · simp [f_state_ahead, b_state_ahead, fnOf, sSeq, h]
  · simp [f_state_ahead, b_state_ahead, fnOf, sSeq, h, fresh]
theorem ix_nat {xs : List D} {i : Nat} {d : D} (h : xs[i]? = some d) : ixD (.tup xs) (.int i) = some d := by rw [ixD_tup (by omega)]; simpa using h
/-- a cell -/
def CellS (c : D) : Prop := ∃ (k v : Int) (r : D), c = .tup [.int k, .int v, r]
def numD : D → D
  | .tup (x :: _) => x
  | _ => .non
theorem numbers_of_eq {cs : List D} (h : ∀ c ∈ cs, CellS c) (hl : cs.length ≤ 500) : EX (f_numbers_of [.tup cs]) (.tup (cs.map numD)) := by
  refine exf (N := 2) (exs_ret (ex_call (ex_c (ex_lc (exi_s (ex_v rfl) rfl) (exc_map (F := numD) fun d hd => ⟨_, rfl, ?_⟩) (by simp; omega)) ex_n) rfl))
  obtain ⟨k, v, r, rfl⟩ := h d hd
  exact ex_op (ex_v rfl) ex_d rfl
def pairD : D → D
  | .tup (x :: y :: _) => .tup [x, y]
  | _ => .non
def lendD : D → D
  | .tup [_, _, r] => r
  | _ => .non
def numI : D → Int
  | .tup (.int k :: _) => k
  | _ => 0
/-- the picture of the first that put twice -/
def lent : List Int → List D → D
  | f :: fs, c :: cs => if f + 2 ≤ numI c then lendD c else lent fs cs
  | _, _ => .non
theorem borrow_loop {a b : En} : ∀ (fs : List Int) (cs : List D) (x y : En), (∀ c ∈ cs, CellS c) → fs.length = cs.length →
    ∃ f, EX (loopD (gT 2 (gsC (gN 2) (gsC (gN 3) gsN))) (sIf (cT (cOp geD (cOp ixD (cV 3) (cD (.int 0))) (cOp addD (cV 2) (cD (.int 2))))) (sRet (cOp ixD (cV 3) (cD (.int 2)))) sNx) (((fs.map D.int).zip cs).map fun p => .tup [p.1, p.2]) [a, b, x, y]) f ∧ ((∃ x' y', f = .nx [a, b, x', y'] ∧ lent fs cs = .non) ∨ f = .rt (lent fs cs))
  | [], [], x, y, _, _ => ⟨_, fun g => rfl, .inl ⟨x, y, rfl, rfl⟩⟩
  | [], _ :: _, x, y, _, h => by simp at h
  | _ :: _, [], x, y, _, h => by simp at h
  | n :: fs, c :: cs, x, y, hc, hl => by
    obtain ⟨k, v, r, rfl⟩ := hc c (by simp)
    by_cases h : n + 2 ≤ k
    · refine ⟨.rt r, fun g => ?_, .inr ?_⟩
      · simp [loopD, ixD_tup, h]
      · simp [lent, numI, lendD, h]
    · obtain ⟨f, e, q⟩ := borrow_loop (a := a) (b := b) fs cs (.dt (.int n)) (.dt (.tup [.int k, .int v, r])) (fun c h => hc c (by simp [h])) (by simpa using hl)
      refine ⟨f, fun g => ?_, ?_⟩
      · rw [← e g]
        simp [loopD, ixD_tup, h]
      · have z : lent (n :: fs) (.tup [.int k, .int v, r] :: cs) = lent fs cs := by simp [lent, numI, h]
        rw [z]; exact q
theorem borrowed_eq {fs : List Int} {cs : List D} (hc : ∀ c ∈ cs, CellS c) (hl : fs.length = cs.length) : EX (f_borrowed [.tup (fs.map .int), .tup cs]) (lent fs cs) := by
  obtain ⟨f, e, q⟩ := borrow_loop (a := .dt (.tup (fs.map .int))) (b := .dt (.tup cs)) fs cs .un .un hc hl
  rcases q with ⟨x, y, rfl, z⟩ | rfl
  · rw [z]
    exact exf (N := 4) (exs_seq (exs_for (exi_z (ex_c (ex_v rfl) (ex_c (ex_v rfl) ex_n)) rfl) e) (exs_ret ex_d))
  · exact exf (N := 4) (exs_rt (exs_for (exi_z (ex_c (ex_v rfl) (ex_c (ex_v rfl) ex_n)) rfl) e))
end Kk22
set_option Elab.async false
set_option linter.all false
set_option maxRecDepth 100000
set_option maxHeartbeats 4000000
namespace Kk22
open PySem L2 FD
theorem rngD_cons (a : Int) (n : Nat) : rngD a (n + 1) = .int a :: rngD (a + 1) n := by
  unfold rngD
  rw [List.range_succ_eq_map, List.map_cons, List.map_map]
  congr 1
  · simp
  · apply List.map_congr_left
    intro k _
    simp
    omega
theorem find_lent : ∀ (fs : List Int) (cs : List D) (a : Nat) (p : D → Bool), (∀ (j : Nat) (f : Int) (c : D), fs[j]? = some f → cs[j]? = some c → p (.int ((a + j : Nat) : Int)) = decide (f + 2 ≤ numI c)) → fs.length = cs.length →
    (((rngD (a : Int) fs.length).filter p = [] ∧ lent fs cs = .non) ∨ ∃ (j : Nat) (c : D) (r : List D), (rngD (a : Int) fs.length).filter p = .int ((a + j : Nat) : Int) :: r ∧ cs[j]? = some c ∧ lent fs cs = lendD c)
  | [], [], _, _, _, _ => .inl ⟨rfl, rfl⟩
  | [], _ :: _, _, _, _, h => by simp at h
  | _ :: _, [], _, _, _, h => by simp at h
  | f :: fs, c :: cs, a, p, hp, hl => by
    have h0 := hp 0 f c rfl rfl
    simp only [Nat.add_zero] at h0
    rw [List.length_cons, rngD_cons]
    by_cases h : f + 2 ≤ numI c
    · refine .inr ⟨0, c, (rngD ((a : Int) + 1) fs.length).filter p, ?_, rfl, by simp [lent, h]⟩
      rw [decide_eq_true h] at h0
      simp [List.filter_cons, h0]
    · rw [decide_eq_false h] at h0
      have z : lent (f :: fs) (c :: cs) = lent fs cs := by simp [lent, h]
      have e1 : ((a : Int) + 1) = ((a + 1 : Nat) : Int) := by omega
      rcases find_lent fs cs (a + 1) p (fun j f' c' hf hc => by
        have := hp (j + 1) f' c' (by simpa using hf) (by simpa using hc)
        rw [show a + 1 + j = a + (j + 1) by omega]; exact this) (by simpa using hl) with ⟨q1, q2⟩ | ⟨j, c', r, q1, q2, q3⟩
      · refine .inl ⟨?_, z.trans q2⟩
        rw [List.filter_cons, h0, e1]
        simpa using q1
      · refine .inr ⟨j + 1, c', r, ?_, by simpa using q2, z.trans q3⟩
        rw [List.filter_cons, h0, e1]
        rw [show a + (j + 1) = a + 1 + j by omega]
        simpa using q1
/-- numbers, or none yet -/
inductive Nums (n : Nat) : D → Prop
  | non : Nums n .non
  | of (ns : List Int) : ns.length = n → Nums n (.tup (ns.map .int))
theorem pys_ints (ns : List Int) : D.pys (ns.map .int) = some (ns.map .int) := by
  induction ns with
  | nil => rfl
  | cons a r ih => simp [D.pys, D.py, ih]
theorem eqv_ints : ∀ ns ms : List Int, PyData.eqvAll (ns.map .int) (ms.map .int) = decide (ns = ms)
  | [], [] => by simp [PyData.eqvAll]
  | [], _ :: _ => by simp [PyData.eqvAll]
  | _ :: _, [] => by simp [PyData.eqvAll]
  | a :: r, b :: s => by
    simp only [List.map_cons, PyData.eqvAll, PyData.eqv, eqv_ints r s]
    by_cases h : a = b <;> by_cases h2 : r = s <;> simp [h, h2]
theorem eqP_ints (ns ms : List Int) : eqP (.tup (ns.map .int)) (.tup (ms.map .int)) = decide (ns = ms) := by
  simp [eqP, D.py, pys_ints, PyData.eqv, eqv_ints]
theorem plain_ints {ns : List Int} (h : ns.length ≤ 500) : plain 2 (.tup (ns.map .int)) = true := by
  rw [plain_tup]
  refine ⟨by simpa using h, fun d hd => ?_⟩
  obtain ⟨k, _, rfl⟩ := List.mem_map.mp hd
  rfl
theorem eqD_ints {ns ms : List Int} (h1 : ns.length ≤ 500) (h2 : ms.length ≤ 500) : eqD (.tup (ns.map .int)) (.tup (ms.map .int)) = some (.bl (decide (ns = ms))) := by
  rw [eqD_plain (plain_ints h1) (plain_ints h2) (by decide) (by decide), eqP_ints]
theorem eqD_ints_non {ns : List Int} (h1 : ns.length ≤ 500) : eqD (.tup (ns.map .int)) .non = some (.bl false) := by
  rw [eqD_plain (n := 2) (m := 1) (plain_ints h1) rfl (by decide) (by decide)]
  simp [eqP, D.py, pys_ints, PyData.eqv]
theorem numD_map {cs : List D} (h : ∀ c ∈ cs, CellS c) : cs.map numD = (cs.map numI).map .int := by
  rw [List.map_map]
  apply List.map_congr_left
  intro c hc
  obtain ⟨k, v, r, rfl⟩ := h c hc
  rfl
open Classical in
/-- how the sweep ends -/
noncomputable def seenD (k : Str) (first last : D) (cs : List D) : D :=
  if k = "sweep" ∨ last = .tup (cs.map numD) then .tup (cs.map pairD)
  else if k = "borrow" then (match first with
    | .tup fs => lent (fs.map fun d => match d with | .int i => i | _ => 0) cs
    | _ => .non) else .non
theorem okM : ∀ k ∈ MAN, okStr k = true := by
  intro k hk
  simp only [List.mem_cons, List.not_mem_nil, or_false] at hk
  rcases hk with rfl | rfl | rfl <;> exact okS (by decide +kernel)
theorem okMW {k : Str} (hk : k ∈ MAN) (w : Str) (hw : okStr w = true) : eqD (.str k) (.str w) = some (.bl (k == w)) := eqD_str (okM k hk) hw
theorem pic_lc {cs : List D} (h : ∀ c ∈ cs, CellS c) (hl : cs.length ≤ 500) {ρ : List En} {i : Nat} {vs : List Nat} {j : Nat} (hi : ρ[i]? = some (.dt (.tup cs))) (hj : ∀ d, ((blkE ρ vs).set j (.dt d))[j]? = some (.dt d)) :
    EX (cCall tupleD (cC (cLc (iS (cV i)) vs (gN j) tY (cTup (cC (cOp ixD (cV j) (cD (.int 0))) (cC (cOp ixD (cV j) (cD (.int 1))) cN)))) cN) ρ) (.tup (cs.map pairD)) := by
  refine ex_call (ex_c (ex_lc (exi_s (ex_v hi) rfl) (exc_map (F := pairD) fun d hd => ⟨_, rfl, ?_⟩) (by simp; omega)) ex_n) rfl
  obtain ⟨k, v, r, rfl⟩ := h d hd
  exact ex_tup (ex_c (ex_op (ex_v (hj _)) ex_d rfl) (ex_c (ex_op (ex_v (hj _)) ex_d rfl) ex_n))
open Classical in
theorem picture_eq {k : Str} (hk : k ∈ MAN) {first last : D} {cs : List D} (h : ∀ c ∈ cs, CellS c) (hl : cs.length ≤ 100) (hf : Nums cs.length first) (hla : Nums cs.length last) : EX (f_picture_of_sweep [.str k, first, last, .tup cs]) (seenD k first last cs) := by
  have q1 := okMW hk "sweep" (okS (by decide +kernel))
  have q2 := okMW hk "borrow" (okS (by decide +kernel))
  have nums := numbers_of_eq h (by omega)
  have hp := pic_lc h (by omega) (ρ := [.dt (.str k), .dt first, .dt last, .dt (.tup cs), .un]) (i := 3) (vs := [4]) (j := 4) rfl (fun d => rfl)
  have heq : eqD (.tup (cs.map numD)) last = some (.bl (decide (last = .tup (cs.map numD)))) := by
    rw [numD_map h]
    cases hla with
    | non => rw [eqD_ints_non (by simp; omega)]; simp
    | of ms hm =>
      rw [eqD_ints (by simp; omega) (by omega)]
      have inj : Function.Injective D.int := fun a b e => by cases e; rfl
      congr 2
      rw [decide_eq_decide]
      constructor
      · rintro rfl; rfl
      · intro e
        have := D.tup.inj e
        exact ((List.map_inj_right (fun a b e => by cases e; rfl)).mp this).symm
  refine exf (N := 5) ?_
  by_cases hs : k = "sweep"
  · have e : seenD k first last cs = .tup (cs.map pairD) := by unfold seenD; rw [if_pos (.inl hs)]
    rw [e]
    refine exs_rt (exs_if1 (ext_or1 (ext (ex_op (ex_v rfl) ex_d ?_))) (exs_ret hp))
    rw [q1]; simp [hs]
  · have b1 : EX (cT (cOp eqD (cV 0) (cD (.str "sweep"))) [.dt (.str k), .dt first, .dt last, .dt (.tup cs), .un]) false := ext (ex_op (ex_v rfl) ex_d (by rw [q1]; simp [hs]))
    by_cases hx : last = .tup (cs.map numD)
    · have e : seenD k first last cs = .tup (cs.map pairD) := by unfold seenD; rw [if_pos (.inr hx)]
      rw [e]
      refine exs_rt (exs_if1 (ext_or0 b1 (ext (ex_op (ex_fn (ex_c (ex_v rfl) ex_n) nums) (ex_v rfl) ?_))) (exs_ret hp))
      rw [heq, decide_eq_true hx]
    · have c0 : EX (cOr (cT (cOp eqD (cV 0) (cD (.str "sweep")))) (cT (cOp eqD (cFn 1 f_numbers_of (cC (cV 3) cN)) (cV 2))) [.dt (.str k), .dt first, .dt last, .dt (.tup cs), .un]) false := by
        refine ext_or0 b1 (ext (ex_op (ex_fn (ex_c (ex_v rfl) ex_n) nums) (ex_v rfl) ?_))
        rw [heq, decide_eq_false hx]
      refine exs_seq (exs_if0 c0 exs_nx) ?_
      by_cases hb : k = "borrow"
      · have b2 : EX (cT (cOp eqD (cV 0) (cD (.str "borrow"))) [.dt (.str k), .dt first, .dt last, .dt (.tup cs), .un]) true := ext (ex_op (ex_v rfl) ex_d (by rw [q2]; simp [hb]))
        cases hf with
        | non =>
          have e : seenD k .non last cs = .non := by unfold seenD; rw [if_neg (by intro z; rcases z with z | z; exact hs z; exact hx z), if_pos hb]
          rw [e]
          exact exs_seq (exs_if0 (ext_and1 b2 (ext (ex_op (ex_v rfl) ex_d rfl))) exs_nx) (exs_ret ex_d)
        | of fs hfl =>
          have e : seenD k (.tup (fs.map .int)) last cs = lent fs cs := by
            unfold seenD; rw [if_neg (by intro z; rcases z with z | z; exact hs z; exact hx z), if_pos hb]
            simp [List.map_map, Function.comp_def]
          rw [e]
          exact exs_rt (exs_if1 (ext_and1 b2 (ext (ex_op (ex_v rfl) ex_d rfl))) (exs_ret (ex_fn (ex_c (ex_v rfl) (ex_c (ex_v rfl) ex_n)) (borrowed_eq h hfl))))
      · have e : seenD k first last cs = .non := by unfold seenD; rw [if_neg (by intro z; rcases z with z | z; exact hs z; exact hx z), if_neg hb]
        rw [e]
        exact exs_seq (exs_if0 (ext_and0 (ext (ex_op (ex_v rfl) ex_d (by rw [q2]; simp [hb])))) exs_nx) (exs_ret ex_d)
end Kk22
set_option Elab.async false
set_option linter.all false
set_option maxRecDepth 100000
set_option maxHeartbeats 4000000
namespace Kk22
open PySem L2 FD
theorem cut2 (a b c : D) : cutD [a, b, c] none (some 2) = [a, b] := by
  have e1 : HT.sIx 3 0 none = 0 := rfl
  have e2 : HT.sIx 3 3 (some 2) = 2 := rfl
  unfold cutD
  show ([a, b, c].drop (HT.sIx 3 0 none)).take (HT.sIx 3 3 (some 2) - HT.sIx 3 0 none) = _
  rw [e1, e2]; rfl
end Kk22
set_option Elab.async false
set_option linter.all false
set_option maxRecDepth 100000
set_option maxHeartbeats 4000000
namespace Kk22
open PySem L2 FD
theorem inR_int {a b : Int} {d : D} (h : inR a b d = true) : ∃ i, d = .int i ∧ a ≤ i ∧ i ≤ b := by
  cases d <;> simp [inR] at h
  exact ⟨_, rfl, h.1, h.2⟩
theorem fld_kind (k d : D) : fldD "kind" (thePlay k d) = some k := rfl
theorem fld_inputs (k d : D) : fldD "inputs" (thePlay k d) = some d := rfl
/-- a see, a put -/
def deedD : Option Int → D
  | none => .tup [.str "see"]
  | some w => .tup [.str "put", .int w]
theorem deed_form {d : D} (h : deedB d = true) (hf : fine d = true) : ∃ o, d = deedD o ∧ ∀ w, o = some w → 0 ≤ w ∧ w ≤ 999 := by
  cases d with
  | tup xs =>
    match xs, h with
    | [], h => simp [deedB] at h
    | [x], h =>
      cases x <;> simp [deedB, isW] at h
      subst h
      exact ⟨none, rfl, fun w z => by cases z⟩
    | [x, y], h =>
      simp only [deedB, Bool.and_eq_true] at h
      obtain ⟨hx, hy⟩ := h
      obtain ⟨i, rfl, h0, h1⟩ := inR_int hy
      cases x <;> simp [isW] at hx
      subst hx
      exact ⟨some i, rfl, fun w z => by cases z; exact ⟨h0, h1⟩⟩
    | _ :: _ :: _ :: _, h => simp [deedB] at h
  | _ => simp [deedB] at h
def putsB (k : Str) (o : Option Int) (ready : D) : Bool := o.isSome && (!(k == "borrow") || !isNonB ready)
def stD (done : Nat) (first last : D) (now : List D) (ready : D) : D := .tup [.int (done : Nat), first, last, .tup now, ready]
theorem sSee : okStr "see" = true := okS (by decide +kernel)
theorem sPut : okStr "put" = true := okS (by decide +kernel)
theorem sBor : okStr "borrow" = true := okS (by decide +kernel)
theorem deed0 (o : Option Int) : ∃ w : Str, ixD (deedD o) (.int 0) = some (.str w) ∧ okStr w = true ∧ (w == "put") = o.isSome := by
  cases o with
  | none => exact ⟨_, rfl, sSee, by decide +kernel⟩
  | some w => exact ⟨_, rfl, sPut, by simp⟩
/-- what stands of one hand -/
structure At (k : Str) (ds : List D) (i : Nat) (ss : List D) (done : Nat) (o : Option Int) : Prop where
  hk : k ∈ MAN
  hi : ds[i]? = some (.tup ss)
  hd : ss[done]? = some (deedD o)
theorem puts_next_eq {k : Str} {ds ss : List D} {i done : Nat} {o : Option Int} (A : At k ds i ss done o) (first last : D) (now : List D) (ready : D) : EX (f_puts_next [thePlay (.str k) (.tup ds), .int i, stD done first last now ready]) (.bl (putsB k o ready)) := by
  obtain ⟨w, w1, w2, w3⟩ := deed0 o
  have ix : EX (cOp ixD (cOp ixD (cOp ixD (c1 (fldD "inputs") (cV 0)) (cV 1)) (cOp ixD (cV 2) (cD (.int 0)))) (cD (.int 0)) [.dt (thePlay (.str k) (.tup ds)), .dt (.int i), .dt (stD done first last now ready)]) (.str w) :=
    ex_op (ex_op (ex_op (ex_1 (ex_v rfl) (fld_inputs _ _)) (ex_v rfl) (ix_nat A.hi)) (ex_op (ex_v rfl) ex_d rfl) (ix_nat A.hd)) ex_d w1
  have ne := neD_str w2 sPut
  rw [w3] at ne
  refine exf (N := 3) ?_
  cases ho : o.isSome with
  | false =>
    rw [ho] at ne
    have e : putsB k o ready = false := by simp [putsB, ho]
    rw [e]
    exact exs_rt (exs_if1 (ext (ex_op ix ex_d ne)) (exs_ret ex_d))
  | true =>
    rw [ho] at ne
    have e : putsB k o ready = (!(k == "borrow") || !isNonB ready) := by simp [putsB, ho]
    rw [e]
    refine exs_seq (exs_if0 (ext (ex_op ix ex_d ne)) exs_nx) (exs_ret ?_)
    have nb := neD_str (okM k A.hk) sBor
    cases hb : (k == "borrow") with
    | false =>
      rw [hb] at nb
      exact ex_or1 (ex_op (ex_1 (ex_v rfl) (fld_kind _ _)) ex_d nb)
    | true =>
      rw [hb] at nb
      exact ex_or0 (ex_op (ex_1 (ex_v rfl) (fld_kind _ _)) ex_d nb) (ex_op (ex_op (ex_v rfl) ex_d rfl) ex_d (notND_non _))
/-! words -/
end Kk22
set_option Elab.async false
set_option linter.all false
set_option maxRecDepth 100000
set_option maxHeartbeats 4000000
namespace Kk22
open PySem L2 FD
theorem add_nil (xs : List D) (h : xs.length ≤ 1000) : addD (.tup xs) (.tup []) = some (.tup xs) := by
  show (if xs.length + ([] : List D).length ≤ 1000 then some (D.tup (xs ++ [])) else none) = _
  rw [if_pos (by simpa using h), List.append_nil]
theorem add_tt {xs ys : List D} (h : xs.length + ys.length ≤ 1000) : addD (.tup xs) (.tup ys) = some (.tup (xs ++ ys)) := if_pos h
def wOf : Option Int → Int
  | some w => w
  | none => 0
theorem behind_put_eq {ss : List D} {done : Nat} {w : Int} (hd : ss[done]? = some (deedD (some w))) (c v : Int) (r first last : D) (now : List D) (ready : D) :
    EX (f_behind_put [.tup ss, .tup [.int c, .int v, r], stD done first last now ready]) (.tup [.tup [.int (c + 1), .int w, ready], aheadD ss ((done : Int) + 1), .tup []]) := by
  refine exf (N := 5) ?_
  refine exs_seq (exs_par (ex_c (ex_op (ex_v rfl) ex_d rfl) (ex_c (ex_op (ex_v rfl) ex_d rfl) ex_n))) ?_
  refine exs_seq (exs_asg (ex_tup (ex_c (ex_op (ex_op (ex_v rfl) ex_d rfl) ex_d rfl) (ex_c (ex_op (ex_op (ex_v rfl) (ex_v rfl) (ix_nat hd)) ex_d rfl) (ex_c (ex_v rfl) ex_n)))) rfl) ?_
  exact exs_ret (ex_tup (ex_c (ex_v rfl) (ex_c (ex_fn (ex_c (ex_v rfl) (ex_c (ex_op (ex_v rfl) ex_d rfl) ex_n)) (state_ahead_eq _ _)) (ex_c (ex_tup ex_n) ex_n))))
theorem behind_picture_eq {ss : List D} {done : Nat} {o : Option Int} (hd : ss[done]? = some (deedD o)) (pic : D) :
    EX (f_behind_picture [.tup ss, .int (done : Nat), pic]) (if o.isSome = true then .tup [stD done .non .non [] pic, .tup []] else .tup [aheadD ss ((done : Int) + 1), .tup [pic]]) := by
  obtain ⟨w, w1, w2, w3⟩ := deed0 o
  have eq := eqD_str w2 sPut
  rw [w3] at eq
  have c0 : EX (cT (cOp eqD (cOp ixD (cOp ixD (cV 0) (cV 1)) (cD (.int 0))) (cD (.str "put"))) [.dt (.tup ss), .dt (.int (done : Nat)), .dt pic]) o.isSome := ext (ex_op (ex_op (ex_op (ex_v rfl) (ex_v rfl) (ix_nat hd)) ex_d w1) ex_d eq)
  refine exf (N := 3) ?_
  cases ho : o.isSome with
  | true =>
    rw [ho] at c0
    exact exs_rt (exs_if1 c0 (exs_ret (ex_tup (ex_c (ex_tup (ex_c (ex_v rfl) (ex_c ex_d (ex_c ex_d (ex_c (ex_tup ex_n) (ex_c (ex_v rfl) ex_n)))))) (ex_c (ex_tup ex_n) ex_n)))))
  | false =>
    rw [ho] at c0
    exact exs_seq (exs_if0 c0 exs_nx) (exs_ret (ex_tup (ex_c (ex_fn (ex_c (ex_v rfl) (ex_c (ex_op (ex_v rfl) ex_d rfl) ex_n)) (state_ahead_eq _ _)) (ex_c (ex_tup (ex_c (ex_v rfl) ex_n)) ex_n))))
/-- behind one more cell -/
noncomputable def lookD (k : Str) (ss : List D) (done : Nat) (o : Option Int) (first last : D) (now2 : List D) (ready : D) (n : Nat) : D × List D :=
  if now2.length < n then (stD done first last now2 ready, [])
  else if isNonB (seenD k first last now2) = true then (stD done (if isNonB first = true then .tup (now2.map numD) else first) (.tup (now2.map numD)) [] ready, [])
  else if o.isSome = true then (stD done .non .non [] (seenD k first last now2), []) else (aheadD ss ((done : Int) + 1), [seenD k first last now2])
theorem behind_look_eq {k : Str} {ds ss cells : List D} {i done : Nat} {o : Option Int} (A : At k ds i ss done o) {first last : D} {now : List D} {ready x : D} (hx : cells[now.length]? = some x) (hc : ∀ c ∈ now ++ [x], CellS c) (hn : cells.length ≤ 100) (hf : Nums cells.length first) (hl : Nums cells.length last) :
    EX (f_behind_look [thePlay (.str k) (.tup ds), .tup cells, stD done first last now ready, .int i]) (.tup [(lookD k ss done o first last (now ++ [x]) ready cells.length).1, .tup (lookD k ss done o first last (now ++ [x]) ready cells.length).2]) := by
  have hlt : now.length < cells.length := (List.getElem?_eq_some_iff.mp hx).1
  refine exf (N := 11) ?_
  refine exs_seq (exs_asg (ex_v rfl) rfl) ?_
  refine exs_seq (exs_asg (x := .tup (now ++ [x])) (ex_op (ex_v rfl) (ex_tup (ex_c (ex_op (ex_v rfl) (ex_call (ex_c (ex_v rfl) ex_n) rfl) (ix_nat hx)) ex_n)) (add_tt (by simp; omega))) rfl) ?_
  have cL : EX (cT (cOp ltD (cCall lenD (cC (cV 4) cN)) (cCall lenD (cC (cV 1) cN))) [.dt (thePlay (.str k) (.tup ds)), .dt (.tup cells), .dt (stD done first last now ready), .dt (.int i), .dt (.tup (now ++ [x])), .un, .un, .dt (.int (done : Nat)), .dt first, .dt last, .dt ready]) (decide ((now ++ [x]).length < cells.length)) := by
    refine ext (ex_op (ex_call (ex_c (ex_v rfl) ex_n) rfl) (ex_call (ex_c (ex_v rfl) ex_n) rfl) ?_)
    rw [ltD_int]
    congr 2
    rw [decide_eq_decide]
    omega
  unfold lookD
  by_cases h1 : (now ++ [x]).length < cells.length
  · rw [if_pos h1]
    rw [decide_eq_true h1] at cL
    exact exs_rt (exs_if1 cL (exs_ret (ex_tup (ex_c (ex_tup (ex_c (ex_v rfl) (ex_c (ex_v rfl) (ex_c (ex_v rfl) (ex_c (ex_v rfl) (ex_c (ex_v rfl) ex_n)))))) (ex_c (ex_tup ex_n) ex_n)))))
  · rw [if_neg h1]
    rw [decide_eq_false h1] at cL
    have len2 : (now ++ [x]).length = cells.length := by simp at h1 ⊢; omega
    refine exs_seq (exs_if0 cL exs_nx) ?_
    have hp := picture_eq A.hk (first := first) (last := last) hc (by omega) (by rw [len2]; exact hf) (by rw [len2]; exact hl)
    have hnm := numbers_of_eq hc (by omega)
    generalize seenD k first last (now ++ [x]) = pic at hp ⊢
    refine exs_seq (exs_asg (ex_fn (ex_c (ex_1 (ex_v rfl) (fld_kind _ _)) (ex_c (ex_v rfl) (ex_c (ex_v rfl) (ex_c (ex_v rfl) ex_n)))) hp) rfl) ?_
    have cP : EX (cT (cOp notND (cV 5) (cD .non)) [.dt (thePlay (.str k) (.tup ds)), .dt (.tup cells), .dt (stD done first last now ready), .dt (.int i), .dt (.tup (now ++ [x])), .dt pic, .un, .dt (.int (done : Nat)), .dt first, .dt last, .dt ready]) (!isNonB pic) := ext (ex_op (ex_v rfl) ex_d (notND_non _))
    cases hb : isNonB pic with
    | false =>
      rw [hb] at cP
      have bp := behind_picture_eq A.hd pic
      rw [if_neg (by decide)]
      refine exs_rt (exs_if1 cP (exs_ret (ex_fn (ex_c (ex_op (ex_1 (ex_v rfl) (fld_inputs _ _)) (ex_v rfl) (ix_nat A.hi)) (ex_c (ex_v rfl) (ex_c (ex_v rfl) ex_n))) ?_)))
      cases ho : o.isSome with
      | true => rw [ho] at bp; exact bp
      | false => rw [ho] at bp; exact bp
    | true =>
      rw [hb] at cP
      rw [if_pos rfl]
      refine exs_seq (exs_if0 cP exs_nx) ?_
      refine exs_seq (exs_asg (ex_fn (ex_c (ex_v rfl) ex_n) hnm) rfl) ?_
      have cF : EX (cT (cOp isND (cV 8) (cD .non)) [.dt (thePlay (.str k) (.tup ds)), .dt (.tup cells), .dt (stD done first last now ready), .dt (.int i), .dt (.tup (now ++ [x])), .dt pic, .dt (.tup ((now ++ [x]).map numD)), .dt (.int (done : Nat)), .dt first, .dt last, .dt ready]) (isNonB first) := ext (ex_op (ex_v rfl) ex_d (isND_non _))
      cases hff : isNonB first with
      | true =>
        rw [hff] at cF
        exact exs_seq (exs_if1 cF (exs_asg (ex_v rfl) rfl)) (exs_ret (ex_tup (ex_c (ex_tup (ex_c (ex_v rfl) (ex_c (ex_v rfl) (ex_c (ex_v rfl) (ex_c (ex_tup ex_n) (ex_c (ex_v rfl) ex_n)))))) (ex_c (ex_tup ex_n) ex_n))))
      | false =>
        rw [hff] at cF
        exact exs_seq (exs_if0 cF exs_nx) (exs_ret (ex_tup (ex_c (ex_tup (ex_c (ex_v rfl) (ex_c (ex_v rfl) (ex_c (ex_v rfl) (ex_c (ex_tup ex_n) (ex_c (ex_v rfl) ex_n)))))) (ex_c (ex_tup ex_n) ex_n))))
/-- behind one step: the cell, the state, what is told anew -/
noncomputable def nextD (k : Str) (ss : List D) (done : Nat) (o : Option Int) (first last : D) (now : List D) (ready cell x : D) (n : Nat) : D × D × List D :=
  if putsB k o ready = true then (.tup [.int (numI cell + 1), .int (wOf o), ready], aheadD ss ((done : Int) + 1), [])
  else (cell, lookD k ss done o first last (now ++ [x]) ready n)
theorem step_in_manner_eq {k : Str} {ds ss cells : List D} {i done : Nat} {o : Option Int} (A : At k ds i ss done o) {first last : D} {now : List D} {ready x cell : D} (hcell : cells[i]? = some cell) (hcs : CellS cell) (hx : cells[now.length]? = some x) (hc : ∀ c ∈ now ++ [x], CellS c) (hn : cells.length ≤ 100) (hf : Nums cells.length first) (hl : Nums cells.length last) :
    EX (f_step_in_manner [thePlay (.str k) (.tup ds), .tup cells, stD done first last now ready, .int i]) (.tup [(nextD k ss done o first last now ready cell x cells.length).1, (nextD k ss done o first last now ready cell x cells.length).2.1, .tup (nextD k ss done o first last now ready cell x cells.length).2.2]) := by
  have p := puts_next_eq A first last now ready
  have pc : EX (cT (cFn 3 f_puts_next (cC (cV 0) (cC (cV 3) (cC (cV 2) cN)))) [.dt (thePlay (.str k) (.tup ds)), .dt (.tup cells), .dt (stD done first last now ready), .dt (.int i), .un]) (putsB k o ready) := ext (ex_fn (ex_c (ex_v rfl) (ex_c (ex_v rfl) (ex_c (ex_v rfl) ex_n))) p)
  refine exf (N := 5) ?_
  unfold nextD
  cases hp : putsB k o ready with
  | true =>
    rw [hp] at pc
    obtain ⟨c, v, r, rfl⟩ := hcs
    have ho : ∃ w, o = some w := by
      cases o with
      | none => simp [putsB] at hp
      | some w => exact ⟨w, rfl⟩
    obtain ⟨w, rfl⟩ := ho
    rw [if_pos rfl]
    exact exs_rt (exs_if1 pc (exs_ret (ex_fn (ex_c (ex_op (ex_1 (ex_v rfl) (fld_inputs _ _)) (ex_v rfl) (ix_nat A.hi)) (ex_c (ex_op (ex_v rfl) (ex_v rfl) (ix_nat hcell)) (ex_c (ex_v rfl) ex_n))) (behind_put_eq A.hd c v r first last now ready))))
  | false =>
    rw [hp] at pc
    rw [if_neg (by decide)]
    refine exs_seq (exs_if0 pc exs_nx) ?_
    refine exs_seq (exs_asg (ex_fn (ex_c (ex_v rfl) (ex_c (ex_v rfl) (ex_c (ex_v rfl) (ex_c (ex_v rfl) ex_n)))) (behind_look_eq A hx hc hn hf hl)) rfl) ?_
    exact exs_ret (ex_tup (ex_c (ex_op (ex_v rfl) (ex_v rfl) (ix_nat hcell)) (ex_c (ex_v rfl) (ex_c (ex_v rfl) ex_n))))
end Kk22
set_option Elab.async false
set_option linter.all false
set_option maxRecDepth 100000
set_option maxHeartbeats 4000000
namespace Kk22
open PySem L2 FD
theorem set_same {xs : List D} {i : Nat} {x : D} (h : xs[i]? = some x) : xs.set i x = xs := by
  apply List.ext_getElem?
  intro j
  by_cases hj : i = j
  · subst hj
    rw [List.getElem?_set_self (List.getElem?_eq_some_iff.mp h).1, h]
  · rw [List.getElem?_set_ne hj]
/-- what stands, and the hand i in it -/
structure Sta (k : Str) (ds : List D) (i : Nat) (ss : List D) (done : Nat) (o : Option Int) (cells states tolds : List D) (first last : D) (now : List D) (ready x cell : D) (ts : List D) : Prop where
  A : At k ds i ss done o
  cell_ : cells[i]? = some cell
  cs : CellS cell
  st : states[i]? = some (stD done first last now ready)
  td : tolds[i]? = some (.tup ts)
  hx : cells[now.length]? = some x
  hc : ∀ c ∈ now ++ [x], CellS c
  n1 : cells.length ≤ 100
  n2 : states.length = cells.length
  n3 : tolds.length = cells.length
  n4 : ds.length = cells.length
  n5 : ts.length ≤ 100
  f : Nums cells.length first
  l : Nums cells.length last
  r : putsB k o ready = false → ready = .non
noncomputable def newS (k : Str) (ss : List D) (i done : Nat) (o : Option Int) (cells states tolds : List D) (first last : D) (now : List D) (ready x cell : D) (ts : List D) : D :=
  .tup [.tup (cells.set i (nextD k ss done o first last now ready cell x cells.length).1), .tup (states.set i (nextD k ss done o first last now ready cell x cells.length).2.1), .tup (tolds.set i (.tup (ts ++ (nextD k ss done o first last now ready cell x cells.length).2.2)))]
section
variable {k : Str} {ds ss cells states tolds : List D} {i done : Nat} {o : Option Int} {first last : D} {now : List D} {ready x cell : D} {ts : List D}
theorem inMANN {k : Str} (hk : k ∈ MAN) : inD (.str k) k_MANNERS = some (.bl true) := by
  have := inD_strs k MAN
  rw [List.contains_iff_mem.mpr hk] at this
  exact this
theorem step_of_hand_eq (S : Sta k ds i ss done o cells states tolds first last now ready x cell ts) : EX (f_step_of_hand [thePlay (.str k) (.tup ds), .tup cells, stD done first last now ready, .int i]) (.tup [(nextD k ss done o first last now ready cell x cells.length).1, (nextD k ss done o first last now ready cell x cells.length).2.1, .tup (nextD k ss done o first last now ready cell x cells.length).2.2]) :=
  exf (N := 4) (exs_rt (exs_if1 (ext (ex_op (ex_1 (ex_v rfl) (fld_kind _ _)) ex_d (inMANN S.A.hk))) (exs_ret (ex_fn (ex_c (ex_v rfl) (ex_c (ex_v rfl) (ex_c (ex_v rfl) (ex_c (ex_v rfl) ex_n)))) (step_in_manner_eq S.A S.cell_ S.cs S.hx S.hc S.n1 S.f S.l)))))
theorem add_len (S : Sta k ds i ss done o cells states tolds first last now ready x cell ts) : (nextD k ss done o first last now ready cell x cells.length).2.2.length ≤ 1 := by
  unfold nextD lookD
  repeat' split
  all_goals simp
theorem standing_behind_eq (S : Sta k ds i ss done o cells states tolds first last now ready x cell ts) : EX (f_standing_behind [thePlay (.str k) (.tup ds), .tup [.tup cells, .tup states, .tup tolds], .int i]) (newS k ss i done o cells states tolds first last now ready x cell ts) := by
  have hi : i < cells.length := (List.getElem?_eq_some_iff.mp S.cell_).1
  have hs := step_of_hand_eq S
  have al := add_len S
  unfold newS
  generalize nextD k ss done o first last now ready cell x cells.length = N at hs al ⊢
  obtain ⟨c', s', a⟩ := N
  have n5 := S.n5
  refine exf (N := 9) ?_
  refine exs_seq (exs_asg (ex_v rfl) rfl) ?_
  refine exs_seq (exs_asg (ex_fn (ex_c (ex_v rfl) (ex_c (ex_v rfl) (ex_c (ex_op (ex_v rfl) (ex_v rfl) (ix_nat S.st)) (ex_c (ex_v rfl) ex_n)))) hs) rfl) ?_
  refine exs_ret (ex_tup (ex_c (ex_fn (ex_c (ex_v rfl) (ex_c (ex_v rfl) (ex_c (ex_v rfl) ex_n))) (put_at_eq hi (by have := S.n1; omega))) (ex_c (ex_fn (ex_c (ex_v rfl) (ex_c (ex_v rfl) (ex_c (ex_v rfl) ex_n))) (put_at_eq (by rw [S.n2]; exact hi) (by have := S.n1; have := S.n2; omega))) (ex_c (ex_fn (ex_c (ex_v rfl) (ex_c (ex_v rfl) (ex_c (ex_op (ex_op (ex_v rfl) (ex_v rfl) (ix_nat S.td)) (ex_v rfl) (add_tt ?_)) ex_n))) (put_at_eq (by rw [S.n3]; exact hi) (by have := S.n1; have := S.n3; omega))) ex_n))))
  show ts.length + a.length ≤ 1000
  have : a.length ≤ 1 := al
  omega
theorem many_eq (k : Str) (hk : k ∈ MAN) (ds : List D) : EX (f_many_hands [thePlay (.str k) (.tup ds)]) (.int (ds.length : Nat)) := by
  have q := okMW hk "near" (okS (by decide +kernel))
  have e : (k == ("near" : Str)) = false := by
    simp only [List.mem_cons, List.not_mem_nil, or_false] at hk
    rcases hk with rfl | rfl | rfl <;> decide +kernel
  rw [e] at q
  exact exf (N := 1) (exs_seq (exs_if0 (ext (ex_op (ex_1 (ex_v rfl) (fld_kind _ _)) ex_d q)) exs_nx) (exs_ret (ex_call (ex_c (ex_1 (ex_v rfl) (fld_inputs _ _)) ex_n) rfl)))
theorem is_hand_eq (hk : k ∈ MAN) (hi : i < ds.length) : EX (f_is_hand [thePlay (.str k) (.tup ds), .int i]) (.bl true) := by
  refine exf (N := 2) (exs_ret (ex_fn (ex_c (ex_fn (ex_c (ex_v rfl) ex_n) (many_eq k hk ds)) (ex_c (ex_v rfl) ex_n)) fun g => ?_))
  rw [is_number_below_eq _ rfl]
  congr 3
  simp [inR]
  omega
end
end Kk22
set_option Elab.async false
set_option linter.all false
set_option maxRecDepth 100000
set_option maxHeartbeats 400000
namespace Kk22
open PySem L2 FD
def cell0 : D := .tup [.int 0, .int 0, .non]
def startD : D → D
  | .tup ss => aheadD ss 0
  | _ => .non
def firstD (ds : List D) : D := .tup [.tup (ds.map fun _ => cell0), .tup (ds.map startD), .tup (ds.map fun _ => .tup [])]
theorem flat_rep (d : D) (n : Nat) : (List.replicate n [d]).flatten = List.replicate n d := by
  induction n with
  | zero => rfl
  | succ n ih => rw [List.replicate_succ, List.flatten_cons, ih, List.replicate_succ]; rfl
theorem map_same (ds : List D) (c : D) : (ds.map fun _ => c) = List.replicate ds.length c := by
  induction ds with
  | nil => rfl
  | cons d ds ih => rw [List.map_cons, ih]; rfl
theorem mul_rep (d : D) {n : Nat} (h1 : 1 ≤ n) (h2 : n ≤ 500) : mulD2 (.tup [d]) (.int (n : Nat)) = some (.tup (List.replicate n d)) := by
  by_cases h : n = 1
  · subst h; rfl
  · have e : mulD2 (.tup [d]) (.int (n : Nat)) = mulD (.tup [d]) (.int (n : Nat)) := by
      unfold mulD2
      split
      · rename_i h3 h4
        have := D.int.inj h4
        omega
      · rfl
    rw [e]
    show (if _ then _ else _) = _
    rw [if_pos ⟨by simp, by omega, by omega, by simp, by simp; omega⟩]
    rw [show ((n : Nat) : Int).toNat = n from rfl, flat_rep]
theorem first_of_hand_eq {k : Str} {ds ss : List D} {i : Nat} (hk : k ∈ MAN) (hi : ds[i]? = some (.tup ss)) : EX (f_first_of_hand [thePlay (.str k) (.tup ds), .int i]) (.tup [cell0, aheadD ss 0]) :=
  exf (N := 2) (exs_rt (exs_if1 (ext (ex_op (ex_1 (ex_v rfl) (fld_kind _ _)) ex_d (inMANN hk))) (exs_ret (ex_fn (ex_c (ex_v rfl) (ex_c (ex_v rfl) ex_n)) (exf (N := 2) (exs_ret (ex_tup (ex_c ex_d (ex_c (ex_fn (ex_c (ex_op (ex_1 (ex_v rfl) (fld_inputs _ _)) (ex_v rfl) (ix_nat hi)) (ex_c ex_d ex_n)) (state_ahead_eq _ _)) ex_n)))))))))
def fstD : D → D
  | .tup [a, _] => a
  | _ => .non
def sndD : D → D
  | .tup [_, a] => a
  | _ => .non
theorem rng_map {ds : List D} (F : D → D) (G : D → D) (h : ∀ (j : Nat) (d : D), ds[j]? = some d → F (.int ((j : Nat) : Int)) = G d) : (rngD 0 ds.length).map F = ds.map G := by
  apply List.ext_getElem?
  intro j
  unfold rngD
  rw [List.map_map, List.getElem?_map, List.getElem?_map]
  by_cases hj : j < ds.length
  · rw [List.getElem?_range hj, List.getElem?_eq_getElem hj]
    simp only [Option.map_some, Function.comp]
    rw [show (0 : Int) + (j : Int) = ((j : Nat) : Int) by omega, h j ds[j] (List.getElem?_eq_getElem hj)]
  · rw [List.getElem?_eq_none (l := List.range ds.length) (by simp; omega), List.getElem?_eq_none (l := ds) (by omega)]; rfl
theorem first_standing_eq {k : Str} {ds : List D} (hk : k ∈ MAN) (h : ∀ d ∈ ds, ∃ ss, d = .tup ss) (h2 : ds.length ≤ 500) : EX (f_first_standing [thePlay (.str k) (.tup ds)]) (firstD ds) := by
  let F : D → D := fun d => match d with
    | .int j => .tup [cell0, startD ((ds[j.toNat]?).getD .non)]
    | _ => .non
  have hF : ∀ (j : Nat) (d : D), ds[j]? = some d → F (.int ((j : Nat) : Int)) = .tup [cell0, startD d] := fun j d hd => by
    show D.tup [cell0, startD ((ds[((j : Nat) : Int).toNat]?).getD .non)] = _
    rw [Int.toNat_natCast, hd]; rfl
  have fm := rng_map F (fun d => .tup [cell0, startD d]) hF
  refine exf (N := 9) ?_
  refine exs_seq (ρ1 := [.dt (thePlay (.str k) (.tup ds)), .dt (.rng 0 (ds.length : Nat)), .un, .un, .un, .un, .un, .un, .un]) (exs_asg (ex_call (ex_c (ex_fn (ex_c (ex_v rfl) ex_n) (many_eq k hk ds)) ex_n) rfl) rfl) ?_
  refine exs_seq (ρ1 := [.dt (thePlay (.str k) (.tup ds)), .dt (.rng 0 (ds.length : Nat)), .dt (.lst ((rngD 0 ds.length).map F)), .un, .un, .un, .un, .un, .un]) (exs_asg (ex_lc (exi_v (ex_v rfl) (by omega)) (exc_map (F := F) fun d hd => ⟨_, rfl, ?_⟩) (by simp [rngD]; omega)) rfl) ?_
  · unfold rngD at hd
    obtain ⟨j, hj, rfl⟩ := List.mem_map.mp hd
    have hj := List.mem_range.mp hj
    have hx : ds[j]? = some ds[j] := List.getElem?_eq_getElem hj
    obtain ⟨ss, hs⟩ := h _ (List.mem_of_getElem? hx)
    have e0 : ((0 : Int) + (j : Int)) = ((j : Nat) : Int) := by omega
    rw [e0, hF j _ hx, hs]
    exact ex_fn (ex_c (ex_v rfl) (ex_c (ex_v rfl) ex_n)) (first_of_hand_eq hk (by rw [hx, hs]))
  rw [fm]
  refine exs_seq (ρ1 := [.dt (thePlay (.str k) (.tup ds)), .dt (.rng 0 (ds.length : Nat)), .dt (.lst (ds.map fun d => .tup [cell0, startD d])), .dt (.tup ((ds.map fun d => D.tup [cell0, startD d]).map fstD)), .un, .un, .un, .un, .un]) (exs_asg (ex_call (ex_c (ex_lc (exi_s (ex_v rfl) rfl) (exc_map (F := fstD) fun d hd => ?_) (by simp; omega)) ex_n) rfl) rfl) ?_
  · obtain ⟨e, _, rfl⟩ := List.mem_map.mp hd
    exact ⟨_, rfl, ex_v rfl⟩
  refine exs_seq (ρ1 := [.dt (thePlay (.str k) (.tup ds)), .dt (.rng 0 (ds.length : Nat)), .dt (.lst (ds.map fun d => .tup [cell0, startD d])), .dt (.tup ((ds.map fun d => D.tup [cell0, startD d]).map fstD)), .dt (.tup ((ds.map fun d => D.tup [cell0, startD d]).map sndD)), .un, .un, .un, .un]) (exs_asg (ex_call (ex_c (ex_lc (exi_s (ex_v rfl) rfl) (exc_map (F := sndD) fun d hd => ?_) (by simp; omega)) ex_n) rfl) rfl) ?_
  · obtain ⟨e, _, rfl⟩ := List.mem_map.mp hd
    exact ⟨_, rfl, ex_v rfl⟩
  have e1 : (ds.map fun d => D.tup [cell0, startD d]).map fstD = ds.map fun _ => cell0 := by
    rw [List.map_map]; rfl
  have e2 : (ds.map fun d => D.tup [cell0, startD d]).map sndD = ds.map startD := by
    rw [List.map_map]; rfl
  have e3 := rng_map (ds := ds) (fun _ => D.tup []) (fun _ => D.tup []) (fun _ _ _ => rfl)
  rw [e1, e2]
  unfold firstD
  rw [← e3]
  exact exs_ret (ex_tup (ex_c (ex_v rfl) (ex_c (ex_v rfl) (ex_c (ex_call (ex_c (ex_lc (exi_v (ex_v rfl) (by omega)) (exc_map (F := fun _ => .tup []) fun d hd => ⟨_, rfl, ex_tup ex_n⟩) (by simp [rngD]; omega)) ex_n) rfl) ex_n))))
end Kk22
set_option Elab.async false
set_option linter.all false
set_option maxRecDepth 100000
set_option maxHeartbeats 400000
namespace Kk22
open PySem L2 FD
/-- the hands that are not over -/
def goes (states : List D) : D → Bool
  | .int j => !isNonB ((states[j.toNat]?).getD .non)
  | _ => false
def ableL (states : List D) : List D := (rngD 0 states.length).filter (goes states)
theorem enum_able (p : D → Bool) : ∀ (xs : List D) (a : Nat), (∀ (j : Nat) (d : D), xs[j]? = some d → p (.int ((a + j : Nat) : Int)) = !isNonB d) →
    ((((xs.zipIdx a).map fun q => D.tup [.int (q.2 : Nat), q.1]).filter fun d => !isNonB (sndD d)).map fstD) = (rngD (a : Int) xs.length).filter p
  | [], _, _ => rfl
  | x :: xs, a, h => by
    have h0 := h 0 x rfl
    rw [Nat.add_zero] at h0
    have e1 : ((a : Int) + 1) = ((a + 1 : Nat) : Int) := by omega
    have ih := enum_able p xs (a + 1) fun j d hd => by
      rw [show a + 1 + j = a + (j + 1) by omega]; exact h (j + 1) d (by simpa using hd)
    rw [List.zipIdx_cons, List.map_cons, List.length_cons, rngD_cons, List.filter_cons, List.filter_cons, h0, e1]
    show ((if (!isNonB x) = true then _ else _) : List D).map fstD = _
    by_cases hx : (!isNonB x) = true
    · rw [if_pos hx, if_pos hx, List.map_cons, ih]; rfl
    · rw [if_neg hx, if_neg hx, ih]
theorem goes_at {states : List D} {j : Nat} {d : D} (h : states[j]? = some d) : goes states (.int ((j : Nat) : Int)) = !isNonB d := by
  show (!isNonB ((states[((j : Nat) : Int).toNat]?).getD .non)) = _
  rw [Int.toNat_natCast, h]; rfl
theorem able_len (states : List D) : (ableL states).length ≤ states.length := by
  unfold ableL
  refine Nat.le_trans (List.length_filter_le _ _) ?_
  simp [rngD]
/-- one of those that go: its number and what stands of it -/
theorem mem_able {states : List D} {d : D} (h : d ∈ ableL states) : ∃ (i : Nat) (s : D), d = .int ((i : Nat) : Int) ∧ states[i]? = some s ∧ isNonB s = false := by
  unfold ableL at h
  obtain ⟨h1, h2⟩ := List.mem_filter.mp h
  unfold rngD at h1
  obtain ⟨i, hi, rfl⟩ := List.mem_map.mp h1
  have hi := List.mem_range.mp hi
  have hs : states[i]? = some states[i] := List.getElem?_eq_getElem hi
  have e0 : ((0 : Int) + (i : Int)) = ((i : Nat) : Int) := by omega
  rw [e0] at h2 ⊢
  rw [goes_at hs] at h2
  exact ⟨i, _, rfl, hs, by simpa using h2⟩
theorem able_ints {states : List D} {d : D} (h : d ∈ ableL states) : ∃ (i : Nat), d = .int ((i : Nat) : Int) ∧ i < states.length := by
  obtain ⟨i, s, rfl, hs, _⟩ := mem_able h
  exact ⟨i, rfl, (List.getElem?_eq_some_iff.mp hs).1⟩
theorem able_plain {states : List D} (hl : states.length ≤ 500) : plain 2 (.tup (ableL states)) = true := by
  rw [plain_tup]
  refine ⟨Nat.le_trans (able_len states) hl, fun d hd => ?_⟩
  obtain ⟨i, rfl, _⟩ := able_ints hd
  rfl
end Kk22
set_option Elab.async false
set_option linter.all false
set_option maxRecDepth 100000
set_option maxHeartbeats 400000
namespace Kk22
open PySem L2 FD
/-- a picture that is ready, or none -/
def RdOk (r : D) : Prop := r = .non ∨ (tiny 3 r = true ∧ isNonB r = false)
structure CellOk (c : D) : Prop where
  e : ∃ (a v : Int) (r : D), c = .tup [.int a, .int v, r] ∧ 0 ≤ a ∧ a ≤ 6 ∧ 0 ≤ v ∧ v ≤ 999 ∧ RdOk r
theorem CellOk.s {c : D} (h : CellOk c) : CellS c := by
  obtain ⟨a, v, r, rfl, _⟩ := h.e
  exact ⟨a, v, r, rfl⟩
def NumsT (n : Nat) (x : D) : Prop := x = .non ∨ ∃ ns : List Int, x = .tup (ns.map .int) ∧ ns.length = n ∧ ∀ m ∈ ns, 0 ≤ m ∧ m ≤ 6
theorem NumsT.nums {n : Nat} {x : D} (h : NumsT n x) : Nums n x := by
  rcases h with rfl | ⟨ns, rfl, h, _⟩
  · exact .non
  · exact .of ns h
theorem nums_cells {cs : List D} (h : ∀ c ∈ cs, CellOk c) : NumsT cs.length (.tup (cs.map numD)) := by
  refine .inr ⟨cs.map numI, by rw [numD_map fun c hc => (h c hc).s], by simp, fun m hm => ?_⟩
  obtain ⟨c, hc, rfl⟩ := List.mem_map.mp hm
  obtain ⟨a, v, r, rfl, h0, h1, _⟩ := (h c hc).e
  exact ⟨h0, h1⟩
theorem pic_cells {cs : List D} (h : ∀ c ∈ cs, CellOk c) (hl : cs.length ≤ 6) : tiny 3 (.tup (cs.map pairD)) = true := by
  rw [tiny_tup]
  refine ⟨by simpa using hl, fun d hd => ?_⟩
  obtain ⟨c, hc, rfl⟩ := List.mem_map.mp hd
  obtain ⟨a, v, r, rfl, h0, h1, h2, h3, _⟩ := (h c hc).e
  show tiny 2 (.tup [.int a, .int v]) = true
  rw [tiny_tup]
  refine ⟨by simp, fun d hd => ?_⟩
  have z : d = .int a ∨ d = .int v := by simpa using hd
  rcases z with rfl | rfl
  · exact tiny_int (n := 0) (by omega)
  · exact tiny_int (n := 0) (by omega)
theorem lent_ok : ∀ (fs : List Int) (cs : List D), (∀ c ∈ cs, CellOk c) → RdOk (lent fs cs)
  | [], _, _ => .inl rfl
  | _ :: _, [], _ => .inl rfl
  | f :: fs, c :: cs, h => by
    unfold lent
    split
    · obtain ⟨a, v, r, rfl, _, _, _, _, hr⟩ := (h c (by simp)).e
      exact hr
    · exact lent_ok fs cs fun c hc => h c (by simp [hc])
open Classical in
theorem seen_ok {k : Str} {first last : D} {cs : List D} (h : ∀ c ∈ cs, CellOk c) (hl : cs.length ≤ 6) : RdOk (seenD k first last cs) := by
  unfold seenD
  split
  · exact .inr ⟨pic_cells h hl, rfl⟩
  · split
    · split
      · exact lent_ok _ _ h
      · exact .inl rfl
    · exact .inl rfl
/-- what stands of a hand that goes on -/
structure Going (k : Str) (n : Nat) (ss : List D) (done : Nat) (first last : D) (now : List D) (ready : D) : Prop where
  d : done < ss.length
  f : NumsT n first
  l : NumsT n last
  n1 : now.length < n
  nc : ∀ c ∈ now, CellOk c
  r : RdOk ready
  rb : ready ≠ .non → k = "borrow" ∧ ∃ w, ss[done]? = some (deedD (some w))
def SInv (k : Str) (n : Nat) (ss : List D) (done : Nat) (state : D) : Prop := state = .non ∨ ∃ first last now ready, state = stD done first last now ready ∧ Going k n ss done first last now ready
/-- what stands of a hand -/
structure HInv (k : Str) (n : Nat) (ss : List D) (cell state told : D) : Prop where
  e : ∃ (done : Nat) (a v : Int) (r : D) (ts : List D), cell = .tup [.int a, .int v, r] ∧ 0 ≤ a ∧ a ≤ (done : Int) ∧ 0 ≤ v ∧ v ≤ 999 ∧ RdOk r ∧ told = .tup ts ∧ ts.length ≤ done ∧ (∀ t ∈ ts, tiny 3 t = true) ∧ done ≤ ss.length ∧ SInv k n ss done state
theorem ahead_inv {k : Str} {n : Nat} {ss : List D} {done : Nat} (hd : done < ss.length) (hn : 1 ≤ n) : SInv k n ss (done + 1) (aheadD ss ((done : Int) + 1)) := by
  unfold aheadD
  by_cases h : (done : Int) + 1 = (ss.length : Int)
  · rw [if_pos h]; exact .inl rfl
  · rw [if_neg h]
    refine .inr ⟨.non, .non, [], .non, ?_, by omega, .inl rfl, .inl rfl, (show 0 < n by omega), fun c hc => by simp at hc, .inl rfl, fun z => absurd rfl z⟩
    show fresh ((done : Int) + 1) = _
    rfl
theorem isNonB_of {x : D} (h : isNonB x = true) : x = .non := by cases x <;> simp [isNonB] at h; rfl
theorem next_inv {k : Str} {n : Nat} {ss : List D} {done : Nat} {o : Option Int} {first last : D} {now : List D} {ready x : D} {a v : Int} {r : D} {ts : List D} (G : Going k n ss done first last now ready) (hs : ss[done]? = some (deedD o)) (ho : ∀ w, o = some w → 0 ≤ w ∧ w ≤ 999) (hss : ss.length ≤ 6) (hn1 : 1 ≤ n) (hn5 : n ≤ 5)
    (hx : CellOk x) (a0 : 0 ≤ a) (a1 : a ≤ (done : Int)) (v0 : 0 ≤ v) (v1 : v ≤ 999) (hr : RdOk r) (ht : ts.length ≤ done) (htt : ∀ t ∈ ts, tiny 3 t = true) :
    HInv k n ss (nextD k ss done o first last now ready (.tup [.int a, .int v, r]) x n).1 (nextD k ss done o first last now ready (.tup [.int a, .int v, r]) x n).2.1 (.tup (ts ++ (nextD k ss done o first last now ready (.tup [.int a, .int v, r]) x n).2.2)) := by
  have hc : ∀ c ∈ now ++ [x], CellOk c := fun c hc => by
    rcases List.mem_append.mp hc with h | h
    · exact G.nc c h
    · have : c = x := by simpa using h
      exact this ▸ hx
  have hd := G.d
  unfold nextD
  by_cases hp : putsB k o ready = true
  · rw [if_pos hp]
    obtain ⟨w, rfl⟩ : ∃ w, o = some w := by
      cases o with
      | none => simp [putsB] at hp
      | some w => exact ⟨w, rfl⟩
    obtain ⟨w0, w1⟩ := ho w rfl
    refine ⟨done + 1, a + 1, w, ready, ts ++ [], rfl, by omega, by omega, w0, w1, G.r, rfl, by simp; omega, by simpa using htt, by omega, ahead_inv hd hn1⟩
  · rw [if_neg hp]
    have keep : ∀ (st : D), SInv k n ss done st → HInv k n ss (.tup [.int a, .int v, r]) st (.tup (ts ++ [])) := fun st h => ⟨done, a, v, r, ts ++ [], rfl, a0, a1, v0, v1, hr, rfl, by simpa using ht, by simpa using htt, by omega, h⟩
    simp only
    unfold lookD
    by_cases h1 : (now ++ [x]).length < n
    · rw [if_pos h1]
      exact keep _ (.inr ⟨first, last, now ++ [x], ready, rfl, hd, G.f, G.l, h1, hc, G.r, G.rb⟩)
    · rw [if_neg h1]
      have n1 := G.n1
      have len2 : (now ++ [x]).length = n := by simp at h1 ⊢; omega
      have hnum := nums_cells hc
      rw [len2] at hnum
      by_cases hb : isNonB (seenD k first last (now ++ [x])) = true
      · rw [if_pos hb]
        refine keep _ (.inr ⟨_, _, [], ready, rfl, hd, ?_, hnum, (show 0 < n by omega), fun c hc => by simp at hc, G.r, G.rb⟩)
        by_cases hf : isNonB first = true
        · rw [if_pos hf]; exact hnum
        · rw [if_neg hf]; exact G.f
      · rw [if_neg hb]
        have hso := seen_ok (k := k) (first := first) (last := last) hc (by omega)
        have hsp : tiny 3 (seenD k first last (now ++ [x])) = true := by
          rcases hso with z | z
          · rw [z] at hb; simp [isNonB] at hb
          · exact z.1
        by_cases hos : o.isSome = true
        · rw [if_pos hos]
          obtain ⟨w, rfl⟩ := Option.isSome_iff_exists.mp hos
          have hbor : k = "borrow" := by
            by_cases z : k = "borrow"
            · exact z
            · exact absurd (by simp [putsB, z]) hp
          exact keep _ (.inr ⟨.non, .non, [], _, rfl, hd, .inl rfl, .inl rfl, (show 0 < n by omega), fun c hc => by simp at hc, hso, fun _ => ⟨hbor, w, hs⟩⟩)
        · rw [if_neg hos]
          refine ⟨done + 1, a, v, r, ts ++ [seenD k first last (now ++ [x])], rfl, a0, by omega, v0, v1, hr, rfl, by simp; omega, fun t h => ?_, by omega, ahead_inv hd hn1⟩
          rcases List.mem_append.mp h with h | h
          · exact htt t h
          · have : t = seenD k first last (now ++ [x]) := by simpa using h
            exact this ▸ hsp
end Kk22
set_option Elab.async false
set_option linter.all false
set_option maxRecDepth 100000
set_option maxHeartbeats 400000
namespace Kk22
open PySem L2 FD
/-- what stands of a play -/
structure Inv (k : Str) (ds cells states tolds : List D) : Prop where
  hk : k ∈ MAN
  n1 : 1 ≤ ds.length
  n5 : ds.length ≤ 5
  c : cells.length = ds.length
  s : states.length = ds.length
  t : tolds.length = ds.length
  all : ∀ d ∈ ds, ∃ ss, d = .tup ss ∧ ss.length ≤ 6 ∧ ∀ e ∈ ss, ∃ o, e = deedD o ∧ ∀ w, o = some w → 0 ≤ w ∧ w ≤ 999
  h : ∀ (i : Nat) (ss : List D) (c s t : D), ds[i]? = some (.tup ss) → cells[i]? = some c → states[i]? = some s → tolds[i]? = some t → HInv k ds.length ss c s t
section
variable {k : Str} {ds cells states tolds : List D}
theorem Inv.at (I : Inv k ds cells states tolds) {i : Nat} (hi : i < ds.length) : ∃ ss c s t, ds[i]? = some (.tup ss) ∧ cells[i]? = some c ∧ states[i]? = some s ∧ tolds[i]? = some t ∧ ss.length ≤ 6 ∧ (∀ e ∈ ss, ∃ o, e = deedD o ∧ ∀ w, o = some w → 0 ≤ w ∧ w ≤ 999) ∧ HInv k ds.length ss c s t := by
  have d1 : ds[i]? = some ds[i] := List.getElem?_eq_getElem hi
  obtain ⟨ss, hs, h6, hd⟩ := I.all _ (List.mem_of_getElem? d1)
  rw [hs] at d1
  have c1 : cells[i]? = some (cells[i]'(by rw [I.c]; exact hi)) := List.getElem?_eq_getElem _
  have s1 : states[i]? = some (states[i]'(by rw [I.s]; exact hi)) := List.getElem?_eq_getElem _
  have t1 : tolds[i]? = some (tolds[i]'(by rw [I.t]; exact hi)) := List.getElem?_eq_getElem _
  exact ⟨ss, _, _, _, d1, c1, s1, t1, h6, hd, I.h i ss _ _ _ d1 c1 s1 t1⟩
theorem Inv.cell (I : Inv k ds cells states tolds) {i : Nat} {c : D} (h : cells[i]? = some c) : CellOk c := by
  have hi : i < ds.length := by rw [← I.c]; exact (List.getElem?_eq_some_iff.mp h).1
  obtain ⟨ss, c', s, t, _, c1, _, _, h6, _, H⟩ := I.at hi
  rw [h] at c1
  cases c1
  obtain ⟨done, a, v, r, ts, rfl, a0, a1, v0, v1, hr, _, _, _, hd, _⟩ := H.e
  exact ⟨a, v, r, rfl, a0, by omega, v0, v1, hr⟩
end
end Kk22
set_option Elab.async false
set_option linter.all false
set_option maxRecDepth 100000
set_option maxHeartbeats 400000
namespace Kk22
open PySem L2 FD
theorem script_form {d : D} (h : Script d) : ∃ ss, d = .tup ss ∧ ss.length ≤ 6 ∧ ∀ e ∈ ss, ∃ o, e = deedD o ∧ ∀ w, o = some w → 0 ≤ w ∧ w ≤ 999 := by
  obtain ⟨h1, h2⟩ := h
  cases d with
  | tup xs =>
    obtain ⟨_, hm⟩ := fine_tup.mp h2
    simp only [scriptB, Bool.and_eq_true, decide_eq_true_eq] at h1
    exact ⟨xs, rfl, h1.1, fun e he => deed_form (List.all_eq_true.mp h1.2 e he) (hm e he)⟩
  | _ => simp [scriptB] at h1
theorem first_inv {k : Str} {ds : List D} {n : Nat} (hk : k ∈ MAN) (h : Menu n Script ds) (h1 : 1 ≤ n) (h5 : n ≤ 5) : Inv k ds (ds.map fun _ => cell0) (ds.map startD) (ds.map fun _ => .tup []) := by
  refine ⟨hk, by rw [h.1]; exact h1, by rw [h.1]; exact h5, by simp, by simp, by simp, fun d hd => script_form (h.2 d hd), fun i ss c s t k1 k2 k3 k4 => ?_⟩
  rw [List.getElem?_map, k1] at k2 k3 k4
  cases k2
  cases k3
  cases k4
  refine ⟨0, 0, 0, .non, [], rfl, by omega, by omega, by omega, by omega, .inl rfl, rfl, by simp, fun t ht => by simp at ht, by omega, ?_⟩
  show SInv k ds.length ss 0 (aheadD ss 0)
  unfold aheadD
  by_cases z : (0 : Int) = (ss.length : Int)
  · rw [if_pos z]; exact .inl rfl
  · rw [if_neg z]
    refine .inr ⟨.non, .non, [], .non, rfl, by omega, .inl rfl, .inl rfl, (show 0 < ds.length by rw [h.1]; omega), fun c hc => by simp at hc, .inl rfl, fun z => absurd rfl z⟩
theorem RdOk.tiny {r : D} (h : RdOk r) : tiny 3 r = true := by
  rcases h with rfl | h
  · rfl
  · exact h.1
theorem CellOk.tiny {c : D} (h : CellOk c) : tiny 4 c = true := by
  obtain ⟨a, v, r, rfl, h0, h1, h2, h3, hr⟩ := h.e
  rw [tiny_tup]
  refine ⟨by simp, fun d hd => ?_⟩
  have z : d = .int a ∨ d = .int v ∨ d = r := by simpa using hd
  rcases z with rfl | rfl | rfl
  · exact tiny_int (n := 2) (by omega)
  · exact tiny_int (n := 2) (by omega)
  · exact hr.tiny
theorem NumsT.tiny {n : Nat} {x : D} (h : NumsT n x) (hn : n ≤ 6) : tiny 2 x = true := by
  rcases h with rfl | ⟨ns, rfl, hl, hm⟩
  · rfl
  · rw [tiny_tup]
    refine ⟨by simp; omega, fun d hd => ?_⟩
    obtain ⟨m, h1, rfl⟩ := List.mem_map.mp hd
    have := hm m h1
    exact tiny_int (n := 0) (by omega)
theorem Inv.tiny {k : Str} {ds cells states tolds : List D} (I : Inv k ds cells states tolds) : tiny 8 (.tup [.tup cells, .tup states, .tup tolds]) = true := by
  have n5 := I.n5
  have pick : ∀ {xs : List D}, xs.length = ds.length → ∀ d ∈ xs, ∃ i, i < ds.length ∧ xs[i]? = some d := fun {xs} hl d hd => by
    obtain ⟨i, hi, e⟩ := List.mem_iff_getElem.mp hd
    exact ⟨i, by omega, by rw [List.getElem?_eq_getElem hi, e]⟩
  rw [tiny_tup]
  refine ⟨by simp, fun d hd => ?_⟩
  have z : d = .tup cells ∨ d = .tup states ∨ d = .tup tolds := by simpa using hd
  rcases z with rfl | rfl | rfl
  · refine tiny_le (n := 5) 2 ?_
    rw [tiny_tup]
    refine ⟨by rw [I.c]; omega, fun d hd => ?_⟩
    obtain ⟨i, hi, e⟩ := pick I.c d hd
    exact (I.cell e).tiny
  · rw [tiny_tup]
    refine ⟨by rw [I.s]; omega, fun d hd => ?_⟩
    obtain ⟨i, hi, e⟩ := pick I.s d hd
    obtain ⟨ss, c, s, t, d1, c1, s1, t1, h6, hds, H⟩ := I.at hi
    rw [e] at s1
    cases s1
    obtain ⟨done, a, v, r, ts, _, _, _, _, _, _, _, _, _, hdn, hS⟩ := H.e
    rcases hS with rfl | ⟨first, last, now, ready, rfl, G⟩
    · rfl
    · show Kk22.tiny 6 (.tup [.int (done : Nat), first, last, .tup now, ready]) = true
      rw [tiny_tup]
      refine ⟨by simp, fun d hd => ?_⟩
      have z : d = .int (done : Nat) ∨ d = first ∨ d = last ∨ d = .tup now ∨ d = ready := by simpa using hd
      rcases z with rfl | rfl | rfl | rfl | rfl
      · exact tiny_int (n := 4) (by omega)
      · exact tiny_le 3 (G.f.tiny (by omega))
      · exact tiny_le 3 (G.l.tiny (by omega))
      · rw [tiny_tup]
        exact ⟨by have := G.n1; omega, fun c hc => (G.nc c hc).tiny⟩
      · exact tiny_le 2 G.r.tiny
  · refine tiny_le (n := 5) 2 ?_
    rw [tiny_tup]
    refine ⟨by rw [I.t]; omega, fun d hd => ?_⟩
    obtain ⟨i, hi, e⟩ := pick I.t d hd
    obtain ⟨ss, c, s, t, d1, c1, s1, t1, h6, hds, H⟩ := I.at hi
    rw [e] at t1
    cases t1
    obtain ⟨done, a, v, r, ts, _, _, _, _, _, _, rfl, hl, ht, hdn, _⟩ := H.e
    rw [tiny_tup]
    exact ⟨by omega, fun t h => ht t h⟩
end Kk22
set_option Elab.async false
set_option linter.all false
set_option maxRecDepth 100000
set_option maxHeartbeats 400000
namespace Kk22
open PySem L2 FD
theorem mkNear {k : Str} (hk : k ∈ MAN) : (k == ("near" : Str)) = false := by
  simp only [List.mem_cons, List.not_mem_nil, or_false] at hk
  rcases hk with rfl | rfl | rfl <;> decide +kernel
theorem man_kin {k : Str} (hk : k ∈ MAN) : k ∈ KIN := by
  simp only [List.mem_cons, List.not_mem_nil, or_false] at hk ⊢
  rcases hk with rfl | rfl | rfl <;> simp
theorem inputs_man {k : Str} {ds : List D} {n : Nat} (hk : k ∈ MAN) (h : Menu n Script ds) (h1 : 1 ≤ n) (h5 : n ≤ 5) : EX (f_is_inputs [.str k, .tup ds]) (.bl true) := by
  have q := okMW hk "near" (okS (by decide +kernel))
  rw [mkNear hk] at q
  have hf : fine (.tup ds) = true := by
    rw [fine_tup]
    exact ⟨by rw [h.1]; omega, fun d hd => (h.2 d hd).2⟩
  have hr : EX (f_is_row_of_hands [.tup ds]) (.bl true) := fun g => by
    rw [is_row_eq hf g, rowB_of h h1 h5]
  have ha : allD [.lst (ds.map fun d => .bl (scriptB d))] = some (.bl true) := by
    rw [allD_map]
    congr 2
    exact List.all_eq_true.mpr fun d hd => (h.2 d hd).1
  refine exf (N := 3) ?_
  refine exs_seq (exs_if0 (ext (ex_op (ex_v rfl) ex_d q)) exs_nx) ?_
  refine exs_seq (exs_if0 (ext_not (b := true) (ext (ex_fn (ex_c (ex_v rfl) ex_n) hr))) exs_nx) ?_
  refine exs_rt (exs_if1 (ext (ex_op (ex_v rfl) ex_d (inMANN hk))) (exs_ret (ex_call (ex_c (ex_lc (exi_s (ex_v rfl) rfl) (exc_map (F := fun d => .bl (scriptB d)) fun d hd => ⟨_, rfl, ?_⟩) (by rw [List.length_map, h.1]; omega)) ex_n) ha)))
  exact ex_fn (ex_c (ex_v rfl) ex_n) fun g => is_script_eq (h.2 d hd).2 g
theorem play_man {k : Str} {ds : List D} {n : Nat} (hk : k ∈ MAN) (h : Menu n Script ds) (h1 : 1 ≤ n) (h5 : n ≤ 5) : EX (f_Play [.str k, .tup ds]) (thePlay (.str k) (.tup ds)) := fun g => by
  have hw := is_word_of_eq KIN (d := .str k) (ok7 k (man_kin hk)) g
  rw [← kKIN] at hw
  have hw1 : isW KIN (.str k) = true := List.contains_iff_mem.mpr (man_kin hk)
  rw [hw1] at hw
  have hi := inputs_man hk h h1 h5 g
  simp [f_Play, mkF2, hw, hi, thePlay]
/-! ### numbers in lists -/
theorem ints_of : ∀ {xs : List D}, (∀ d ∈ xs, ∃ i : Int, d = .int i) → ∃ is : List Int, xs = is.map .int
  | [], _ => ⟨[], rfl⟩
  | d :: xs, h => by
    obtain ⟨i, rfl⟩ := h d (by simp)
    obtain ⟨is, rfl⟩ := ints_of (xs := xs) fun d hd => h d (by simp [hd])
    exact ⟨i :: is, rfl⟩
theorem inV_ints (z : Int) : ∀ ws : List Int, inV (.int z) (ws.map V.int) = ws.contains z
  | [] => rfl
  | w :: ws => by
    have ih := inV_ints z ws
    simp only [inV] at ih
    simp only [List.map_cons, inV, List.any_cons, ih, List.contains_cons, eqV]
    congr 1
    exact Bool.beq_comm
theorem flat_ints (ws : List Int) : (ws.map D.int).all flatD = true := by simp [flatD]
theorem inD_ints (z : Int) (ws : List Int) : inD (.int z) (.lst (ws.map .int)) = some (.bl (ws.contains z)) := by
  have h1 := flat_ints ws
  have h2 : (ws.map D.int).map toV = ws.map V.int := by simp [toV]
  simp [inD, inB, flatD, h1, h2, inV_ints, toV]
theorem notInD_ints (z : Int) (ws : List Int) : notInD (.int z) (.lst (ws.map .int)) = some (.bl (!ws.contains z)) := by
  have h1 := flat_ints ws
  have h2 : (ws.map D.int).map toV = ws.map V.int := by simp [toV]
  simp [notInD, inB, flatD, h1, h2, inV_ints, toV]
/-! ### chosen -/
theorem ts_ex {ρ ρ1 : List En} {a b : FS} {Q : Fl → Prop} (ha : EX (a ρ) (.nx ρ1)) (hb : TM (b ρ1) Q) : TM (sSeq a b ρ) Q := fun g hg => by
  obtain ⟨f, g2, e, q⟩ := hb g hg
  exact ⟨f, g2, (sSeq_nx (ha g)).trans e, q⟩
end Kk22
set_option Elab.async false
set_option linter.all false
set_option maxRecDepth 100000
set_option maxHeartbeats 400000
namespace Kk22
open PySem L2 FD
abbrev stD3 (cells states tolds : List D) : D := .tup [.tup cells, .tup states, .tup tolds]
/-- all that is to be known of one step -/
structure Stp (k : Str) (ds : List D) (i : Nat) (ss : List D) (done : Nat) (o : Option Int) (cells states tolds : List D) (first last : D) (now : List D) (ready x cell : D) (ts : List D) : Prop where
  S : Sta k ds i ss done o cells states tolds first last now ready x cell ts
  I : Inv k ds cells states tolds
  G : Going k ds.length ss done first last now ready
  xo : CellOk x
  I' : Inv k ds (cells.set i (nextD k ss done o first last now ready cell x cells.length).1) (states.set i (nextD k ss done o first last now ready cell x cells.length).2.1) (tolds.set i (.tup (ts ++ (nextD k ss done o first last now ready cell x cells.length).2.2)))
section
variable {k : Str} {ds cells states tolds : List D}
theorem stp_of (I : Inv k ds cells states tolds) {i : Nat} {s0 : D} (hs0 : states[i]? = some s0) (hn : isNonB s0 = false) :
    ∃ ss done o first last now ready x cell ts, Stp k ds i ss done o cells states tolds first last now ready x cell ts := by
  have hi : i < ds.length := by rw [← I.s]; exact (List.getElem?_eq_some_iff.mp hs0).1
  obtain ⟨ss, c, s, t, d1, c1, s1, t1, h6, hds, H⟩ := I.at hi
  rw [hs0] at s1
  cases s1
  obtain ⟨done, a, v, r, ts, rfl, a0, a1, v0, v1, hr, rfl, ht, htt, hd, hS⟩ := H.e
  rcases hS with z | ⟨first, last, now, ready, rfl, G⟩
  · rw [z] at hn; simp [isNonB] at hn
  have hdd : ss[done]? = some (ss[done]'G.d) := List.getElem?_eq_getElem _
  obtain ⟨o, ho, hob⟩ := hds _ (List.mem_of_getElem? hdd)
  rw [ho] at hdd
  have hx : cells[now.length]? = some (cells[now.length]'(by rw [I.c]; exact G.n1)) := List.getElem?_eq_getElem _
  have hxo := I.cell hx
  generalize cells[now.length]'(by rw [I.c]; exact G.n1) = x at hx hxo
  have n5 := I.n5
  have hc : ∀ c ∈ now ++ [x], CellS c := fun c hc => by
    rcases List.mem_append.mp hc with h | h
    · exact (G.nc c h).s
    · have : c = x := by simpa using h
      exact this ▸ hxo.s
  have Sx : Sta k ds i ss done o cells states tolds first last now ready x (.tup [.int a, .int v, r]) ts := {
      A := ⟨I.hk, d1, hdd⟩
      cell_ := c1
      cs := ⟨a, v, r, rfl⟩
      st := hs0
      td := t1
      hx := hx
      hc := hc
      n1 := by rw [I.c]; omega
      n2 := by rw [I.s, I.c]
      n3 := by rw [I.t, I.c]
      n4 := by rw [I.c]
      n5 := by omega
      f := by rw [I.c]; exact G.f.nums
      l := by rw [I.c]; exact G.l.nums
      r := fun hp => by
        rcases G.r with z | ⟨_, z⟩
        · exact z
        · have ne : ready ≠ .non := fun e => by rw [e] at z; simp [isNonB] at z
          obtain ⟨hb, w, hw⟩ := G.rb ne
          rw [hdd] at hw
          have eo : o = some w := by
            have := Option.some.inj hw
            cases o with
            | none => simp [deedD] at this
            | some w' => simp [deedD] at this; rw [this]
          rw [eo, hb] at hp
          simp [putsB, z] at hp }
  have hnx := next_inv (o := o) G hdd hob h6 I.n1 I.n5 hxo a0 a1 v0 v1 hr ht htt
  rw [← I.c] at hnx
  refine ⟨ss, done, o, first, last, now, ready, x, _, ts, Sx, I, G, hxo, ?_⟩
  refine ⟨I.hk, I.n1, I.n5, by rw [List.length_set, I.c], by rw [List.length_set, I.s], by rw [List.length_set, I.t], I.all, fun j ss' c' s' t' k1 k2 k3 k4 => ?_⟩
  by_cases hj : i = j
  · subst hj
    rw [List.getElem?_set_self (by rw [I.c]; exact hi)] at k2
    rw [List.getElem?_set_self (by rw [I.s]; exact hi)] at k3
    rw [List.getElem?_set_self (by rw [I.t]; exact hi)] at k4
    rw [d1] at k1
    cases k1
    cases k2
    cases k3
    cases k4
    rw [I.c] at hnx ⊢
    exact hnx
  · rw [List.getElem?_set_ne hj] at k2 k3 k4
    exact I.h j ss' c' s' t' k1 k2 k3 k4
end
/-- one step more -/
inductive StepR (k : Str) (ds : List D) : D → Nat → D → Prop
  | mk {i ss done o cells states tolds first last now ready x cell ts} : Stp k ds i ss done o cells states tolds first last now ready x cell ts →
      StepR k ds (stD3 cells states tolds) i (newS k ss i done o cells states tolds first last now ready x cell ts)
/-- a weaving, and what stands along it -/
inductive Pth (k : Str) (ds : List D) : D → List Nat → List D → D → Prop
  | nil {S} : Pth k ds S [] [S] S
  | cons {S S' T i w Ss} : StepR k ds S i S' → Pth k ds S' w Ss T → Pth k ds S (i :: w) (S :: Ss) T
section
variable {k : Str} {ds : List D}
theorem Pth.snoc {S T U : D} {w : List Nat} {Ss : List D} {i : Nat} (h : Pth k ds S w Ss T) (s : StepR k ds T i U) : Pth k ds S (w ++ [i]) (Ss ++ [U]) U := by
  induction h with
  | nil => exact .cons s .nil
  | cons s' _ ih => exact .cons s' (ih s)
theorem Pth.len {S T : D} {w : List Nat} {Ss : List D} (h : Pth k ds S w Ss T) : Ss.length = w.length + 1 := by
  induction h with
  | nil => rfl
  | cons _ _ ih => simp [ih]
theorem Pth.head {S T : D} {w : List Nat} {Ss : List D} (h : Pth k ds S w Ss T) : Ss[0]? = some S := by
  cases h <;> rfl
theorem Pth.take {S T : D} {w : List Nat} {Ss : List D} (h : Pth k ds S w Ss T) : ∀ j : Nat, ∃ T', Pth k ds S (w.take j) (Ss.take (j + 1)) T' := by
  induction h with
  | nil => exact fun j => ⟨_, by simpa using Pth.nil⟩
  | cons s h ih =>
    intro j
    cases j with
    | zero => exact ⟨_, by simpa using Pth.nil⟩
    | succ j =>
      obtain ⟨T', h'⟩ := ih j
      exact ⟨T', by simpa using Pth.cons s h'⟩
end
/-- the steps of the program -/
theorem StepR.ex {k : Str} {ds : List D} {S S' : D} {i : Nat} (h : StepR k ds S i S') :
    ∃ cells states tolds s0, S = stD3 cells states tolds ∧ Inv k ds cells states tolds ∧ i < ds.length ∧ states[i]? = some s0 ∧ isNonB s0 = false ∧
      EX (f_standing_behind [thePlay (.str k) (.tup ds), S, .int ((i : Nat) : Int)]) S' := by
  cases h with
  | @mk i ss done o cells states tolds first last now ready x cell ts P =>
    have hi : i < ds.length := by rw [P.S.n4]; exact (List.getElem?_eq_some_iff.mp P.S.cell_).1
    exact ⟨cells, states, tolds, _, rfl, P.I, hi, P.S.st, rfl, standing_behind_eq P.S⟩
theorem StepR.inv {k : Str} {ds : List D} {S S' : D} {i : Nat} (h : StepR k ds S i S') : ∃ cells states tolds, S' = stD3 cells states tolds ∧ Inv k ds cells states tolds := by
  cases h with
  | mk P => exact ⟨_, _, _, rfl, P.I'⟩
theorem step_to {k : Str} {ds cells states tolds : List D} (I : Inv k ds cells states tolds) {i : Nat} {s0 : D} (hs0 : states[i]? = some s0) (hn : isNonB s0 = false) : ∃ S', StepR k ds (stD3 cells states tolds) i S' := by
  obtain ⟨ss, done, o, first, last, now, ready, x, cell, ts, P⟩ := stp_of I hs0 hn
  exact ⟨_, .mk P⟩
end Kk22
set_option Elab.async false
set_option linter.all false
set_option maxRecDepth 100000
set_option maxHeartbeats 400000
namespace Kk22
open PySem L2 FD
/-! ### own lists and dicts, told without a draw -/
theorem exs_app {ρ : List En} {i : Nat} {a : FE} {xs : List D} {y : D} (hi : ρ[i]? = some (.own xs)) (hl : xs.length ≤ 1000) (ha : EX (a ρ) y) : EX (sApp i a ρ) (.nx (ρ.set i (.own (xs ++ [y])))) := fun g => by
  simp only [sApp, hi, ha g, M.bd]
  exact if_pos hl
theorem exs_own {ρ : List En} {i : Nat} : EX (sOwn i ρ) (.nx (ρ.set i (.own []))) := fun g => rfl
theorem exs_ownL {ρ : List En} {i : Nat} {a : FA} {xs : List D} (ha : EX (a ρ) xs) (hl : xs.length ≤ 1000 := by simp) : EX (sOwnL i a ρ) (.nx (ρ.set i (.own xs))) := fun g => by
  simp only [sOwnL, ha g, M.bd]
  exact if_pos hl
theorem exs_ownd {ρ : List En} {i : Nat} : EX (sOwnd i ρ) (.nx (ρ.set i (.ownd [] []))) := fun g => rfl
theorem exs_frz {ρ : List En} {i : Nat} {b : FS} {xs : List D} {f : Fl} (hi : ρ[i]? = some (.own xs)) (hb : EX (b (ρ.set i (.dt (.lst xs)))) f) : EX (sFrz i b ρ) f := fun g => by
  simp only [sFrz, hi]
  exact hb g
theorem exs_dset {ρ : List En} {i : Nat} {a b : FE} {ks : List Int} {xs : List D} {n : Int} {y : D} (hi : ρ[i]? = some (.ownd ks xs)) (h1 : ks.length = xs.length) (h2 : ks.length ≤ 1000) (hb : EX (b ρ) (.int n)) (ha : EX (a ρ) y) : EX (sDSet i b a ρ) (.nx (ρ.set i (.ownd (dKs ks n) (dXs ks xs n y)))) := fun g => by
  simp only [sDSet, hi, ha g, hb g, M.bd]
  exact if_pos ⟨h1, h2⟩
theorem exs_dadd {ρ : List En} {i : Nat} {a b : FE} {ks : List Int} {xs : List D} {n z u : Int} (hi : ρ[i]? = some (.ownd ks xs)) (h1 : ks.length = xs.length) (h2 : ks.length ≤ 1000) (hb : EX (b ρ) (.int n)) (hz : dIx ks xs n = some (.int z)) (ha : EX (a ρ) (.int u)) : EX (sDAdd i b a ρ) (.nx (ρ.set i (.ownd (dKs ks n) (dXs ks xs n (.int (z + u)))))) := fun g => by
  simp only [sDAdd, hi, ha g, hb g, hz, M.bd]
  exact if_pos ⟨h1, h2⟩
theorem ex_dix {ρ : List En} {i : Nat} {b : FE} {ks : List Int} {xs : List D} {n : Int} {d : D} (hi : ρ[i]? = some (.ownd ks xs)) (hb : EX (b ρ) (.int n)) (hz : dIx ks xs n = some d) : EX (cDIx i b ρ) d := fun g => by
  simp only [cDIx, hi, hb g, hz, M.bd]; rfl
theorem dWith_len (n : Int) (y : D) : ∀ (ks : List Int) (xs : List D), ks.length = xs.length → (dWith ks xs n y).length = ks.length
  | [], [], _ => rfl
  | k :: ks, x :: xs, h => by simp [dWith, dWith_len n y ks xs (by simpa using h)]
theorem dXs_len {ks : List Int} {xs : List D} (n : Int) (y : D) (h : ks.length = xs.length) : (dKs ks n).length = (dXs ks xs n y).length := by
  unfold dKs dXs
  by_cases c : ks.contains n = true
  · rw [if_pos c, if_pos c, dWith_len n y ks xs h]
  · rw [if_neg c, if_neg c]; simp [h]
theorem dKs_le (ks : List Int) (n : Int) : (dKs ks n).length ≤ ks.length + 1 := by
  unfold dKs
  split <;> simp
theorem dIx_none {n : Int} : ∀ {ks : List Int} {xs : List D}, ks.contains n = false → dIx ks xs n = none
  | [], _, _ => rfl
  | k :: ks, [], _ => rfl
  | k :: ks, x :: xs, h => by
    simp only [List.contains_cons, Bool.or_eq_false_iff, beq_eq_false_iff_ne] at h
    unfold dIx
    rw [if_neg (fun z => h.1 z.symm)]
    exact dIx_none h.2
theorem dIx_with (n : Int) (y : D) (m : Int) : ∀ (ks : List Int) (xs : List D), ks.length = xs.length → ks.contains n = true → dIx ks (dWith ks xs n y) m = if m = n then some y else dIx ks xs m
  | [], _, _, h => by simp at h
  | k :: ks, x :: xs, hl, h => by
    simp only [dWith, dIx]
    by_cases e : k = n
    · subst e
      by_cases q : k = m
      · subst q; simp
      · rw [if_neg q, if_neg q, if_neg (fun z => q z.symm)]
        by_cases c : ks.contains k = true
        · rw [dIx_with k y m ks xs (by simpa using hl) c, if_neg (fun z => q z.symm)]
        · have : ∀ (ks : List Int) (xs : List D), ks.contains k = false → ks.length = xs.length → dWith ks xs k y = xs := fun ks => by
            induction ks with
            | nil => intro xs _ h; cases xs <;> simp at h; rfl
            | cons a ks ih =>
              intro xs hc h
              cases xs with
              | nil => simp at h
              | cons b xs =>
                simp only [List.contains_cons, Bool.or_eq_false_iff, beq_eq_false_iff_ne] at hc
                simp only [dWith, ih xs hc.2 (by simpa using h)]
                rw [if_neg (fun z => hc.1 z.symm)]
          rw [this ks xs (by simpa using c) (by simpa using hl)]
    · rw [if_neg e]
      have hc : ks.contains n = true := by
        simp only [List.contains_cons, Bool.or_eq_true, beq_iff_eq] at h
        rcases h with h | h
        · exact absurd h.symm e
        · exact h
      have ih := dIx_with n y m ks xs (by simpa using hl) hc
      by_cases q : k = m
      · subst q
        rw [if_pos rfl, if_pos rfl, if_neg e]
      · rw [if_neg q, if_neg q, ih]
theorem dIx_app (n : Int) (y : D) (m : Int) : ∀ (ks : List Int) (xs : List D), ks.length = xs.length → ks.contains n = false → dIx (ks ++ [n]) (xs ++ [y]) m = if m = n then some y else dIx ks xs m
  | [], [], _, _ => by
    simp only [List.nil_append, dIx]
    by_cases q : n = m
    · subst q; simp
    · rw [if_neg q, if_neg (fun z => q z.symm)]
  | k :: ks, x :: xs, hl, h => by
    simp only [List.contains_cons, Bool.or_eq_false_iff, beq_eq_false_iff_ne] at h
    have ih := dIx_app n y m ks xs (by simpa using hl) h.2
    simp only [List.cons_append, dIx]
    by_cases q : k = m
    · subst q
      rw [if_pos rfl, if_pos rfl, if_neg (fun z => h.1 z.symm)]
    · rw [if_neg q, if_neg q, ih]
theorem dIx_put {ks : List Int} {xs : List D} (n : Int) (y : D) (m : Int) (h : ks.length = xs.length) : dIx (dKs ks n) (dXs ks xs n y) m = if m = n then some y else dIx ks xs m := by
  unfold dKs dXs
  by_cases c : ks.contains n = true
  · rw [if_pos c, if_pos c, dIx_with n y m ks xs h c]
  · rw [if_neg c, if_neg c, dIx_app n y m ks xs h (by simpa using c)]
/-! ### goes_on, picture_told -/
theorem ne_empty {now : List D} (h : ∀ c ∈ now, plain 6 c = true) (hl : now.length ≤ 500) : neD (.tup now) (.tup []) = some (.bl (!now.isEmpty)) := by
  have h1 : plain 7 (.tup now) = true := by rw [plain_tup]; exact ⟨hl, h⟩
  have h2 : plain 7 (.tup []) = true := by rw [plain_tup]; exact ⟨by simp, fun d hd => by simp at hd⟩
  unfold neD
  rw [eqB_plain h1 h2 (by decide) (by decide)]
  show some (D.bl (!eqP (.tup now) (.tup []))) = _
  congr 3
  cases now with
  | nil => exact eqP_refl h2
  | cons d ds =>
    obtain ⟨p, e1, _⟩ := plain_py (h d (by simp))
    obtain ⟨ps, e2, _⟩ := pysOk_of (n := 6) fun d hd => plain_py (h d (List.mem_cons_of_mem _ hd))
    simp [eqP, D.py, D.pys, e1, e2, PyData.eqv, PyData.eqvAll]
def goesB (first : D) (now : List D) : Bool := !isNonB first || !now.isEmpty
theorem goes_on_eq {done : Nat} {first last ready : D} {now : List D} (h : ∀ c ∈ now, plain 6 c = true) (hl : now.length ≤ 500) : EX (f_goes_on [stD done first last now ready]) (.bl (goesB first now)) := by
  refine exf (N := 1) (exs_ret (ex_and1 (ex_op (ex_v rfl) ex_d (notND_non _)) ?_))
  unfold goesB
  cases hf : isNonB first with
  | false => exact ex_or1 (ex_op (ex_op (ex_v rfl) ex_d rfl) ex_d (by rw [notND_non, hf]; rfl))
  | true => exact ex_or0 (ex_op (ex_op (ex_v rfl) ex_d rfl) ex_d (by rw [notND_non, hf]; rfl)) (ex_op (ex_op (ex_v rfl) ex_d rfl) (ex_tup ex_n) (ne_empty h hl))
noncomputable def pictD (k : Str) (o : Option Int) (first last : D) (now : List D) (ready x : D) (n : Nat) : D :=
  if putsB k o ready = true then .non else if (now ++ [x]).length < n then .non else seenD k first last (now ++ [x])
theorem ix_set {xs : List D} {i : Nat} {d : D} (h : i < xs.length) : ixD (.tup (xs.set i d)) (.int ((i : Nat) : Int)) = some d := ix_nat (List.getElem?_set_self h)
theorem ix_last {ts : List D} {d : D} (hl : ts.length ≤ 500) : ixD (.tup (ts ++ [d])) (.int (-1)) = some d := by
  show atI (ts ++ [d]) (-1) = some d
  have e : ixN (ts.length + 1) (-1) = some ts.length := by
    unfold ixN
    simp
    try omega
  simp [atI, e]
section
variable {k : Str} {ds ss cells states tolds : List D} {i done : Nat} {o : Option Int} {first last : D} {now : List D} {ready x cell : D} {ts : List D}
theorem picture_told_eq (P : Stp k ds i ss done o cells states tolds first last now ready x cell ts) :
    EX (f_picture_told [stD3 cells states tolds, newS k ss i done o cells states tolds first last now ready x cell ts, .int ((i : Nat) : Int)]) (pictD k o first last now ready x cells.length) := by
  have hc : i < cells.length := (List.getElem?_eq_some_iff.mp P.S.cell_).1
  have hs : i < states.length := by rw [P.S.n2]; exact hc
  have ht : i < tolds.length := by rw [P.S.n3]; exact hc
  have n5 := P.S.n5
  -- whether more is told
  have key : ∀ (st' : D) (a : List D) (pic : D), (∃ d, a = [d] ∧ pic = d) ∨ (a = [] ∧ ((st' = .non ∧ pic = .non) ∨ (isNonB st' = false ∧ ixD st' (.int 4) = some pic))) →
      ∀ c', EX (f_picture_told [stD3 cells states tolds, .tup [.tup (cells.set i c'), .tup (states.set i st'), .tup (tolds.set i (.tup (ts ++ a)))], .int ((i : Nat) : Int)]) pic := by
    intro st' a pic h c'
    have cL : EX (cT (cOp gtD (cCall lenD (cC (cOp ixD (cOp ixD (cV 1) (cD (.int 2))) (cV 2)) cN)) (cCall lenD (cC (cOp ixD (cOp ixD (cV 0) (cD (.int 2))) (cV 2)) cN))) [.dt (stD3 cells states tolds), .dt (.tup [.tup (cells.set i c'), .tup (states.set i st'), .tup (tolds.set i (.tup (ts ++ a)))]), .dt (.int ((i : Nat) : Int)), .un]) (decide (0 < a.length)) := by
      refine ext (ex_op (ex_call (ex_c (ex_op (ex_op (ex_v rfl) ex_d rfl) (ex_v rfl) (ix_set ht)) ex_n) rfl) (ex_call (ex_c (ex_op (ex_op (ex_v rfl) ex_d rfl) (ex_v rfl) (ix_nat P.S.td)) ex_n) rfl) ?_)
      show some (D.bl (decide (((ts.length : Nat) : Int) < (((ts ++ a).length : Nat) : Int)))) = _
      congr 2
      rw [decide_eq_decide, List.length_append]
      omega
    refine exf (N := 4) ?_
    rcases h with ⟨d, rfl, rfl⟩ | ⟨rfl, h⟩
    · exact exs_rt (exs_if1 cL (exs_ret (ex_op (ex_op (ex_op (ex_v rfl) ex_d rfl) (ex_v rfl) (ix_set ht)) (ex_1 ex_d rfl) (ix_last (by omega)))))
    · refine exs_seq (exs_if0 cL exs_nx) ?_
      refine exs_seq (exs_asg (ex_op (ex_op (ex_v rfl) ex_d rfl) (ex_v rfl) (ix_set hs)) rfl) ?_
      rcases h with ⟨rfl, rfl⟩ | ⟨h1, h2⟩
      · exact exs_rt (exs_if1 (ext (ex_op (ex_v rfl) ex_d (isND_non _))) (exs_ret ex_d))
      · refine exs_seq (exs_if0 (ext (ex_op (ex_v rfl) ex_d (by rw [isND_non, h1]))) exs_nx) (exs_ret (ex_op (ex_v rfl) ex_d h2))
  have ah : ∀ d : Int, (aheadD ss d = .non ∧ D.non = .non) ∨ (isNonB (aheadD ss d) = false ∧ ixD (aheadD ss d) (.int 4) = some .non) := fun d => by
    unfold aheadD
    by_cases z : d = (ss.length : Int)
    · rw [if_pos z]; exact .inl ⟨rfl, rfl⟩
    · rw [if_neg z]; exact .inr ⟨rfl, rfl⟩
  unfold newS pictD nextD
  cases hp : putsB k o ready with
  | true =>
    simp only [if_true]
    exact key _ _ _ (.inr ⟨rfl, ah _⟩) _
  | false =>
    have hr := P.S.r hp
    subst hr
    simp only [Bool.false_eq_true, if_false]
    unfold lookD
    by_cases h1 : (now ++ [x]).length < cells.length
    · simp only [h1, if_true]
      exact key _ _ _ (.inr ⟨rfl, .inr ⟨rfl, rfl⟩⟩) _
    · simp only [h1, if_false]
      by_cases h2 : isNonB (seenD k first last (now ++ [x])) = true
      · rw [if_pos h2, isNonB_of h2]
        exact key _ _ _ (.inr ⟨rfl, .inr ⟨rfl, rfl⟩⟩) _
      · rw [if_neg h2]
        by_cases h3 : o.isSome = true
        · rw [if_pos h3]
          exact key _ _ _ (.inr ⟨rfl, .inr ⟨rfl, rfl⟩⟩) _
        · rw [if_neg h3]
          exact key _ _ _ (.inl ⟨_, rfl, rfl⟩) _
end
end Kk22
set_option Elab.async false
set_option linter.all false
set_option maxRecDepth 100000
set_option maxHeartbeats 1000000
namespace Kk22
open PySem L2 FD
theorem ex_ifE1 {ρ : List En} {c : FT} {a b : FE} {x : D} (hc : EX (c ρ) true) (ha : EX (a ρ) x) : EX (cIfE c a b ρ) x := fun g => by
  simp only [cIfE, hc g, M.bd]
  exact ha g
theorem ex_ifE0 {ρ : List En} {c : FT} {a b : FE} {x : D} (hc : EX (c ρ) false) (hb : EX (b ρ) x) : EX (cIfE c a b ρ) x := fun g => by
  simp only [cIfE, hc g, M.bd]
  exact hb g
theorem exl_nil {gs : FG} {fb : FS} {ρ : List En} : EX (loopD gs fb [] ρ) (.nx ρ) := fun g => rfl
theorem exl_rt {gs : FG} {fb : FS} {d : D} {ds : List D} {ρ ρ1 : List En} {r : D} (hg : gs d ρ = some ρ1) (hb : EX (fb ρ1) (.rt r)) : EX (loopD gs fb (d :: ds) ρ) (.rt r) := fun g => by
  unfold loopD
  rw [hg]
  simp only [hb g]
theorem exl_nx {gs : FG} {fb : FS} {d : D} {ds : List D} {ρ ρ1 ρ2 : List En} {f : Fl} (hg : gs d ρ = some ρ1) (hb : EX (fb ρ1) (.nx ρ2)) (h : EX (loopD gs fb ds ρ2) f) : EX (loopD gs fb (d :: ds) ρ) f := fun g => by
  unfold loopD
  rw [hg]
  simp only [hb g]
  exact h g
theorem ixl_nat {xs : List D} {i : Nat} {d : D} (h : xs[i]? = some d) : ixD (.lst xs) (.int ((i : Nat) : Int)) = some d := by
  rw [ixD_lst (by omega)]; simpa using h
theorem lent_cons (f a v : Int) (r : D) (fs : List Int) (cs : List D) : lent (f :: fs) (D.tup [.int a, .int v, r] :: cs) = if f + 2 ≤ a then r else lent fs cs := by
  simp only [lent, numI, lendD]
  congr
end Kk22
set_option Elab.async false
set_option linter.all false
set_option maxRecDepth 100000
set_option maxHeartbeats 1000000
namespace Kk22
open PySem L2 FD
def begV (beg : D) (at_ : Int) : D := if isNonB beg = true then .int at_ else beg
theorem lst_add {xs ys : List D} (h : xs.length + ys.length ≤ 1000) : addD (.lst xs) (.lst ys) = some (.lst (xs ++ ys)) := if_pos h
theorem sl_lst {xs : List D} {lo hi : Option Int} : slD (.lst xs) lo hi = some (.lst (cutD xs lo hi)) := rfl
section
variable {k : Str} {done : Nat} {o : Option Int} {cells : List D} {first last : D} {now : List D} {ready x beg : D} {sw at_ : Int}
end
end Kk22
set_option Elab.async false
set_option linter.all false
set_option maxRecDepth 100000
set_option maxHeartbeats 1000000
namespace Kk22
open PySem L2 FD
/-- how a hand's look is noted, here and there -/
def Rel (n : Nat) (kb : List Int) (xb : List D) (ks : List Int) (xs : List D) (i : Nat) (first : D) (now : List D) (beg : D) (sw : Int) : Prop :=
  (goesB first now = false ∧ beg = .non ∧ sw = 0) ∨
  (goesB first now = true ∧ ∃ b : Int, beg = .int b ∧ dIx kb xb ((i : Nat) : Int) = some (.int b) ∧ dIx ks xs ((i : Nat) : Int) = some (.int (sw * (n : Int) + (now.length : Nat))) ∧ 0 ≤ sw)
abbrev envB (SS : List D) (W : D) (kb : List Int) (xb : List D) (ks : List Int) (xs : List D) (F : List D) (x5 x6 x7 x8 x9 x10 : En) : List En :=
  [.dt (.lst SS), .dt W, .ownd kb xb, .ownd ks xs, .own F, x5, x6, x7, x8, x9, x10]
noncomputable abbrev bodyB : FS := (sSeq (sPar 9 10 (cC (cOp ixD (cV 0) (cV 5)) (cC (cOp ixD (cV 0) (cOp addD (cV 5) (cD (.int 1)))) cN))) (sSeq (sAsg (cOp ixD (cOp ixD (cV 9) (cD (.int 1))) (cV 6)) (gN 7)) (sSeq (sIf (cNot (cT (cFn 1 f_goes_on (cC (cV 7) cN)))) (sSeq (sDSet 2 (cV 6) (cV 5)) (sDSet 3 (cV 6) (cD (.int 0)))) sNx) (sSeq (sDAdd 3 (cV 6) (cD (.int 1))) (sSeq (sAsg (cFn 3 f_picture_told (cC (cV 9) (cC (cV 10) (cC (cV 6) cN)))) (gN 8)) (sIf (cT (cOp notND (cV 8) (cD .non))) (sApp 4 (cTup (cC (cTup (cC (cV 6) (cC (cOp ixD (cV 7) (cD (.int 0))) (cC (cDIx 2 (cV 6)) (cC (cOp addD (cV 5) (cD (.int 1))) (cC (cV 8) cN)))))) (cC (cDIx 3 (cV 6)) cN)))) sNx))))))
theorem dKs_idem (ks : List Int) (n : Int) : dKs (dKs ks n) n = dKs ks n := by
  have h : (dKs ks n).contains n = true := by
    unfold dKs
    by_cases c : ks.contains n = true
    · rw [if_pos c]; exact c
    · rw [if_neg c]; simp
  show (if (dKs ks n).contains n = true then dKs ks n else dKs ks n ++ [n]) = _
  exact if_pos h
theorem goesB_empty {first : D} {now : List D} (h : goesB first now = false) : now = [] ∧ isNonB first = true := by
  unfold goesB at h
  cases now with
  | nil => exact ⟨rfl, by simpa using h⟩
  | cons d ds => simp at h
section
variable {k : Str} {ds ss cells states tolds : List D} {i done : Nat} {o : Option Int} {first last : D} {now : List D} {ready x cell : D} {ts : List D}
theorem now_plain (P : Stp k ds i ss done o cells states tolds first last now ready x cell ts) : ∀ c ∈ now, plain 6 c = true := fun c hc => plain_le 2 (tiny_plain (P.G.nc c hc).tiny)
theorem bodyB_eq (P : Stp k ds i ss done o cells states tolds first last now ready x cell ts) {SS F xb xs : List D} {kb ks : List Int} {beg : D} {sw : Int} {j : Nat} (hS : SS[j]? = some (stD3 cells states tolds)) (hS' : SS[j + 1]? = some (newS k ss i done o cells states tolds first last now ready x cell ts))
    (hb : kb.length = xb.length) (hs : ks.length = xs.length) (hb9 : kb.length ≤ 990) (hs9 : ks.length ≤ 990) (hF : F.length ≤ 1000) (hR : Rel ds.length kb xb ks xs i first now beg sw) (y7 y8 y9 y10 : En) :
    ∃ (kb' : List Int) (xb' : List D) (ks' : List Int) (xs' : List D) (b' : Int) (z7 z8 z9 z10 : En), kb'.length = xb'.length ∧ ks'.length = xs'.length ∧ kb'.length ≤ kb.length + 1 ∧ ks'.length ≤ ks.length + 1 ∧
      begV beg (j : Nat) = .int b' ∧ dIx kb' xb' ((i : Nat) : Int) = some (.int b') ∧ dIx ks' xs' ((i : Nat) : Int) = some (.int (sw * ((ds.length : Nat) : Int) + (now.length : Nat) + 1)) ∧
      (∀ m : Int, m ≠ (i : Nat) → dIx kb' xb' m = dIx kb xb m ∧ dIx ks' xs' m = dIx ks xs m) ∧
      ∀ W : D, EX (bodyB (envB SS W kb xb ks xs F (.dt (.int (j : Nat))) (.dt (.int (i : Nat))) y7 y8 y9 y10))
        (.nx (envB SS W kb' xb' ks' xs' (if isNonB (pictD k o first last now ready x ds.length) = true then F else F ++ [.tup [.tup [.int (i : Nat), .int (done : Nat), .int b', .int ((j : Nat) + 1), pictD k o first last now ready x ds.length], .int (sw * ((ds.length : Nat) : Int) + (now.length : Nat) + 1)]]) (.dt (.int (j : Nat))) (.dt (.int (i : Nat))) z7 z8 z9 z10)) := by
  have n5 := P.I.n5
  have hn : cells.length = ds.length := P.S.n4.symm
  have nl : now.length ≤ 500 := by have := P.G.n1; omega
  have go := goes_on_eq (done := done) (first := first) (last := last) (ready := ready) (now_plain P) nl
  have pt := picture_told_eq P
  rw [hn] at pt
  generalize pictD k o first last now ready x ds.length = pic at pt
  have hS1 : ixD (.lst SS) (.int ((j : Nat) : Int)) = some (stD3 cells states tolds) := ixl_nat hS
  have hS2 : ixD (.lst SS) (.int (((j : Nat) : Int) + 1)) = some (newS k ss i done o cells states tolds first last now ready x cell ts) := by
    have := ixl_nat hS'
    rwa [show (((j + 1 : Nat)) : Int) = ((j : Nat) : Int) + 1 by omega] at this
  generalize newS k ss i done o cells states tolds first last now ready x cell ts = S' at pt hS2
  -- the first two rows
  have e1 : ∀ W : D, EX (sPar 9 10 (cC (cOp ixD (cV 0) (cV 5)) (cC (cOp ixD (cV 0) (cOp addD (cV 5) (cD (.int 1)))) cN)) (envB SS W kb xb ks xs F (.dt (.int (j : Nat))) (.dt (.int (i : Nat))) y7 y8 y9 y10)) (.nx (envB SS W kb xb ks xs F (.dt (.int (j : Nat))) (.dt (.int (i : Nat))) y7 y8 (.dt (stD3 cells states tolds)) (.dt S'))) :=
    fun W => exs_par (ex_c (ex_op (ex_v rfl) (ex_v rfl) hS1) (ex_c (ex_op (ex_v rfl) (ex_op (ex_v rfl) ex_d rfl) hS2) ex_n))
  have e2 : ∀ W : D, EX (sAsg (cOp ixD (cOp ixD (cV 9) (cD (.int 1))) (cV 6)) (gN 7) (envB SS W kb xb ks xs F (.dt (.int (j : Nat))) (.dt (.int (i : Nat))) y7 y8 (.dt (stD3 cells states tolds)) (.dt S'))) (.nx (envB SS W kb xb ks xs F (.dt (.int (j : Nat))) (.dt (.int (i : Nat))) (.dt (stD done first last now ready)) y8 (.dt (stD3 cells states tolds)) (.dt S'))) :=
    fun W => exs_asg (ex_op (ex_op (ex_v rfl) ex_d rfl) (ex_v rfl) (ix_nat P.S.st)) rfl
  -- whether a look begins
  have e3 : ∃ (kb' : List Int) (xb' : List D) (ks1 : List Int) (xs1 : List D) (b' : Int), kb'.length = xb'.length ∧ ks1.length = xs1.length ∧ kb'.length ≤ kb.length + 1 ∧ ks1.length ≤ ks.length + 1 ∧ (dKs ks1 (i : Nat)).length ≤ ks.length + 1 ∧
      begV beg (j : Nat) = .int b' ∧ dIx kb' xb' ((i : Nat) : Int) = some (.int b') ∧ dIx ks1 xs1 ((i : Nat) : Int) = some (.int (sw * ((ds.length : Nat) : Int) + (now.length : Nat))) ∧
      (∀ m : Int, m ≠ (i : Nat) → dIx kb' xb' m = dIx kb xb m ∧ dIx ks1 xs1 m = dIx ks xs m) ∧
      ∀ W : D, EX (sIf (cNot (cT (cFn 1 f_goes_on (cC (cV 7) cN)))) (sSeq (sDSet 2 (cV 6) (cV 5)) (sDSet 3 (cV 6) (cD (.int 0)))) sNx (envB SS W kb xb ks xs F (.dt (.int (j : Nat))) (.dt (.int (i : Nat))) (.dt (stD done first last now ready)) y8 (.dt (stD3 cells states tolds)) (.dt S')))
        (.nx (envB SS W kb' xb' ks1 xs1 F (.dt (.int (j : Nat))) (.dt (.int (i : Nat))) (.dt (stD done first last now ready)) y8 (.dt (stD3 cells states tolds)) (.dt S'))) := by
    have cG : ∀ W : D, EX (cNot (cT (cFn 1 f_goes_on (cC (cV 7) cN))) (envB SS W kb xb ks xs F (.dt (.int (j : Nat))) (.dt (.int (i : Nat))) (.dt (stD done first last now ready)) y8 (.dt (stD3 cells states tolds)) (.dt S'))) (!goesB first now) :=
      fun W => ext_not (ext (ex_fn (ex_c (ex_v rfl) ex_n) go))
    rcases hR with ⟨g0, rfl, rfl⟩ | ⟨g1, b, rfl, hb1, hs1, sw0⟩
    · rw [g0] at cG
      obtain ⟨rfl, _⟩ := goesB_empty g0
      refine ⟨dKs kb (i : Nat), dXs kb xb (i : Nat) (.int (j : Nat)), dKs ks (i : Nat), dXs ks xs (i : Nat) (.int 0), (j : Nat), dXs_len _ _ hb, dXs_len _ _ hs, dKs_le _ _, dKs_le _ _, by rw [dKs_idem]; exact dKs_le _ _, rfl, ?_, ?_, fun m hm => ⟨?_, ?_⟩, ?_⟩
      · rw [dIx_put _ _ _ hb, if_pos rfl]
      · rw [dIx_put _ _ _ hs, if_pos rfl]; simp
      · rw [dIx_put _ _ _ hb, if_neg hm]
      · rw [dIx_put _ _ _ hs, if_neg hm]
      · exact fun W => exs_if1 (cG W) (exs_seq (exs_dset rfl hb (by omega) (ex_v rfl) (ex_v rfl)) (exs_dset rfl hs (by omega) (ex_v rfl) ex_d))
    · rw [g1] at cG
      refine ⟨kb, xb, ks, xs, b, hb, hs, by omega, by omega, dKs_le _ _, rfl, hb1, hs1, fun m hm => ⟨rfl, rfl⟩, fun W => exs_if0 (cG W) exs_nx⟩
  obtain ⟨kb', xb', ks1, xs1, b', l1, l2, l3, l4, l5, hb', d1, d2, d3, e3⟩ := e3
  refine ⟨kb', xb', dKs ks1 (i : Nat), dXs ks1 xs1 (i : Nat) (.int (sw * ((ds.length : Nat) : Int) + (now.length : Nat) + 1)), b', .dt (stD done first last now ready), .dt pic, .dt (stD3 cells states tolds), .dt S', l1, dXs_len _ _ l2, l3, l5, hb', d1, by rw [dIx_put _ _ _ l2, if_pos rfl], fun m hm => ⟨(d3 m hm).1, by rw [dIx_put _ _ _ l2, if_neg hm]; exact (d3 m hm).2⟩, ?_⟩
  intro W
  refine exs_seq (e1 W) (exs_seq (e2 W) (exs_seq (e3 W) ?_))
  have e4 : EX (sDAdd 3 (cV 6) (cD (.int 1)) (envB SS W kb' xb' ks1 xs1 F (.dt (.int (j : Nat))) (.dt (.int (i : Nat))) (.dt (stD done first last now ready)) y8 (.dt (stD3 cells states tolds)) (.dt S'))) (.nx (envB SS W kb' xb' (dKs ks1 (i : Nat)) (dXs ks1 xs1 (i : Nat) (.int (sw * ((ds.length : Nat) : Int) + (now.length : Nat) + 1))) F (.dt (.int (j : Nat))) (.dt (.int (i : Nat))) (.dt (stD done first last now ready)) y8 (.dt (stD3 cells states tolds)) (.dt S'))) :=
    exs_dadd rfl l2 (by omega) (ex_v rfl) d2 ex_d
  refine exs_seq e4 ?_
  have d4 : dIx (dKs ks1 ((i : Nat) : Int)) (dXs ks1 xs1 ((i : Nat) : Int) (.int (sw * ((ds.length : Nat) : Int) + (now.length : Nat) + 1))) ((i : Nat) : Int) = some (.int (sw * ((ds.length : Nat) : Int) + (now.length : Nat) + 1)) := by rw [dIx_put _ _ _ l2, if_pos rfl]
  generalize dKs ks1 ((i : Nat) : Int) = ks2 at d4 ⊢
  generalize dXs ks1 xs1 ((i : Nat) : Int) (.int (sw * ((ds.length : Nat) : Int) + (now.length : Nat) + 1)) = xs2 at d4 ⊢
  have e5 : EX (sAsg (cFn 3 f_picture_told (cC (cV 9) (cC (cV 10) (cC (cV 6) cN)))) (gN 8) (envB SS W kb' xb' ks2 xs2 F (.dt (.int (j : Nat))) (.dt (.int (i : Nat))) (.dt (stD done first last now ready)) y8 (.dt (stD3 cells states tolds)) (.dt S'))) (.nx (envB SS W kb' xb' ks2 xs2 F (.dt (.int (j : Nat))) (.dt (.int (i : Nat))) (.dt (stD done first last now ready)) (.dt pic) (.dt (stD3 cells states tolds)) (.dt S'))) :=
    exs_asg (ex_fn (ex_c (ex_v rfl) (ex_c (ex_v rfl) (ex_c (ex_v rfl) ex_n))) pt) rfl
  refine exs_seq e5 ?_
  have cP : EX (cT (cOp notND (cV 8) (cD .non)) (envB SS W kb' xb' ks2 xs2 F (.dt (.int (j : Nat))) (.dt (.int (i : Nat))) (.dt (stD done first last now ready)) (.dt pic) (.dt (stD3 cells states tolds)) (.dt S'))) (!isNonB pic) := ext (ex_op (ex_v rfl) ex_d (notND_non _))
  cases hp : isNonB pic with
  | true =>
    rw [hp] at cP
    rw [if_pos rfl]
    exact exs_if0 cP exs_nx
  | false =>
    rw [hp] at cP
    rw [if_neg (by simp)]
    exact exs_if1 cP (exs_app rfl hF (ex_tup (ex_c (ex_tup (ex_c (ex_v rfl) (ex_c (ex_op (ex_v rfl) ex_d rfl) (ex_c (ex_dix rfl (ex_v rfl) d1) (ex_c (ex_op (ex_v rfl) ex_d rfl) (ex_c (ex_v rfl) ex_n)))))) (ex_c (ex_dix rfl (ex_v rfl) d4) ex_n))))
end
end Kk22
set_option Elab.async false
set_option linter.all false
set_option maxRecDepth 100000
set_option maxHeartbeats 1000000
namespace Kk22
open PySem L2 FD
theorem stD_inj {a b : Nat} {f l r f' l' r' : D} {n n' : List D} (h : stD a f l n r = stD b f' l' n' r') : a = b ∧ f = f' ∧ l = l' ∧ n = n' ∧ r = r' := by
  unfold stD at h
  have h := D.tup.inj h
  simp only [List.cons.injEq, D.int.injEq, D.tup.injEq, and_true] at h
  obtain ⟨h1, h2, h3, h4, h5⟩ := h
  exact ⟨by omega, h2, h3, h4, h5⟩
theorem ahead_st {ss : List D} {d : Nat} {b : Nat} {f l r : D} {n : List D} (h : aheadD ss ((d : Int) + 1) = stD b f l n r) : b = d + 1 ∧ f = .non ∧ l = .non ∧ n = [] ∧ r = .non := by
  unfold aheadD at h
  by_cases z : (d : Int) + 1 = (ss.length : Int)
  · rw [if_pos z] at h; cases h
  · rw [if_neg z] at h
    have e : fresh ((d : Int) + 1) = stD (d + 1) .non .non [] .non := by
      unfold fresh stD
      rw [show (((d + 1 : Nat)) : Int) = (d : Int) + 1 by omega]
    rw [e] at h
    obtain ⟨h1, h2, h3, h4, h5⟩ := stD_inj h
    exact ⟨h1.symm, h2.symm, h3.symm, h4.symm, h5.symm⟩
section
variable {k : Str} {ds ss cells states tolds : List D} {i done : Nat} {o : Option Int} {first last : D} {now : List D} {ready x cell : D} {ts : List D}
theorem pict_end (P : Stp k ds i ss done o cells states tolds first last now ready x cell ts) (h : isNonB (pictD k o first last now ready x ds.length) = false) : now.length + 1 = ds.length ∧ tiny 3 (pictD k o first last now ready x ds.length) = true := by
  have nl := P.G.n1
  have n5 := P.I.n5
  unfold pictD at h ⊢
  cases hp : putsB k o ready with
  | true => rw [hp] at h; simp [isNonB] at h
  | false =>
    rw [hp] at h
    simp only [Bool.false_eq_true, if_false] at h ⊢
    by_cases h1 : (now ++ [x]).length < ds.length
    · rw [if_pos h1] at h; simp [isNonB] at h
    · rw [if_neg h1] at h ⊢
      refine ⟨by simp at h1; omega, ?_⟩
      have so := seen_ok (k := k) (first := first) (last := last) (cs := now ++ [x]) (fun c hc => by
        rcases List.mem_append.mp hc with h | h
        · exact P.G.nc c h
        · have : c = x := by simpa using h
          exact this ▸ P.xo) (by simp; omega)
      rcases so with e | ⟨e, _⟩
      · rw [e] at h; simp [isNonB] at h
      · exact e
end
/-- the looks that ended, each with its sweeps -/
abbrev FL (n : Nat) (L : List (D × Int)) : List D := L.map fun p => .tup [p.1, .int (p.2 * ((n : Nat) : Int))]
abbrev EL (L : List (D × Int)) : List D := L.map (·.1)
abbrev dI (i : Nat) : D := .int ((i : Nat) : Int)
abbrev enumW (w : List Nat) (j : Nat) : List D := ((w.map dI).zipIdx j).map fun p => .tup [.int (p.2 : Nat), p.1]
theorem enumW_cons (i : Nat) (w : List Nat) (j : Nat) : enumW (i :: w) j = .tup [.int (j : Nat), dI i] :: enumW w (j + 1) := by simp [enumW, List.zipIdx_cons]
end Kk22
set_option Elab.async false
set_option linter.all false
set_option maxRecDepth 100000
set_option maxHeartbeats 1000000
namespace Kk22
open PySem L2 FD
def IsW (W : D) (w : List Nat) : Prop := W = .tup (w.map dI) ∨ W = .lst (w.map dI)
section
variable {k : Str} {ds : List D}
theorem Pth.ht {S T : D} {w : List Nat} {Ss : List D} (h : Pth k ds S w Ss T) : Ss = S :: Ss.tail := by cases h <;> rfl
noncomputable abbrev bodyA : FS := (sSeq (sIf (cOr (cNot (cT (cFn 2 f_is_hand (cC (cV 0) (cC (cV 5) cN))))) (cT (cOp isND (cOp ixD (cOp ixD (cV 2) (cD (.int 1))) (cV 5)) (cD .non)))) (sRaise "NoWeaving" "index" (cV 4)) sNx) (sSeq (sAsg (cFn 3 f_standing_behind (cC (cV 0) (cC (cV 2) (cC (cV 5) cN)))) (gN 2)) (sApp 3 (cV 2))))
theorem along_loop {W : En} {S T : D} {w : List Nat} {Ss : List D} (h : Pth k ds S w Ss T) : ∀ (j : Nat) (pre : List D) (x4 x5 : En), pre.length + w.length ≤ 1000 →
    ∃ y4 y5, EX (loopD (gT 2 (gsC (gN 4) (gsC (gN 5) gsN))) bodyA (enumW w j) [.dt (thePlay (.str k) (.tup ds)), W, .dt S, .own pre, x4, x5]) (.nx [.dt (thePlay (.str k) (.tup ds)), W, .dt T, .own (pre ++ Ss.tail), y4, y5]) := by
  induction h with
  | nil => exact fun j pre x4 x5 _ => ⟨x4, x5, by rw [List.tail_cons, List.append_nil]; exact exl_nil⟩
  | @cons S S' T i w Ss s h ih =>
    intro j pre x4 x5 hl
    simp only [List.length_cons] at hl
    obtain ⟨cells, states, tolds, s0, rfl, I, hi, hs0, hn, sb⟩ := s.ex
    obtain ⟨y4, y5, e⟩ := ih (j + 1) (pre ++ [S']) (.dt (.int (j : Nat))) (.dt (dI i)) (by simp; omega)
    refine ⟨y4, y5, ?_⟩
    have e2 : pre ++ [S'] ++ Ss.tail = pre ++ Ss := by
      conv => rhs; rw [h.ht]
      simp
    rw [e2] at e
    rw [enumW_cons]
    refine exl_nx (ρ1 := [.dt (thePlay (.str k) (.tup ds)), W, .dt (stD3 cells states tolds), .own pre, .dt (.int (j : Nat)), .dt (dI i)]) rfl ?_ e
    have c0 : EX (cOr (cNot (cT (cFn 2 f_is_hand (cC (cV 0) (cC (cV 5) cN))))) (cT (cOp isND (cOp ixD (cOp ixD (cV 2) (cD (.int 1))) (cV 5)) (cD .non))) [.dt (thePlay (.str k) (.tup ds)), W, .dt (stD3 cells states tolds), .own pre, .dt (.int (j : Nat)), .dt (dI i)]) false :=
      ext_or0 (ext_not (b := true) (ext (ex_fn (ex_c (ex_v rfl) (ex_c (ex_v rfl) ex_n)) (is_hand_eq I.hk hi)))) (ext (ex_op (ex_op (ex_op (ex_v rfl) ex_d rfl) (ex_v rfl) (ix_nat hs0)) ex_d (by rw [isND_non, hn])))
    refine exs_seq (exs_if0 c0 exs_nx) ?_
    refine exs_seq (exs_asg (ex_fn (ex_c (ex_v rfl) (ex_c (ex_v rfl) (ex_c (ex_v rfl) ex_n))) sb) rfl) ?_
    exact exs_app rfl (by omega) (ex_v rfl)
theorem isT_W {W : D} {w : List Nat} (h : IsW W w) : isTTD "list" "tuple" W = some (.bl true) := by
  rcases h with rfl | rfl <;> simp [isTTD, isTyD, isTyB]
theorem enum_W {W : D} {w : List Nat} (h : IsW W w) : enumD [W] = some (enumW w 0) := by
  rcases h with rfl | rfl <;> rfl
/-- what is drawn of a play: right scripts -/
structure Ply (k : Str) (ds : List D) : Prop where
  hk : k ∈ MAN
  n1 : 1 ≤ ds.length
  n5 : ds.length ≤ 5
  m : Menu ds.length Script ds
theorem Ply.tup {k : Str} {ds : List D} (p : Ply k ds) : ∀ d ∈ ds, ∃ ss, d = .tup ss := fun d hd => by
  obtain ⟨ss, e, _⟩ := script_form (p.m.2 d hd)
  exact ⟨ss, e⟩
theorem mul_repl (d : D) {n : Nat} (h2 : n ≤ 500) : mulD (.lst [d]) (.int (n : Nat)) = some (.lst (List.replicate n d)) := by
  simp only [mulD]
  rw [if_pos ⟨by omega, by omega, by simp; omega⟩, Int.toNat_natCast, flat_rep]
theorem len_W {W : D} {w : List Nat} (h : IsW W w) : lenD [W] = some (.int ((w.length : Nat) : Int)) := by
  rcases h with rfl | rfl <;> simp [lenD]
theorem ix_W {W : D} {w : List Nat} (h : IsW W w) : ∀ (j i : Nat), w[j]? = some i → ixD W (.int ((j : Nat) : Int)) = some (dI i) := fun j i hj => by
  rcases h with rfl | rfl
  · exact ix_nat (by rw [List.getElem?_map, hj]; rfl)
  · exact ixl_nat (by rw [List.getElem?_map, hj]; rfl)
end
end Kk22
set_option Elab.async false
set_option linter.all false
set_option maxRecDepth 100000
set_option maxHeartbeats 1000000
namespace Kk22
open PySem L2 FD
/-! ### the same, through and through -/
theorem ne_bl (b : Bool) : neD (.bl b) (.bl b) = some (.bl false) := by
  unfold neD
  rw [eqB_plain (n := 1) (m := 1) rfl rfl (by decide) (by decide), eqP_refl (n := 1) rfl]; rfl
theorem eq_bl (b : Bool) : eqD (.bl b) (.bl b) = some (.bl true) := by
  rw [eqD_plain (n := 1) (m := 1) rfl rfl (by decide) (by decide), eqP_refl (n := 1) rfl]
/-! ### draws -/
theorem draw_ok {g : Gh} {m : Int} (hg : HOK g) (h0 : 0 < m) (h1 : m < 1073741824) : Sat (f_law_draw [.hnd, .int m] g) fun d g' => ∃ v, d = .int v ∧ 0 ≤ v ∧ v < m ∧ HOK g' := by
  have hm : m ≠ 0 := by omega
  have hm2 : m.natAbs < 1073741824 := by omega
  have big : powD (.int 10) (.int 18) = some (.int 1000000000000000000) := by
    show (if (0:Int) ≤ 18 ∧ (18:Int) ≤ 1000000 ∧ (10:Int).natAbs < 2 ^ 64 then some (D.int ((10:Int) ^ (18:Int).toNat)) else none) = _
    rw [if_pos (by decide)]
    rfl
  have m1 : ∀ a : Int, modD (.int a) (.int m) = some (.int (a.fmod m)) := fun a => modD_int hm
  have m2 : ∀ a : Int, modD (.int a) (.int 2147483647) = some (.int (a.fmod 2147483647)) := fun a => modD_int (by decide)
  have m3 : ∀ a : Int, modD (.int a) (.int 2147483399) = some (.int (a.fmod 2147483399)) := fun a => modD_int (by decide)
  have m4 : ∀ a : Int, modD (.int a) (.int 2147483629) = some (.int (a.fmod 2147483629)) := fun a => modD_int (by decide)
  have d1 : ∀ a : Int, divD (.int a) (.int m) = some (.int (a.fdiv m)) := fun a => divD_int hm hm2
  have d2 : ∀ a : Int, divD (.int a) (.int 1009) = some (.int (a.fdiv 1009)) := fun a => divD_int (by decide) (by decide)
  have d3 : ∀ a : Int, divD (.int a) (.int 2003) = some (.int (a.fdiv 2003)) := fun a => divD_int (by decide) (by decide)
  have d4 : ∀ a : Int, divD (.int a) (.int 16) = some (.int (a.fdiv 16)) := fun a => divD_int (by decide) (by decide)
  have u1 : ∀ a : Int, mulD (.int a) (.int 48271) = some (.int (a * 48271)) := fun a => mulD_int (.inr (by decide))
  have u2 : ∀ a : Int, mulD (.int a) (.int 69621) = some (.int (a * 69621)) := fun a => mulD_int (.inr (by decide))
  have u5 : ∀ a : Int, mulD (.int a) (.int 16) = some (.int (a * 16)) := fun a => mulD_int (.inr (by decide))
  have u3 : ∀ a : Int, mulD (.int 7919) (.int a) = some (.int (7919 * a)) := fun a => mulD_int (.inl (by decide))
  have u4 : ∀ a b : Int, 0 ≤ a → a < 2147483647 → mulD (.int a) (.int b) = some (.int (a * b)) := fun a b h1 h2 => mulD_int (.inl ⟨by omega, by omega⟩)
  obtain ⟨xs, i, c, r, n⟩ := g
  obtain ⟨i0, r0, r1⟩ := hg
  simp only at i0 r0 r1
  have key : Sat (b_law_draw [.dt .hnd, .dt (.int m), .un, .un, .un] ⟨xs, i, c, r, n⟩) fun f g' => ∃ v, f = .rt (.int v) ∧ 0 ≤ v ∧ v < m ∧ HOK g' := by
    unfold b_law_draw
    refine Sat.seq (P := fun f g => (∃ x, f = .nx [.dt .hnd, .dt (.int m), .un, x, .un]) ∧ HOK g) ?_ ?_
    · by_cases hc : c = 0
      · by_cases hi : i < (xs.length : Int)
        · have hx : ∃ z, (xs.map D.int)[i.toNat]? = some (.int z) := by
            have : i.toNat < xs.length := by omega
            exact ⟨xs[i.toNat], by simp [this]⟩
          obtain ⟨z, hz⟩ := hx
          have w := fmod_lt (a := r * 69621 + z + 11) (b := 2147483629) (by decide)
          simp [handD, hc, hi, sSeq, ixD_lst i0, hz, handPut, big, u2, m4]
          by_cases hb : (1000000000000000000 : Int) ≤ z
          · simp [hb]
            exact Sat.ok ⟨⟨_, rfl⟩, by simp only; omega, w.1, by simp only; omega⟩
          · simp [hb]
            exact Sat.ok ⟨⟨_, rfl⟩, by simp only; omega, w.1, by simp only; omega⟩
        · simp [handD, hc, hi]
          exact Sat.ok ⟨⟨_, rfl⟩, i0, r0, r1⟩
      · simp [handD, hc]
        exact Sat.ok ⟨⟨_, rfl⟩, i0, r0, r1⟩
    rintro f ⟨xs', i', c', r', n'⟩ ⟨⟨x, rfl⟩, i0', r0', r1'⟩
    simp only at i0' r0' r1'
    refine .inl ⟨_, rfl, ?_⟩
    by_cases hc : 0 < c'
    · have w := fmod_lt (a := c') h0
      simp [handD, hc, sSeq, m1, d1, handPut]
      exact Sat.ok ⟨_, rfl, w.1, w.2, i0', r0', r1'⟩
    · have w := fmod_lt (a := (r' + 7919 * (n' + 1)) * 48271) (b := 2147483647) (by decide)
      generalize hr : ((r' + 7919 * (n' + 1)) * 48271).fmod 2147483647 = r2 at w
      have w2 := fmod_lt (a := r2 * (r2.fdiv 1009 + 69621)) (b := 2147483647) (by decide)
      have z1 := u4 r2 (r2.fdiv 1009 + 69621) w.1 w.2
      generalize hr2 : (r2 * (r2.fdiv 1009 + 69621)).fmod 2147483647 = r3 at w2
      have z2 := u4 r3 (r3.fdiv 2003 + 40692) w2.1 w2.2
      generalize hr3 : (r3 * (r3.fdiv 2003 + 40692)).fmod 2147483399 = r4
      have w4 := fmod_lt (a := r4.fdiv 16) h0
      simp [handD, hc, sSeq, u1, u3, m2, m3, d2, d3, d4, m1, handPut, hr, z1, hr2, z2, hr3]
      exact Sat.ok ⟨_, rfl, w4.1, w4.2, i0', r0', r1'⟩
  obtain ⟨f, g', e, v, rfl, hv⟩ := key
  refine ⟨.int v, g', ?_, v, rfl, hv⟩
  show noX (fnOf 5 b_law_draw [.hnd, .int m] _) = _
  unfold fnOf
  rw [show ([D.hnd, .int m].map En.dt ++ List.replicate (5 - [D.hnd, .int m].length) En.un) = [.dt .hnd, .dt (.int m), .un, .un, .un] from rfl, e]
  rfl
theorem t_draw {m : Int} (h0 : 0 < m) (h1 : m < 1073741824) : TM (f_law_draw [.hnd, .int m]) (fun d => ∃ v, d = .int v ∧ 0 ≤ v ∧ v < m) := fun g hg => by
  refine (draw_ok hg h0 h1).imp ?_
  rintro d g' ⟨v, e, a, b, c⟩
  exact ⟨⟨v, e, a, b⟩, c⟩
theorem te_draw {ρ : List En} {j : Nat} {e : FE} {m : Int} (he : TM (e ρ) (fun d => d = .int m)) (h0 : 0 < m) (h1 : m < 1073741824) (hj : ρ[j]? = some (.dt .hnd) := by rfl) : TM (cFn 2 f_law_draw (cC (cV j) (cC e cN)) ρ) (fun d => ∃ v, d = .int v ∧ 0 ≤ v ∧ v < m) := by
  refine te_fn (fa_c (P := fun d => d = .hnd) (te_v hj rfl) (fa_c he fa_n)) fun xs h => ?_
  obtain ⟨x, y, rfl, rfl, rfl⟩ := fit2 h
  exact ⟨rfl, t_draw h0 h1⟩
theorem te_drawK {ρ : List En} {j : Nat} {m : Int} (h0 : 0 < m := by decide) (h1 : m < 1073741824 := by decide) (hj : ρ[j]? = some (.dt .hnd) := by rfl) : TM (cFn 2 f_law_draw (cC (cV j) (cC (cD (.int m)) cN)) ρ) (fun d => ∃ v, d = .int v ∧ 0 ≤ v ∧ v < m) := te_draw (te_d rfl) h0 h1 hj
theorem tt_draw0 {ρ : List En} {j : Nat} {m : Int} (h0 : 0 < m := by decide) (h1 : m < 1073741824 := by decide) (hj : ρ[j]? = some (.dt .hnd) := by rfl) : TM (cT (cOp eqD (cFn 2 f_law_draw (cC (cV j) (cC (cD (.int m)) cN))) (cD (.int 0))) ρ) (fun _ => True) := by
  refine tt_t (te_op (te_drawK h0 h1 hj) (te_d (P := fun d => d = .int 0) rfl) ?_) (P := fun d => ∃ b, d = .bl b) ?_
  · rintro x y ⟨v, rfl, _⟩ rfl
    exact ⟨_, eqD_int _ _, _, rfl⟩
  · rintro x ⟨b, rfl⟩
    exact ⟨b, rfl, trivial⟩
end Kk22
set_option Elab.async false
set_option linter.all false
set_option maxRecDepth 100000
set_option maxHeartbeats 1000000
namespace Kk22
open PySem L2 FD
theorem notInD_intsT (z : Int) (ws : List Int) : notInD (.int z) (.tup (ws.map .int)) = some (.bl (!ws.contains z)) := by
  have h1 := flat_ints ws
  have h2 : (ws.map D.int).map toV = ws.map V.int := by simp [toV]
  simp [notInD, inB, flatD, h1, h2, inV_ints, toV]
theorem t_loopBN {gs : FG} {fb : FS} {N : Nat} {I : Nat → List En → Prop} (hmono : ∀ n ρ, I n ρ → I (n + 1) ρ) (h : ∀ d n ρ, n < N → I n ρ → ∃ ρ1, gs d ρ = some ρ1 ∧ TM (fb ρ1) (fun f => ∃ ρ2, (f = .nx ρ2 ∨ f = .bk ρ2) ∧ I (n + 1) ρ2)) : ∀ (ds : List D) (n : Nat) (ρ : List En), n + ds.length ≤ N → I n ρ → TM (loopD gs fb ds ρ) (fun f => ∃ ρ2, f = .nx ρ2 ∧ I (n + ds.length) ρ2)
  | [], n, ρ, _, i => TM.pure ⟨ρ, rfl, i⟩
  | d :: ds, n, ρ, hN, i => fun g hg => by
    simp only [List.length_cons] at hN
    have mono : ∀ m n ρ, I n ρ → I (n + m) ρ := fun m => by
      induction m with
      | zero => exact fun n ρ h => h
      | succ m ih => exact fun n ρ h => hmono _ _ (ih n ρ h)
    obtain ⟨ρ1, h1, hb⟩ := h d n ρ (by omega) i
    obtain ⟨f, g2, e, ⟨ρ2, hf, i2⟩, hg2⟩ := hb g hg
    rw [List.length_cons, show n + (ds.length + 1) = n + 1 + ds.length by omega]
    rcases hf with rfl | rfl
    · obtain ⟨f3, g3, e3, q3, hg3⟩ := t_loopBN hmono h ds (n + 1) ρ2 (by omega) i2 g2 hg2
      refine ⟨f3, g3, ?_, q3, hg3⟩
      unfold loopD
      rw [h1]
      simp only [e]
      exact e3
    · refine ⟨.nx ρ2, g2, ?_, ⟨ρ2, rfl, mono _ _ _ i2⟩, hg2⟩
      unfold loopD
      rw [h1]
      simp only [e]
theorem ts_brk {ρ : List En} {c : FT} {b : FS} {k : Bool} {Q : Fl → Prop} (hc : EX (c ρ) k) (h1 : k = true → Q (.bk ρ)) (h2 : k = false → TM (b ρ) Q) : TM (sSeq (sIf c sBk sNx) b ρ) Q := by
  cases k with
  | true =>
    intro g hg
    refine ⟨.bk ρ, g, ?_, h1 rfl, hg⟩
    have e : sIf c sBk sNx ρ g = some (.ok (.bk ρ) g) := by
      show (c ρ g).bd _ = _
      rw [hc g]; rfl
    unfold sSeq
    rw [e]
  | false => exact ts_ex (exs_if0 hc exs_nx) (h2 rfl)
theorem pth_inv {k : Str} {ds : List D} {S T : D} {w : List Nat} {Ss : List D} (h : Pth k ds S w Ss T) : (∃ cells states tolds, S = stD3 cells states tolds ∧ Inv k ds cells states tolds) → ∃ cells states tolds, T = stD3 cells states tolds ∧ Inv k ds cells states tolds := by
  induction h with
  | nil => exact id
  | cons s _ ih => exact fun _ => ih s.inv
theorem first_stands {k : Str} {ds : List D} (p : Ply k ds) : ∃ cells states tolds, firstD ds = stD3 cells states tolds ∧ Inv k ds cells states tolds := ⟨_, _, _, rfl, first_inv p.hk p.m p.n1 p.n5⟩
section
variable {k : Str} {ds : List D}
end
end Kk22
set_option Elab.async false
set_option linter.all false
set_option maxRecDepth 100000
set_option maxHeartbeats 1000000
namespace Kk22
open PySem L2 FD
def absI (i : Int) : Int := if i < 0 then -i else i
def g0 (ns : List Int) : Gh := ⟨ns.map absI, 0, 0, 1 + (ns.length : Nat), 0⟩
theorem cut_all {xs : List D} (h : xs.length ≤ 63) : cutD xs none (some 63) = xs := by
  refine cutD_whole ⟨rfl, ?_⟩
  have := HT.sIx_nat xs.length xs.length 63
  rw [show ((63 : Nat) : Int) = 63 from rfl] at this
  rw [this]
  omega
theorem cut_take {xs : List D} {j : Nat} (h : j ≤ xs.length) : cutD xs none (some ((j : Nat) : Int)) = xs.take j := by
  unfold cutD
  rw [HT.sIx_nat]
  have : HT.sIx xs.length 0 none = 0 := rfl
  rw [this, List.drop_zero, Nat.sub_zero, Nat.min_eq_left h]
section
variable {k : Str} {ds : List D}
end
end Kk22
set_option Elab.async false
set_option linter.all false
set_option maxRecDepth 100000
set_option maxHeartbeats 1000000
namespace Kk22
open PySem L2 FD
/-! ### the same, through and through -/
theorem is_tup {n : Nat} {xs : List D} (hl : xs.length ≤ 1000) (h : ∀ x ∈ xs, EX (f_law_is_at n [x, x]) (.bl true)) : EX (f_law_is_at (n + 1) [.tup xs, .tup xs]) (.bl true) := by
  have t1 : isTTD "tuple" "list" (.tup xs) = some (.bl true) := by simp [isTTD, isTyD, isTyB]
  have t2 : isTyD "tuple" (.tup xs) = some (.bl true) := by simp [isTyD, isTyB]
  refine exf (N := 4) ?_
  refine exs_rt (exs_if1 (ext (ex_1 (ex_v rfl) t1)) (exs_seq (exs_if0 (ext_or0 (ext (ex_op (ex_1 (ex_v rfl) t2) (ex_1 (ex_v rfl) t2) (ne_bl true))) (ext_not (b := true) (ext (ex_1 (ex_v rfl) t1)))) exs_nx) (exs_ret (ex_and1 (ex_op (ex_call (ex_c (ex_v rfl) ex_n) rfl) (ex_call (ex_c (ex_v rfl) ex_n) rfl) (by rw [eqD_int]; simp)) ?_))))
  refine ex_call (ex_c (ex_lc (ds := xs.map fun x => D.tup [x, x]) (exi_z (ex_c (ex_v rfl) (ex_c (ex_v rfl) ex_n)) (by rw [← zip_self]; rfl)) (exc_map (F := fun _ => .bl true) fun d hd => ?_) (by simp; omega)) ex_n) ?_
  · obtain ⟨x, hx, rfl⟩ := List.mem_map.mp hd
    exact ⟨_, rfl, ex_fn (ex_c (ex_v rfl) (ex_c (ex_v rfl) ex_n)) (h x hx)⟩
  · rw [List.map_map]
    have := allD_map (fun _ : D => true) xs
    rw [show (xs.map ((fun _ => D.bl true) ∘ fun x => D.tup [x, x])) = xs.map fun _ => D.bl true from rfl, this]
    simp
theorem is_leaf {n : Nat} {d : D} (h1 : plain 1 d = true) (h2 : isTTD "tuple" "list" d = some (.bl false)) (h3 : ∃ b, isTyD "bool" d = some (.bl b)) : EX (f_law_is_at (n + 1) [d, d]) (.bl true) := by
  obtain ⟨b, h3⟩ := h3
  refine exf (N := 4) (exs_seq (exs_if0 (ext (ex_1 (ex_v rfl) h2)) exs_nx) (exs_ret (ex_and1 (ex_op (ex_1 (ex_v rfl) h3) (ex_1 (ex_v rfl) h3) (eq_bl b)) (ex_op (ex_v rfl) (ex_v rfl) ?_))))
  rw [eqD_plain h1 h1 (by decide) (by decide), eqP_refl h1]
theorem is_refl {n : Nat} : ∀ {d : D}, plain n d = true → EX (f_law_is_at n [d, d]) (.bl true) := by
  induction n with
  | zero => intro d h; simp [plain] at h
  | succ n ih =>
    intro d h
    cases d with
    | tup xs =>
      obtain ⟨hl, hm⟩ := plain_tup.mp h
      exact is_tup (by omega) fun x hx => ih (hm x hx)
    | non => exact is_leaf rfl (by simp [isTTD, isTyD, isTyB]) ⟨_, rfl⟩
    | bl b => exact is_leaf rfl (by simp [isTTD, isTyD, isTyB]) ⟨_, rfl⟩
    | int i => exact is_leaf rfl (by simp [isTTD, isTyD, isTyB]) ⟨_, rfl⟩
    | str z => exact is_leaf h (by simp [isTTD, isTyD, isTyB]) ⟨_, rfl⟩
    | _ => simp [plain] at h
theorem law_is_top {xs : List D} (hl : xs.length ≤ 1000) (h : ∀ x ∈ xs, plain 5 x = true) : EX (f_law_is [.tup xs, .tup xs]) (.bl true) := by
  have e : f_law_is = f_law_is_at (44 + 1) := rfl
  rw [e]
  exact is_tup hl fun x hx => is_refl (n := 44) (by have := plain_le 39 (h x hx); exact this)
/-! ### draws -/
end Kk22
set_option Elab.async false
set_option linter.all false
set_option maxRecDepth 100000
set_option maxHeartbeats 1000000
namespace Kk22
open PySem L2 FD
theorem Pth.last {k : Str} {ds : List D} {S T : D} {w : List Nat} {Ss : List D} (h : Pth k ds S w Ss T) : ∃ pre, Ss = pre ++ [T] := by
  induction h with
  | nil => exact ⟨[], rfl⟩
  | cons _ _ ih => obtain ⟨pre, rfl⟩ := ih; exact ⟨_ :: pre, rfl⟩
theorem ix_lastL {ts : List D} {d : D} : ixD (.lst (ts ++ [d])) (.int (-1)) = some d := by
  show atI (ts ++ [d]) (-1) = some d
  have e : ixN (ts.length + 1) (-1) = some ts.length := by
    unfold ixN
    simp
    try omega
  simp [atI, e]
section
variable {k : Str} {ds : List D}
theorem pth_all {S T : D} {w : List Nat} {Ss : List D} (h : Pth k ds S w Ss T) : (∃ cells states tolds, S = stD3 cells states tolds ∧ Inv k ds cells states tolds) → ∀ U ∈ Ss, ∃ cells states tolds, U = stD3 cells states tolds ∧ Inv k ds cells states tolds := by
  induction h with
  | nil => intro h0 U hU; rw [List.mem_singleton.mp hU]; exact h0
  | cons s _ ih =>
    intro h0 U hU
    rcases List.mem_cons.mp hU with rfl | hU
    · exact h0
    · exact ih s.inv U hU
/-! ### moments -/
theorem shown_eq {cs : List D} (h : ∀ c ∈ cs, CellS c) (hl : cs.length ≤ 500) : EX (f_shown [.tup cs]) (.tup (cs.map pairD)) :=
  exf (N := 2) (exs_ret (pic_lc h hl rfl fun d => rfl))
abbrev pairsD (ps : List (Int × Int)) : List D := ps.map fun q => .tup [.int q.1, .int q.2]
theorem pairs_of : ∀ {cs : List D}, (∀ c ∈ cs, CellS c) → ∃ ps, cs.map pairD = pairsD ps
  | [], _ => ⟨[], rfl⟩
  | c :: cs, h => by
    obtain ⟨a, v, r, rfl⟩ := h c (by simp)
    obtain ⟨ps, e⟩ := pairs_of (cs := cs) fun c hc => h c (by simp [hc])
    exact ⟨(a, v) :: ps, by rw [List.map_cons, e]; rfl⟩
theorem pys_pairs : ∀ ps : List (Int × Int), D.pys (pairsD ps) = some (ps.map fun q => .tuple [.int q.1, .int q.2])
  | [] => rfl
  | q :: ps => by
    have ih := pys_pairs ps
    simp only [pairsD, List.map_cons] at ih ⊢
    simp [D.pys, D.py, ih]
theorem eqv_pairs : ∀ ps qs : List (Int × Int), PyData.eqvAll (ps.map fun q => PyData.tuple [.int q.1, .int q.2]) (qs.map fun q => PyData.tuple [.int q.1, .int q.2]) = true → ps = qs
  | [], [], _ => rfl
  | [], _ :: _, h => by simp [PyData.eqvAll] at h
  | _ :: _, [], h => by simp [PyData.eqvAll] at h
  | (a, v) :: ps, (b, u) :: qs, h => by
    simp only [List.map_cons, PyData.eqvAll, PyData.eqv, Bool.and_eq_true, beq_iff_eq, and_true] at h
    obtain ⟨⟨h1, h2⟩, h3⟩ := h
    have e := eqv_pairs ps qs h3
    simp_all
theorem pair_eq {xs ys : List D} (hx : ∀ c ∈ xs, CellS c) (hy : ∀ c ∈ ys, CellS c) (h : eqP (.tup (xs.map pairD)) (.tup (ys.map pairD)) = true) : xs.map pairD = ys.map pairD := by
  obtain ⟨ps, e1⟩ := pairs_of hx
  obtain ⟨qs, e2⟩ := pairs_of hy
  rw [e1, e2] at h ⊢
  have h' : PyData.eqvAll (ps.map fun q => PyData.tuple [.int q.1, .int q.2]) (qs.map fun q => PyData.tuple [.int q.1, .int q.2]) = true := by
    simpa [eqP, D.py, pys_pairs, PyData.eqv] using h
  rw [eqv_pairs ps qs h']
abbrev shD (cs : Nat → List D) (m : Nat) : D := .tup ((cs m).map pairD)
def pmB (cs : Nat → List D) (pic : D) : D → Bool
  | .int t => eqP (shD cs t.toNat) pic
  | _ => false
def founds (cs : Nat → List D) : D → List D
  | .tup [_, _, .int b, .int e, pic] => (rngD b (e + 1 - b).toNat).filter (pmB cs pic)
  | _ => []
theorem rng2_nat {b e : Nat} (h : b ≤ 100000) (h2 : e ≤ 100000) : rng2 [.int (b : Nat), .int ((e : Nat) : Int)] = some (rngD (b : Nat) (((e : Nat) : Int) - (b : Nat)).toNat) := by
  have hk : ck (-(2 ^ 62) ≤ ((b : Nat) : Int) ∧ ((b : Nat) : Int) < 2 ^ 62 ∧ -(2 ^ 62) ≤ ((e : Nat) : Int) ∧ ((e : Nat) : Int) < 2 ^ 62) = true := ck_of ⟨by rw [p62]; omega, by rw [p62]; omega, by rw [p62]; omega, by rw [p62]; omega⟩
  unfold rng2
  exact if_pos hk
theorem least_eq {found rest : List D} {d : D} (h : found = d :: rest) : EX (f_least_of [.lst found]) d := by
  subst h
  refine exf (N := 1) (exs_rt (exs_if1 ?_ (exs_ret (ex_op (ex_v rfl) ex_d ((ixD_lst (by omega)).trans rfl)))))
  exact EX.bd (ex_v rfl) fun g => rfl
def shS : D → D
  | .tup [.tup cells, _, _] => .tup (cells.map pairD)
  | _ => .non
end
end Kk22
set_option Elab.async false
set_option linter.all false
set_option maxRecDepth 100000
set_option maxHeartbeats 2000000
namespace Kk22
open PySem L2 FD
/-! # the family's own hand and its equality -/
theorem law_hand_eq (ns : List Int) (g : Gh) (h : ns.length ≤ 63) : f_law_hand [.scr ns] g = some (.ok (.lst [.lst ((g0 ns).xs.map .int), .int (g0 ns).i, .int (g0 ns).c, .int (g0 ns).r, .int (g0 ns).n]) g) := by
  have hc : slD (.scr ns) none (some 63) = some (.lst (ns.map .int)) := by
    show some (D.lst (cutD (ns.map .int) none (some 63))) = _
    rw [cut_all (by simpa using h)]
  let F : D → D := fun d => match d with
    | .int i => .int (absI i)
    | _ => .non
  have fm : (ns.map D.int).map F = (ns.map absI).map .int := by rw [List.map_map, List.map_map]; rfl
  have e : EX (f_law_hand [.scr ns]) (.lst [.lst ((ns.map absI).map .int), .int 0, .int 0, .int (1 + (ns.length : Nat)), .int 0]) := by
    refine exf (N := 3) (exs_seq (ρ1 := [.dt (.scr ns), .dt (.lst ((ns.map absI).map .int)), .un]) (exs_asg ?_ rfl) (exs_ret (ex_lst (ex_c (ex_v rfl) (ex_c ex_d (ex_c ex_d (ex_c (ex_op ex_d (ex_call (z := .int ((ns.length : Nat) : Int)) (ex_c (ex_v rfl) ex_n) (by simp [lenD])) rfl) (ex_c ex_d ex_n))))))))
    rw [← fm]
    refine ex_lc (exi_s (ex_sl (ex_v rfl) exo_n (exo_s ex_d) hc) rfl) (exc_map (F := F) fun d hd => ?_) (by simp; omega)
    obtain ⟨i, _, rfl⟩ := List.mem_map.mp hd
    exact ⟨_, rfl, ex_call (ex_c (ex_call (ex_c (ex_v rfl) ex_n) rfl) ex_n) rfl⟩
  exact e g
end Kk22
set_option Elab.async false
set_option linter.all false
set_option maxRecDepth 100000
set_option maxHeartbeats 2000000
namespace Kk22
open PySem L2 FD
/-! # the law's own step, of sweeps -/
abbrev SW : Str := "sweep"
theorem SWm : SW ∈ MAN := by simp
theorem sSwe : okStr SW = true := okS (by decide +kernel)
theorem exfX {N : Nat} {b : FS} {ds : List D} {d : D} (h : EX (b (ds.map .dt ++ List.replicate (N - ds.length) .un)) (.rt d)) : EX (fun g => fnOf N b ds g) d := fun g => by
  show fnOf N b ds g = _
  unfold fnOf
  rw [h g]
theorem ex_fnX {ρ : List En} {n : Nat} {Fn : List D → Gh → M D} {a : FA} {xs : List D} {z : D} (ha : EX (a ρ) xs) (h : EX (Fn xs) z) (hn : xs.length = n := by rfl) : EX (cFnX n Fn a ρ) z := EX.bd ha fun g => by
  simp only [hn, if_true]
  exact h g
theorem putsSW (o : Option Int) (r : D) : putsB SW o r = o.isSome := by
  unfold putsB
  have : (SW == ("borrow" : Str)) = false := by decide +kernel
  rw [this]; simp
theorem seenSW (f l : D) (cs : List D) : seenD SW f l cs = .tup (cs.map pairD) := by unfold seenD; rw [if_pos (.inl rfl)]
theorem law_fresh_eq (ss : List D) (d : Int) : EX (f_law_fresh [.tup ss, .int d]) (aheadD ss d) := by
  have c0 : EX (cT (cOp eqD (cV 1) (cCall lenD (cC (cV 0) cN))) [.dt (.tup ss), .dt (.int d)]) (d == (ss.length : Int)) := ext (ex_op (ex_v rfl) (ex_call (z := .int ((ss.length : Nat) : Int)) (ex_c (ex_v rfl) ex_n) rfl) (eqD_int _ _))
  refine exf (N := 2) (exs_ret ?_)
  unfold aheadD
  by_cases h : d = (ss.length : Int)
  · rw [if_pos h]
    rw [show (d == (ss.length : Int)) = true from by simpa using h] at c0
    exact ex_ifE1 c0 ex_d
  · rw [if_neg h]
    rw [show (d == (ss.length : Int)) = false from by simpa using h] at c0
    exact ex_ifE0 c0 (ex_tup (ex_c (ex_v rfl) (ex_c ex_d (ex_c ex_d (ex_c (ex_tup ex_n) (ex_c ex_d ex_n))))))
/-- what the law's step tells -/
noncomputable def lawM (ss : List D) (done : Nat) (o : Option Int) (now : List D) (cell x : D) (n : Nat) : D × D × D :=
  if o.isSome = true then (.tup [.int (numI cell + 1), .int (wOf o), .non], aheadD ss ((done : Int) + 1), .non)
  else if (now ++ [x]).length < n then (.non, stD done .non .non (now ++ [x]) .non, .non)
  else (.non, aheadD ss ((done : Int) + 1), .tup ((now ++ [x]).map pairD))
theorem cut2d {c : D} (h : CellS c) : slD c none (some 2) = some (pairD c) := by
  obtain ⟨k, v, r, rfl⟩ := h
  rfl
theorem cut_lc {cs : List D} (h : ∀ c ∈ cs, CellS c) (hl : cs.length ≤ 500) {ρ : List En} {a : FE} {vs : List Nat} {j : Nat} (hi : EX (a ρ) (.tup cs)) (hj : ∀ d, ((blkE ρ vs).set j (.dt d))[j]? = some (.dt d)) :
    EX (cCall tupleD (cC (cLc (iS a) vs (gN j) tY (cSl (cV j) oN (oS (cD (.int 2))))) cN) ρ) (.tup (cs.map pairD)) :=
  ex_call (ex_c (ex_lc (exi_s hi rfl) (exc_map (F := pairD) fun c hc => ⟨_, rfl, ex_sl (ex_v (hj c)) exo_n (exo_s ex_d) (cut2d (h c hc))⟩) (by rw [List.length_map]; omega)) ex_n) rfl
theorem nums_lc {cs : List D} (h : ∀ c ∈ cs, CellS c) (hl : cs.length ≤ 500) {ρ : List En} {a : FE} {vs : List Nat} {j : Nat} (hi : EX (a ρ) (.tup cs)) (hj : ∀ d, ((blkE ρ vs).set j (.dt d))[j]? = some (.dt d)) :
    EX (cCall tupleD (cC (cLc (iS a) vs (gN j) tY (cOp ixD (cV j) (cD (.int 0)))) cN) ρ) (.tup (cs.map numD)) :=
  ex_call (ex_c (ex_lc (exi_s hi rfl) (exc_map (F := numD) fun c hc => ⟨_, rfl, ex_op (ex_v (hj c)) ex_d (by obtain ⟨k, v, r, rfl⟩ := h c hc; rfl)⟩) (by rw [List.length_map]; omega)) ex_n) rfl
section
variable {ds ss cells states tolds : List D} {i done : Nat} {o : Option Int} {now : List D} {x cell : D} {ts : List D}
theorem law_manner_eq (S : Sta SW ds i ss done o cells states tolds .non .non now .non x cell ts) :
    EX (f_law_manner [.str SW, .tup ss, .tup cells, stD done .non .non now .non, .int i]) (.tup [(lawM ss done o now cell x cells.length).1, (lawM ss done o now cell x cells.length).2.1, (lawM ss done o now cell x cells.length).2.2]) := by
  obtain ⟨w, w1, w2, w3⟩ := deed0 o
  have ep := eqD_str w2 sPut
  rw [w3] at ep
  have es := eqD_str w2 sSee
  have hd := S.A.hd
  obtain ⟨c0, v0, r0, hcell⟩ := S.cs
  have hn1 := S.n1
  have hlt : now.length < cells.length := (List.getElem?_eq_some_iff.mp S.hx).1
  refine exf (N := 14) ?_
  refine exs_seq (ρ1 := [.dt (.str SW), .dt (.tup ss), .dt (.tup cells), .dt (stD done .non .non now .non), .dt (.int i), .dt (.tup now), .un, .un, .dt (.int (done : Nat)), .dt .non, .dt .non, .dt .non, .un, .un]) (exs_asg (ex_v rfl) rfl) ?_
  have c1 : EX (cAnd (cT (cOp eqD (cOp ixD (cOp ixD (cV 1) (cV 8)) (cD (.int 0))) (cD (.str "put")))) (cOr (cT (cOp neD (cV 0) (cD (.str "borrow")))) (cT (cOp notND (cV 11) (cD .non)))) [.dt (.str SW), .dt (.tup ss), .dt (.tup cells), .dt (stD done .non .non now .non), .dt (.int i), .dt (.tup now), .un, .un, .dt (.int (done : Nat)), .dt .non, .dt .non, .dt .non, .un, .un]) o.isSome := by
    have c11 : EX (cT (cOp eqD (cOp ixD (cOp ixD (cV 1) (cV 8)) (cD (.int 0))) (cD (.str "put"))) [.dt (.str SW), .dt (.tup ss), .dt (.tup cells), .dt (stD done .non .non now .non), .dt (.int i), .dt (.tup now), .un, .un, .dt (.int (done : Nat)), .dt .non, .dt .non, .dt .non, .un, .un]) o.isSome := ext (ex_op (ex_op (ex_op (ex_v rfl) (ex_v rfl) (ix_nat hd)) ex_d w1) ex_d ep)
    cases ho : o.isSome with
    | false => rw [ho] at c11; exact ext_and0 c11
    | true =>
      rw [ho] at c11
      refine ext_and1 c11 (ext_or1 (ext (ex_op (ex_v rfl) ex_d ?_)))
      unfold neD
      rw [eqB_plain (n := 1) (m := 1) (by decide +kernel) (by decide +kernel) (by decide) (by decide)]
      have : eqP (.str SW) (.str "borrow") = false := by decide +kernel
      rw [this]; rfl
  unfold lawM
  cases ho : o.isSome with
  | true =>
    rw [ho] at c1
    rw [if_pos rfl]
    obtain ⟨w', rfl⟩ := Option.isSome_iff_exists.mp ho
    refine exs_rt (exs_if1 c1 (exs_ret (ex_tup (ex_c (ex_tup (ex_c (ex_op (ex_op (ex_op (ex_v rfl) (ex_v rfl) (ix_nat S.cell_)) ex_d (by rw [hcell]; rfl)) ex_d (by rw [hcell]; rfl)) (ex_c (ex_op (ex_op (ex_v rfl) (ex_v rfl) (ix_nat hd)) ex_d rfl) (ex_c (ex_v rfl) ex_n)))) (ex_c (ex_fn (ex_c (ex_v rfl) (ex_c (ex_op (ex_v rfl) ex_d rfl) ex_n)) (law_fresh_eq _ _)) (ex_c ex_d ex_n))))))
  | false =>
    rw [ho] at c1
    rw [if_neg (by decide)]
    refine exs_seq (exs_if0 c1 exs_nx) ?_
    refine exs_seq (ρ1 := [.dt (.str SW), .dt (.tup ss), .dt (.tup cells), .dt (stD done .non .non now .non), .dt (.int i), .dt (.tup (now ++ [x])), .un, .un, .dt (.int (done : Nat)), .dt .non, .dt .non, .dt .non, .un, .un]) (exs_asg (x := .tup (now ++ [x])) (ex_op (ex_v rfl) (ex_tup (ex_c (ex_op (ex_v rfl) (ex_call (ex_c (ex_v rfl) ex_n) rfl) (ix_nat S.hx)) ex_n)) (add_tt (by simp; omega))) rfl) ?_
    have cL : EX (cT (cOp ltD (cCall lenD (cC (cV 5) cN)) (cCall lenD (cC (cV 2) cN))) [.dt (.str SW), .dt (.tup ss), .dt (.tup cells), .dt (stD done .non .non now .non), .dt (.int i), .dt (.tup (now ++ [x])), .un, .un, .dt (.int (done : Nat)), .dt .non, .dt .non, .dt .non, .un, .un]) (decide ((now ++ [x]).length < cells.length)) := by
      refine ext (ex_op (ex_call (ex_c (ex_v rfl) ex_n) rfl) (ex_call (ex_c (ex_v rfl) ex_n) rfl) ?_)
      rw [ltD_int]
      congr 2
      rw [decide_eq_decide]
      omega
    by_cases h1 : (now ++ [x]).length < cells.length
    · rw [if_pos h1]
      rw [decide_eq_true h1] at cL
      exact exs_rt (exs_if1 cL (exs_ret (ex_tup (ex_c ex_d (ex_c (ex_tup (ex_c (ex_v rfl) (ex_c (ex_v rfl) (ex_c (ex_v rfl) (ex_c (ex_v rfl) (ex_c (ex_v rfl) ex_n)))))) (ex_c ex_d ex_n))))))
    · rw [if_neg h1]
      rw [decide_eq_false h1] at cL
      have len2 : (now ++ [x]).length = cells.length := by simp at h1 ⊢; omega
      refine exs_seq (exs_if0 cL exs_nx) ?_
      refine exs_seq (exs_asg (nums_lc (a := cV 5) (vs := [12]) (j := 12) S.hc (by omega) (ex_v rfl) fun d => rfl) rfl) ?_
      refine exs_seq (exs_asg ex_d rfl) ?_
      refine exs_seq (exs_if1 (ext_or1 (ext (ex_op (ex_v rfl) ex_d (eqD_str sSwe sSwe)))) (exs_asg (cut_lc (a := cV 5) (vs := [12]) (j := 12) S.hc (by omega) (ex_v rfl) fun d => rfl) rfl)) ?_
      refine exs_seq (exs_if0 (ext (ex_op (ex_v rfl) ex_d (isND_non _))) exs_nx) ?_
      have hs : (w == ("see" : Str)) = true := by
        cases o with
        | some w' => cases ho
        | none =>
          have : some (D.str w) = some (D.str "see") := w1.symm.trans rfl
          cases this
          decide +kernel
      rw [hs] at es
      exact exs_rt (exs_if1 (ext (ex_op (ex_op (ex_op (ex_v rfl) (ex_v rfl) (ix_nat hd)) ex_d w1) ex_d es)) (exs_ret (ex_tup (ex_c ex_d (ex_c (ex_fn (ex_c (ex_v rfl) (ex_c (ex_op (ex_v rfl) ex_d rfl) ex_n)) (law_fresh_eq _ _)) (ex_c (ex_v rfl) ex_n))))))
/-- the state of a hand of sweeps -/
def SwSt (s : D) : Prop := s = .non ∨ ∃ (done : Nat) (now : List D), s = stD done .non .non now .non
def SwI (states : List D) : Prop := ∀ (m : Nat) (s : D), states[m]? = some s → SwSt s
theorem aheadSW (ss : List D) (d : Nat) : SwSt (aheadD ss ((d : Int) + 1)) := by
  unfold aheadD
  by_cases z : (d : Int) + 1 = (ss.length : Int)
  · rw [if_pos z]; exact .inl rfl
  · rw [if_neg z]
    refine .inr ⟨d + 1, [], ?_⟩
    unfold fresh stD
    rw [show (((d + 1 : Nat)) : Int) = (d : Int) + 1 by omega]
/-- behind a step: as the law's own tells -/
theorem nextSW (ss : List D) (done : Nat) (o : Option Int) (now : List D) (cell x : D) (n : Nat) :
    (nextD SW ss done o .non .non now .non cell x n).1 = (if isNonB (lawM ss done o now cell x n).1 = true then cell else (lawM ss done o now cell x n).1) ∧
    (nextD SW ss done o .non .non now .non cell x n).2.1 = (lawM ss done o now cell x n).2.1 ∧
    (nextD SW ss done o .non .non now .non cell x n).2.2 = (if isNonB (lawM ss done o now cell x n).2.2 = true then [] else [(lawM ss done o now cell x n).2.2]) ∧
    SwSt (lawM ss done o now cell x n).2.1 := by
  unfold nextD lookD lawM
  rw [putsSW, seenSW]
  cases ho : o.isSome with
  | true => exact ⟨rfl, rfl, rfl, aheadSW _ _⟩
  | false =>
    simp only [Bool.false_eq_true, if_false]
    by_cases h1 : (now ++ [x]).length < n
    · rw [if_pos h1, if_pos h1]
      exact ⟨rfl, rfl, rfl, .inr ⟨_, _, rfl⟩⟩
    · rw [if_neg h1, if_neg h1]
      exact ⟨rfl, rfl, rfl, aheadSW _ _⟩
theorem put_ex {ρ : List En} {a b : FE} {ax : FE} {xs : List D} {i : Nat} {d : D} (h : i < xs.length) (hl : xs.length ≤ 400) (ha : EX (a ρ) (.tup xs)) (hb : EX (b ρ) (.int (i : Nat))) (hx : EX (ax ρ) d) :
    EX (cOp addD (cOp addD (cSl a oN (oS b)) (cTup (cC ax cN))) (cSl a (oS (cOp addD b (cD (.int 1)))) oN) ρ) (.tup (xs.set i d)) := by
  have e := put_at_cut (d := d) h
  have l1 : (cutD xs none (some (i : Int))).length ≤ xs.length := by unfold cutD; simp; omega
  have l2 : (cutD xs (some ((i : Int) + 1)) none).length ≤ xs.length := by unfold cutD; simp; omega
  rw [← e]
  refine ex_op (ex_op (ex_sl ha exo_n (exo_s hb) rfl) (ex_tup (ex_c hx ex_n)) (if_pos ?_)) (ex_sl ha (exo_s (ex_op hb ex_d rfl)) exo_n rfl) (if_pos ?_)
  · simp; omega
  · simp; omega
theorem law_behind_eq (S : Sta SW ds i ss done o cells states tolds .non .non now .non x cell ts) :
    EX (f_law_behind [thePlay (.str SW) (.tup ds), stD3 cells states tolds, .int (i : Nat)]) (newS SW ss i done o cells states tolds .non .non now .non x cell ts) := by
  have hi : i < cells.length := (List.getElem?_eq_some_iff.mp S.cell_).1
  have n1 := S.n1
  have n2 := S.n2
  have n3 := S.n3
  have n5 := S.n5
  have hm := law_manner_eq S
  obtain ⟨x1, x2, x3, _⟩ := nextSW ss done o now cell x cells.length
  unfold newS
  rw [x1, x2, x3]
  generalize lawM ss done o now cell x cells.length = N at hm ⊢
  obtain ⟨c', s', t'⟩ := N
  simp only at hm ⊢
  refine exf (N := 11) ?_
  refine exs_seq (ρ1 := [.dt (thePlay (.str SW) (.tup ds)), .dt (stD3 cells states tolds), .dt (.int (i : Nat)), .dt (.tup cells), .dt (.tup states), .dt (.tup tolds), .un, .un, .un, .un, .un]) (exs_asg (ex_v rfl) rfl) ?_
  refine exs_seq (ρ1 := [.dt (thePlay (.str SW) (.tup ds)), .dt (stD3 cells states tolds), .dt (.int (i : Nat)), .dt (.tup cells), .dt (.tup states), .dt (.tup tolds), .dt (stD done .non .non now .non), .dt (.str SW), .un, .un, .un]) (exs_par (ex_c (ex_op (ex_v rfl) (ex_v rfl) (ix_nat S.st)) (ex_c (ex_1 (ex_v rfl) (fld_kind _ _)) ex_n))) ?_
  refine exs_seq (ρ1 := [.dt (thePlay (.str SW) (.tup ds)), .dt (stD3 cells states tolds), .dt (.int (i : Nat)), .dt (.tup cells), .dt (.tup states), .dt (.tup tolds), .dt (stD done .non .non now .non), .dt (.str SW), .dt c', .dt s', .dt t']) (exs_if1 (ext (ex_op (ex_v rfl) (ex_tup (ex_c ex_d (ex_c ex_d (ex_c ex_d ex_n)))) ?_)) (exs_asg (ex_fn (ex_c (ex_v rfl) (ex_c (ex_op (ex_1 (ex_v rfl) (fld_inputs _ _)) (ex_v rfl) (ix_nat S.A.hi)) (ex_c (ex_v rfl) (ex_c (ex_v rfl) (ex_c (ex_v rfl) ex_n))))) hm) rfl)) ?_
  · exact inMANN SWm
  -- the cell
  have cC1 : ∀ (ρ : List En), ρ[8]? = some (.dt c') → EX (cT (cOp notND (cV 8) (cD .non)) ρ) (!isNonB c') := fun ρ h => ext (ex_op (ex_v h) ex_d (notND_non _))
  have cT1 : ∀ (ρ : List En), ρ[10]? = some (.dt t') → EX (cT (cOp notND (cV 10) (cD .non)) ρ) (!isNonB t') := fun ρ h => ext (ex_op (ex_v h) ex_d (notND_non _))
  have e1 : EX (sIf (cT (cOp notND (cV 8) (cD .non))) (sAsg (cOp addD (cOp addD (cSl (cV 3) oN (oS (cV 2))) (cTup (cC (cV 8) cN))) (cSl (cV 3) (oS (cOp addD (cV 2) (cD (.int 1)))) oN)) (gN 3)) sNx [.dt (thePlay (.str SW) (.tup ds)), .dt (stD3 cells states tolds), .dt (.int (i : Nat)), .dt (.tup cells), .dt (.tup states), .dt (.tup tolds), .dt (stD done .non .non now .non), .dt (.str SW), .dt c', .dt s', .dt t'])
      (.nx [.dt (thePlay (.str SW) (.tup ds)), .dt (stD3 cells states tolds), .dt (.int (i : Nat)), .dt (.tup (cells.set i (if isNonB c' = true then cell else c'))), .dt (.tup states), .dt (.tup tolds), .dt (stD done .non .non now .non), .dt (.str SW), .dt c', .dt s', .dt t']) := by
    have q := cC1 [.dt (thePlay (.str SW) (.tup ds)), .dt (stD3 cells states tolds), .dt (.int (i : Nat)), .dt (.tup cells), .dt (.tup states), .dt (.tup tolds), .dt (stD done .non .non now .non), .dt (.str SW), .dt c', .dt s', .dt t'] rfl
    cases hb : isNonB c' with
    | true =>
      rw [hb] at q
      rw [if_pos rfl, set_same S.cell_]
      exact exs_if0 q exs_nx
    | false =>
      rw [hb] at q
      rw [if_neg (by decide)]
      exact exs_if1 q (exs_asg (put_ex hi (by omega) (ex_v rfl) (ex_v rfl) (ex_v rfl)) rfl)
  refine exs_seq e1 ?_
  generalize cells.set i (if isNonB c' = true then cell else c') = cells'
  have e2 : EX (sIf (cT (cOp notND (cV 10) (cD .non))) (sAsg (cOp addD (cOp addD (cSl (cV 5) oN (oS (cV 2))) (cTup (cC (cOp addD (cOp ixD (cV 5) (cV 2)) (cTup (cC (cV 10) cN))) cN))) (cSl (cV 5) (oS (cOp addD (cV 2) (cD (.int 1)))) oN)) (gN 5)) sNx [.dt (thePlay (.str SW) (.tup ds)), .dt (stD3 cells states tolds), .dt (.int (i : Nat)), .dt (.tup cells'), .dt (.tup states), .dt (.tup tolds), .dt (stD done .non .non now .non), .dt (.str SW), .dt c', .dt s', .dt t'])
      (.nx [.dt (thePlay (.str SW) (.tup ds)), .dt (stD3 cells states tolds), .dt (.int (i : Nat)), .dt (.tup cells'), .dt (.tup states), .dt (.tup (tolds.set i (.tup (ts ++ (if isNonB t' = true then [] else [t']))))), .dt (stD done .non .non now .non), .dt (.str SW), .dt c', .dt s', .dt t']) := by
    have q := cT1 [.dt (thePlay (.str SW) (.tup ds)), .dt (stD3 cells states tolds), .dt (.int (i : Nat)), .dt (.tup cells'), .dt (.tup states), .dt (.tup tolds), .dt (stD done .non .non now .non), .dt (.str SW), .dt c', .dt s', .dt t'] rfl
    cases hb : isNonB t' with
    | true =>
      rw [hb] at q
      rw [if_pos rfl, List.append_nil, set_same S.td]
      exact exs_if0 q exs_nx
    | false =>
      rw [hb] at q
      rw [if_neg (by decide)]
      exact exs_if1 q (exs_asg (put_ex (by rw [n3]; exact hi) (by omega) (ex_v rfl) (ex_v rfl) (ex_op (ex_op (ex_v rfl) (ex_v rfl) (ix_nat S.td)) (ex_tup (ex_c (ex_v rfl) ex_n)) (add_tt (by simp; omega)))) rfl)
  refine exs_seq e2 ?_
  exact exs_ret (ex_tup (ex_c (ex_v rfl) (ex_c (put_ex (by rw [n2]; exact hi) (by omega) (ex_v rfl) (ex_v rfl) (ex_v rfl)) (ex_c (ex_v rfl) ex_n))))
end
end Kk22
set_option Elab.async false
set_option linter.all false
set_option maxRecDepth 100000
set_option maxHeartbeats 2000000
namespace Kk22
open PySem L2 FD
/-! # the beginning; the standings along a weaving, and a weaving that does not go -/
/-- ends in an error of class c, nothing drawn -/
def RZ {α : Type} (c : Str) (m : Gh → M α) : Prop := ∀ g, ∃ ks ds, m g = some (.ex c ks ds g)
section
variable {c : Str}
theorem RZ.bd {α β : Type} {m : Gh → M α} {k : α → Gh → M β} (h : RZ c m) : RZ c (fun g => (m g).bd k) := fun g => by
  obtain ⟨ks, ds, e⟩ := h g
  exact ⟨ks, ds, by show (m g).bd k = _; rw [e]; rfl⟩
theorem RZ.of {α β : Type} {m : Gh → M α} {k : α → Gh → M β} {a : α} (h : EX m a) (hk : RZ c (k a)) : RZ c (fun g => (m g).bd k) := fun g => by
  obtain ⟨ks, ds, e⟩ := hk g
  exact ⟨ks, ds, by show (m g).bd k = _; rw [h g]; exact e⟩
theorem rz_asg {ρ : List En} {a : FE} {gs : FG} (h : RZ c (a ρ)) : RZ c (sAsg a gs ρ) := RZ.bd h
theorem rz_ret {ρ : List En} {a : FE} (h : RZ c (a ρ)) : RZ c (sRet a ρ) := RZ.bd h
theorem rz_op {ρ : List En} {op : D → D → Option D} {a b : FE} (h : RZ c (a ρ)) : RZ c (cOp op a b ρ) := RZ.bd h
theorem rz_fnX {ρ : List En} {n : Nat} {Fn : List D → Gh → M D} {a : FA} {xs : List D} (ha : EX (a ρ) xs) (h : RZ c (Fn xs)) (hn : xs.length = n := by rfl) : RZ c (cFnX n Fn a ρ) := RZ.of ha fun g => by
  simp only [hn, if_true]
  exact h g
theorem rz_seq {ρ ρ1 : List En} {a b : FS} (ha : EX (a ρ) (.nx ρ1)) (hb : RZ c (b ρ1)) : RZ c (sSeq a b ρ) := fun g => by
  obtain ⟨ks, ds, e⟩ := hb g
  exact ⟨ks, ds, (sSeq_nx (ha g)).trans e⟩
theorem rz_hd {ρ : List En} {a b : FS} (ha : RZ c (a ρ)) : RZ c (sSeq a b ρ) := fun g => by
  obtain ⟨ks, ds, e⟩ := ha g
  refine ⟨ks, ds, ?_⟩
  unfold sSeq
  rw [e]
theorem rz_if1 {ρ : List En} {t : FT} {a b : FS} (hc : EX (t ρ) true) (ha : RZ c (a ρ)) : RZ c (sIf t a b ρ) := RZ.of hc ha
theorem rz_for {ρ : List En} {fi : FI} {gs : FG} {fb : FS} {ds : List D} (hi : EX (fi ρ) ds) (hl : RZ c (loopD gs fb ds ρ)) : RZ c (sFor fi gs fb ρ) := RZ.of hi hl
theorem rzl_nx {gs : FG} {fb : FS} {d : D} {ds : List D} {ρ ρ1 ρ2 : List En} (hg : gs d ρ = some ρ1) (hb : EX (fb ρ1) (.nx ρ2)) (h : RZ c (loopD gs fb ds ρ2)) : RZ c (loopD gs fb (d :: ds) ρ) := fun g => by
  obtain ⟨ks, es, e⟩ := h g
  refine ⟨ks, es, ?_⟩
  unfold loopD
  rw [hg]
  simp only [hb g]
  exact e
theorem rzl_hd {gs : FG} {fb : FS} {d : D} {ds : List D} {ρ ρ1 : List En} (hg : gs d ρ = some ρ1) (hb : RZ c (fb ρ1)) : RZ c (loopD gs fb (d :: ds) ρ) := fun g => by
  obtain ⟨ks, es, e⟩ := hb g
  refine ⟨ks, es, ?_⟩
  unfold loopD
  rw [hg]
  simp only [e]
theorem rzfX {N : Nat} {b : FS} {ds : List D} (h : RZ c (b (ds.map .dt ++ List.replicate (N - ds.length) .un))) : RZ c (fun g => fnOf N b ds g) := fun g => by
  obtain ⟨ks, es, e⟩ := h g
  refine ⟨ks, es, ?_⟩
  show fnOf N b ds g = _
  unfold fnOf
  rw [e]
end
section
variable {ds : List D}
theorem law_begun_eq (p : Ply SW ds) : EX (f_law_begun [thePlay (.str SW) (.tup ds)]) (firstD ds) := by
  have n1 := p.n1
  have n5 := p.n5
  have em := map_same ds cell0
  have et := map_same ds (.tup [])
  unfold firstD
  rw [em, et]
  refine exf (N := 8) ?_
  refine exs_seq (exs_par (ex_c (ex_1 (ex_v rfl) (fld_kind _ _)) (ex_c (ex_1 (ex_v rfl) (fld_inputs _ _)) ex_n))) ?_
  refine exs_seq (exs_if0 (ext (ex_op (ex_v rfl) ex_d ((eqD_str sSwe (okS (by decide +kernel))).trans (by rw [show (SW == ("near" : Str)) = false by decide +kernel])))) exs_nx) ?_
  refine exs_seq (exs_asg (x := .int (ds.length : Nat)) (ex_call (ex_c (ex_v rfl) ex_n) rfl) rfl) ?_
  refine exs_rt (exs_if1 (ext (ex_op (ex_v rfl) (ex_tup (ex_c ex_d (ex_c ex_d (ex_c ex_d ex_n)))) (inMANN SWm))) (exs_ret (ex_tup (ex_c (ex_op (ex_tup (ex_c (ex_tup (ex_c ex_d (ex_c ex_d (ex_c ex_d ex_n)))) ex_n)) (ex_v rfl) (mul_rep cell0 n1 (by omega))) (ex_c (ex_call (ex_c (ex_lc (ys := ds.map startD) (exi_s (ex_v rfl) rfl) (exc_map (F := startD) fun d hd => ?_) (by rw [List.length_map]; omega)) ex_n) rfl) (ex_c (ex_op (ex_tup (ex_c (ex_tup ex_n) ex_n)) (ex_v rfl) (mul_rep (.tup []) n1 (by omega))) ex_n))))))
  obtain ⟨ss, rfl⟩ := p.tup d hd
  exact ⟨_, rfl, ex_fn (ex_c (ex_v rfl) (ex_c ex_d ex_n)) (law_fresh_eq _ _)⟩
variable {W T : D} {w : List Nat} {Ss : List D}
theorem along_ok (p : Ply SW ds) (hW : IsW W w) (h : Pth SW ds (firstD ds) w Ss T) (hl : w.length ≤ 950) : EX (f_standings_along [thePlay (.str SW) (.tup ds), W]) (.lst Ss) := by
  obtain ⟨y4, y5, e⟩ := along_loop (W := .dt W) h 0 [firstD ds] .un .un (by simp; omega)
  have n5 := p.n5
  refine exfX (N := 6) ?_
  refine exs_seq (exs_if0 (ext_not (b := true) (ext (ex_1 (ex_v rfl) (isT_W hW)))) exs_nx) ?_
  refine exs_seq (exs_asg (ex_fn (ex_c (ex_v rfl) ex_n) (first_standing_eq p.hk p.tup (by omega))) rfl) ?_
  refine exs_seq (exs_ownL (ex_c (ex_v rfl) ex_n)) ?_
  refine exs_seq (exs_for (exi_e (ex_c (ex_v rfl) ex_n) (enum_W hW)) e) ?_
  refine exs_frz rfl (exs_ret ?_)
  have : [firstD ds] ++ Ss.tail = Ss := h.ht.symm
  rw [this]
  exact ex_v rfl
/-- the hand i stands still in T -/
def Still (ds : List D) (T : D) (i : Nat) : Prop := i < ds.length ∧ ∃ c s t, T = stD3 c s t ∧ s[i]? = some .non
theorem along_brk {W : En} {S T : D} {u v : List Nat} {Ss : List D} {i : Nat} (h : Pth SW ds S u Ss T) (hs : Still ds T i) : ∀ (j : Nat) (pre : List D) (x4 x5 : En), pre.length + u.length ≤ 1000 →
    RZ "NoWeaving" (loopD (gT 2 (gsC (gN 4) (gsC (gN 5) gsN))) bodyA (enumW (u ++ i :: v) j) [.dt (thePlay (.str SW) (.tup ds)), W, .dt S, .own pre, x4, x5]) := by
  induction h with
  | nil =>
    intro j pre x4 x5 _
    obtain ⟨hi, cc, st, tt, rfl, hn⟩ := hs
    rw [List.nil_append, enumW_cons]
    refine rzl_hd (ρ1 := [.dt (thePlay (.str SW) (.tup ds)), W, .dt (stD3 cc st tt), .own pre, .dt (.int (j : Nat)), .dt (dI i)]) rfl (rz_hd (rz_if1 ?_ ?_))
    · exact ext_or0 (ext_not (b := true) (ext (ex_fn (ex_c (ex_v rfl) (ex_c (ex_v rfl) ex_n)) (is_hand_eq SWm hi)))) (ext (ex_op (ex_op (ex_op (ex_v rfl) ex_d rfl) (ex_v rfl) (ix_nat hn)) ex_d (isND_non _)))
    · exact fun g => ⟨_, _, rfl⟩
  | @cons S S' T i' w Ss s h ih =>
    intro j pre x4 x5 hl
    simp only [List.length_cons] at hl
    obtain ⟨cells, states, tolds, s0, rfl, I, hi, hs0, hn, sb⟩ := s.ex
    have e := ih hs (j + 1) (pre ++ [S']) (.dt (.int (j : Nat))) (.dt (dI i')) (by simp; omega)
    rw [List.cons_append, enumW_cons]
    refine rzl_nx (ρ1 := [.dt (thePlay (.str SW) (.tup ds)), W, .dt (stD3 cells states tolds), .own pre, .dt (.int (j : Nat)), .dt (dI i')]) rfl ?_ e
    have c0 : EX (cOr (cNot (cT (cFn 2 f_is_hand (cC (cV 0) (cC (cV 5) cN))))) (cT (cOp isND (cOp ixD (cOp ixD (cV 2) (cD (.int 1))) (cV 5)) (cD .non))) [.dt (thePlay (.str SW) (.tup ds)), W, .dt (stD3 cells states tolds), .own pre, .dt (.int (j : Nat)), .dt (dI i')]) false :=
      ext_or0 (ext_not (b := true) (ext (ex_fn (ex_c (ex_v rfl) (ex_c (ex_v rfl) ex_n)) (is_hand_eq I.hk hi)))) (ext (ex_op (ex_op (ex_op (ex_v rfl) ex_d rfl) (ex_v rfl) (ix_nat hs0)) ex_d (by rw [isND_non, hn])))
    refine exs_seq (exs_if0 c0 exs_nx) ?_
    refine exs_seq (exs_asg (ex_fn (ex_c (ex_v rfl) (ex_c (ex_v rfl) (ex_c (ex_v rfl) ex_n))) sb) rfl) ?_
    exact exs_app rfl (by omega) (ex_v rfl)
theorem along_no (p : Ply SW ds) {u v : List Nat} {i : Nat} (hW : IsW W (u ++ i :: v)) (h : Pth SW ds (firstD ds) u Ss T) (hs : Still ds T i) (hl : u.length ≤ 950) : RZ "NoWeaving" (f_standings_along [thePlay (.str SW) (.tup ds), W]) := by
  have e := along_brk (W := .dt W) (v := v) h hs 0 [firstD ds] .un .un (by simp; omega)
  have n5 := p.n5
  refine rzfX (N := 6) ?_
  refine rz_seq (exs_if0 (ext_not (b := true) (ext (ex_1 (ex_v rfl) (isT_W hW)))) exs_nx) ?_
  refine rz_seq (exs_asg (ex_fn (ex_c (ex_v rfl) ex_n) (first_standing_eq p.hk p.tup (by omega))) rfl) ?_
  refine rz_seq (exs_ownL (ex_c (ex_v rfl) ex_n)) ?_
  exact rz_hd (rz_for (exi_e (ex_c (ex_v rfl) ex_n) (enum_W hW)) e)
theorem run_ok (p : Ply SW ds) (hW : IsW W w) (h : Pth SW ds (firstD ds) w Ss T) (hl : w.length ≤ 950) : EX (f_run [thePlay (.str SW) (.tup ds), W]) T := by
  obtain ⟨pre, rfl⟩ := h.last
  exact exfX (N := 2) (exs_ret (ex_op (ex_fnX (ex_c (ex_v rfl) (ex_c (ex_v rfl) ex_n)) (along_ok p hW h hl)) (ex_1 ex_d rfl) ix_lastL))
theorem wrong_no (p : Ply SW ds) {u v : List Nat} {i : Nat} (hW : IsW W (u ++ i :: v)) (h : Pth SW ds (firstD ds) u Ss T) (hs : Still ds T i) (hl : u.length ≤ 950) : RZ "NoWeaving" (f_is_wrong [thePlay (.str SW) (.tup ds), W]) :=
  rzfX (N := 3) (rz_hd (rz_asg (rz_op (rz_fnX (ex_c (ex_v rfl) (ex_c (ex_v rfl) ex_n)) (rzfX (N := 2) (rz_ret (rz_op (rz_fnX (ex_c (ex_v rfl) (ex_c (ex_v rfl) ex_n)) (along_no p hW h hs hl)))))))))
theorem manner_ok (p : Ply SW ds) (hW : IsW W w) (h : Pth SW ds (firstD ds) w Ss T) (hl : w.length ≤ 950) : EX (f_standings_in_manner [thePlay (.str SW) (.tup ds), W]) (.lst Ss) := by
  have hi := inMANN p.hk
  have hni : notInD (.str SW) k_MANNERS = some (.bl false) := by
    unfold inD at hi
    unfold notInD
    cases e : inB (.str SW) k_MANNERS with
    | none => rw [e] at hi; simp at hi
    | some b => rw [e] at hi; simp at hi; subst hi; rfl
  exact exfX (N := 2) (exs_seq (exs_if0 (ext (ex_op (ex_1 (ex_v rfl) (fld_kind _ _)) ex_d hni)) exs_nx) (exs_ret (ex_fnX (ex_c (ex_v rfl) (ex_c (ex_v rfl) ex_n)) (along_ok p hW h hl))))
/-- a weaving goes, or stands still at a hand -/
theorem goes_or (p : Ply SW ds) : ∀ (w : List Nat) (S : D), (∃ c s t, S = stD3 c s t ∧ Inv SW ds c s t) → (∀ i ∈ w, i < ds.length) → (∃ Ss T, Pth SW ds S w Ss T) ∨ ∃ u i v Ss T, w = u ++ i :: v ∧ Pth SW ds S u Ss T ∧ Still ds T i
  | [], S, _, _ => .inl ⟨_, _, .nil⟩
  | i :: w, S, ⟨c, s, t, e, I⟩, hw => by
    subst e
    have hi := hw i (by simp)
    have es : s[i]? = some (s[i]'(by rw [I.s]; exact hi)) := List.getElem?_eq_getElem _
    cases hn : isNonB (s[i]'(by rw [I.s]; exact hi)) with
    | true =>
      rw [isNonB_of hn] at es
      exact .inr ⟨[], i, w, _, _, rfl, .nil, hi, c, s, t, rfl, es⟩
    | false =>
      obtain ⟨S', st⟩ := step_to I es hn
      rcases goes_or p w S' st.inv (fun j hj => hw j (List.mem_cons_of_mem _ hj)) with ⟨Ss, T, h⟩ | ⟨u, i', v, Ss, T, rfl, h, hs⟩
      · exact .inl ⟨_, _, .cons st h⟩
      · exact .inr ⟨i :: u, i', v, _, _, rfl, .cons st h, hs⟩
end
end Kk22
set_option Elab.async false
set_option linter.all false
set_option maxRecDepth 100000
set_option maxHeartbeats 4000000
namespace Kk22
open PySem L2 FD
/-! # one turn of the law's own walk -/
theorem any_eqv {a : D} {p : PyData} (ep : a.py = some p) : ∀ {ys : List D} {qs : List PyData}, D.pys ys = some qs → qs.any (fun z => PyData.eqv z p) = ys.any fun y => eqP y a
  | [], qs, h => by cases h; rfl
  | y :: ys, qs, h => by
    simp only [D.pys] at h
    cases ey : y.py with
    | none => rw [ey] at h; simp at h
    | some q =>
      rw [ey] at h
      cases er : D.pys ys with
      | none => rw [er] at h; simp at h
      | some rs =>
        rw [er] at h
        have : qs = q :: rs := by simpa using h.symm
        subst this
        rw [List.any_cons, List.any_cons, any_eqv ep er]
        congr 1
        unfold eqP
        rw [ey, ep]
theorem niE_plain {a : D} {ys : List D} (ha : plain 6 a = true) (hy : ∀ y ∈ ys, plain 6 y = true) : niE a (.lst ys) = some (.bl (!ys.any fun y => eqP y a)) := by
  obtain ⟨p, e1, e2, e3, e4⟩ := plain_py ha
  obtain ⟨qs, f1, f2, f3, f4⟩ := pysOk_of (n := 6) fun d hd => plain_py (hy d hd)
  have ey : (D.lst ys).py = some (.list qs) := by simp [D.py, f1]
  unfold niE
  rw [e1, ey]
  have s1 := shaped_of e2 e3 (by decide)
  have s2 : SeqAt.shaped (.list qs) = true := shaped_of (n := 7) (by simp [PyData.canLay0, f2]) (by simp only [PyData.depth]; omega) (by decide)
  simp only [s1, s2, and_self, if_true]
  rw [any_eqv e1 f1]
theorem eq_empty {now : List D} (h : ∀ c ∈ now, plain 6 c = true) (hl : now.length ≤ 500) : eqD (.tup now) (.tup []) = some (.bl now.isEmpty) := by
  have := ne_empty h hl
  unfold neD at this
  unfold eqD
  cases e : eqB (.tup now) (.tup []) with
  | none => rw [e] at this; simp at this
  | some k =>
    rw [e] at this
    simp only [Option.map_some, Option.some.injEq, D.bl.injEq] at this ⊢
    cases k <;> cases hh : now.isEmpty <;> rw [hh] at this <;> simp_all
theorem gives_last {ρ : List En} {i : Nat} {xs : List D} {x : D} (h : ρ[i]? = some (.own (xs ++ [x]))) : EX (cOIx i (c1 negD (cD (.int 1))) ρ) x := fun g => by
  have e : atI (xs ++ [x]) (-1) = some x := ix_lastL (ts := xs)
  simp only [cOIx, h]
  show (M.bd (c1 negD (cD (.int 1)) ρ g) _) = _
  simp only [c1, cD, M.bd, negD, lift]
  rw [e]
theorem ex_osl {ρ : List En} {i : Nat} {lo hi : FO} {l h : Option Int} {xs : List D} (hi' : ρ[i]? = some (.own xs)) (hl : EX (lo ρ) l) (hh : EX (hi ρ) h) : EX (cOSl i lo hi ρ) (.lst (cutD xs l h)) := fun g => by
  simp only [cOSl, hi']
  rw [hl g]
  simp only [M.bd]
  rw [hh g]
theorem cut_drop (xs : List D) (b : Nat) : cutD xs (some ((b : Nat) : Int)) none = xs.drop b := by
  unfold cutD
  rw [HT.sIx_nat]
  have : HT.sIx xs.length xs.length none = xs.length := rfl
  rw [this]
  apply List.ext_getElem?
  intro n
  rw [List.getElem?_take, List.getElem?_drop, List.getElem?_drop]
  by_cases hb : b ≤ xs.length
  · rw [Nat.min_eq_left hb]
    by_cases hn : n < xs.length - b
    · rw [if_pos hn]
    · rw [if_neg hn, List.getElem?_eq_none (by omega)]
  · rw [if_neg (by omega), List.getElem?_eq_none (by omega)]
abbrev envL (P W : D) (st : List D) (kb : List Int) (xb : List D) (lied : Bool) (x5 x6 x7 x8 x9 x10 x11 : En) : List En :=
  [.dt P, .dt W, .own st, .ownd kb xb, .dt (.bl lied), x5, x6, x7, x8, x9, x10, x11, .un, .un]
noncomputable abbrev bodyW : FS := (sSeq (sAsg (cOIx 2 (c1 negD (cD (.int 1)))) (gN 7)) (sSeq (sIf (cT (cOp isND (cOp ixD (cOp ixD (cV 7) (cD (.int 1))) (cV 6)) (cD .non))) (sRet (cD .non)) sNx) (sSeq (sAsg (cOp ixD (cOp ixD (cV 7) (cD (.int 1))) (cV 6)) (gN 8)) (sSeq (sIf (cAnd (cT (cOp isND (cOp ixD (cV 8) (cD (.int 1))) (cD .non))) (cAnd (cT (cOp eqD (cOp ixD (cV 8) (cD (.int 3))) (cTup cN))) (cT (cOp isND (cOp ixD (cV 8) (cD (.int 4))) (cD .non))))) (sDSet 3 (cV 6) (cV 5)) sNx) (sSeq (sAsg (cFn 3 f_law_behind (cC (cV 0) (cC (cV 7) (cC (cV 6) cN)))) (gN 9)) (sSeq (sApp 2 (cV 9)) (sSeq (sAsg (cD .non) (gN 10)) (sSeq (sIf (cT (cOp gtD (cCall lenD (cC (cOp ixD (cOp ixD (cV 9) (cD (.int 2))) (cV 6)) cN)) (cCall lenD (cC (cOp ixD (cOp ixD (cV 7) (cD (.int 2))) (cV 6)) cN)))) (sAsg (cOp ixD (cOp ixD (cOp ixD (cV 9) (cD (.int 2))) (cV 6)) (c1 negD (cD (.int 1)))) (gN 10)) (sIf (cAnd (cT (cOp notND (cOp ixD (cOp ixD (cV 9) (cD (.int 1))) (cV 6)) (cD .non))) (cAnd (cT (cOp notND (cOp ixD (cOp ixD (cOp ixD (cV 9) (cD (.int 1))) (cV 6)) (cD (.int 4))) (cD .non))) (cT (cOp isND (cOp ixD (cV 8) (cD (.int 4))) (cD .non))))) (sAsg (cOp ixD (cOp ixD (cOp ixD (cV 9) (cD (.int 1))) (cV 6)) (cD (.int 4))) (gN 10)) sNx)) (sIf (cT (cOp notND (cV 10) (cD .non))) (sSeq (sAsg (cLc (iS (cOSl 2 (oS (cDIx 3 (cV 6))) oN)) [12] (gN 12) tY (cCall tupleD (cC (cLc (iS (cOp ixD (cV 12) (cD (.int 0)))) [13] (gN 13) tY (cSl (cV 13) oN (oS (cD (.int 2))))) cN))) (gN 11)) (sAsg (cOrV (cV 4) (cOp niE (cV 10) (cV 11))) (gN 4))) sNx)))))))))
/-- the picture that a step tells, or none -/
theorem pictSW (ss : List D) (done : Nat) (o : Option Int) (now : List D) (cell x : D) (n : Nat) : pictD SW o .non .non now .non x n = (lawM ss done o now cell x n).2.2 := by
  unfold pictD lawM
  rw [putsSW, seenSW]
  cases ho : o.isSome with
  | true => rfl
  | false =>
    simp only [Bool.false_eq_true, if_false]
    by_cases h1 : (now ++ [x]).length < n
    · rw [if_pos h1, if_pos h1]
    · rw [if_neg h1, if_neg h1]
def begL (now : List D) (b j : Nat) : Nat := if now.isEmpty = true then j else b
def kbL (now : List D) (kb : List Int) (i : Nat) : List Int := if now.isEmpty = true then dKs kb (i : Nat) else kb
def xbL (now : List D) (kb : List Int) (xb : List D) (i j : Nat) : List D := if now.isEmpty = true then dXs kb xb (i : Nat) (.int (j : Nat)) else xb
section
variable {ds ss cells states tolds : List D} {i done : Nat} {o : Option Int} {now : List D} {x cell : D} {ts : List D}
theorem bodyW_at (P : Stp SW ds i ss done o cells states tolds .non .non now .non x cell ts) {st xb : List D} {kb : List Int} {W : D} {b j : Nat} {lied : Bool} (hst : st.length ≤ 900) (hb : kb.length = xb.length) (hb9 : kb.length ≤ 990)
    (hin : ∀ U ∈ st ++ [stD3 cells states tolds] ++ [newS SW ss i done o cells states tolds .non .non now .non x cell ts], ∃ c s t, U = stD3 c s t ∧ Inv SW ds c s t)
    (hd : now.isEmpty = false → dIx kb xb ((i : Nat) : Int) = some (.int (b : Nat))) (y7 y8 y9 y10 y11 : En) :
    EX (bodyW (envL (thePlay (.str SW) (.tup ds)) W (st ++ [stD3 cells states tolds]) kb xb lied (.dt (.int (j : Nat))) (.dt (.int (i : Nat))) y7 y8 y9 y10 y11))
      (.nx (envL (thePlay (.str SW) (.tup ds)) W (st ++ [stD3 cells states tolds] ++ [newS SW ss i done o cells states tolds .non .non now .non x cell ts]) (kbL now kb i) (xbL now kb xb i j)
        (if isNonB (pictD SW o .non .non now .non x ds.length) = true then lied else (lied || !(((st ++ [stD3 cells states tolds] ++ [newS SW ss i done o cells states tolds .non .non now .non x cell ts]).drop (begL now b j)).map shS).any fun y => eqP y (pictD SW o .non .non now .non x ds.length)))
        (.dt (.int (j : Nat))) (.dt (.int (i : Nat))) (.dt (stD3 cells states tolds)) (.dt (stD done .non .non now .non)) (.dt (newS SW ss i done o cells states tolds .non .non now .non x cell ts)) (.dt (pictD SW o .non .non now .non x ds.length)) (if isNonB (pictD SW o .non .non now .non x ds.length) = true then y11 else .dt (.lst (((st ++ [stD3 cells states tolds] ++ [newS SW ss i done o cells states tolds .non .non now .non x cell ts]).drop (begL now b j)).map shS))))) := by
  have n5 := P.I.n5
  have hn : cells.length = ds.length := P.S.n4.symm
  have hi : i < cells.length := (List.getElem?_eq_some_iff.mp P.S.cell_).1
  have hsi : i < states.length := by rw [P.S.n2]; exact hi
  have hti : i < tolds.length := by rw [P.S.n3]; exact hi
  have nl : now.length ≤ 500 := by have := P.G.n1; omega
  have nt := P.S.n5
  have lb := law_behind_eq P.S
  obtain ⟨x1, x2, x3, x4⟩ := nextSW ss done o now cell x cells.length
  have pq := pictSW ss done o now cell x cells.length
  have tny : isNonB (pictD SW o .non .non now .non x ds.length) = false → plain 6 (pictD SW o .non .non now .non x ds.length) = true := fun h => plain_le 3 (tiny_plain (pict_end P h).2)
  rw [← hn] at tny ⊢
  have pq0 := pq
  -- what the new standing is, at i
  have N2 : ∃ c' s' : List D, newS SW ss i done o cells states tolds .non .non now .non x cell ts = stD3 c' s' (tolds.set i (.tup (ts ++ (if isNonB (lawM ss done o now cell x cells.length).2.2 = true then [] else [(lawM ss done o now cell x cells.length).2.2])))) ∧ s'[i]? = some (lawM ss done o now cell x cells.length).2.1 := by
    refine ⟨cells.set i (nextD SW ss done o .non .non now .non cell x cells.length).1, states.set i (lawM ss done o now cell x cells.length).2.1, ?_, List.getElem?_set_self hsi⟩
    unfold newS
    rw [x2, x3]
  rw [pq] at tny ⊢
  generalize newS SW ss i done o cells states tolds .non .non now .non x cell ts = S' at lb hin N2 ⊢
  generalize (lawM ss done o now cell x cells.length).2.2 = t' at N2 tny ⊢
  generalize (lawM ss done o now cell x cells.length).2.1 = s' at N2 x4
  obtain ⟨c'', s'', eS', hs'⟩ := N2
  -- the first turns
  have f1 : EX (sAsg (cOIx 2 (c1 negD (cD (.int 1)))) (gN 7) (envL (thePlay (.str SW) (.tup ds)) W (st ++ [stD3 cells states tolds]) kb xb lied (.dt (.int (j : Nat))) (.dt (.int (i : Nat))) y7 y8 y9 y10 y11)) (.nx (envL (thePlay (.str SW) (.tup ds)) W (st ++ [stD3 cells states tolds]) kb xb lied (.dt (.int (j : Nat))) (.dt (.int (i : Nat))) (.dt (stD3 cells states tolds)) y8 y9 y10 y11)) := exs_asg (gives_last rfl) rfl
  have f2 : EX (sIf (cT (cOp isND (cOp ixD (cOp ixD (cV 7) (cD (.int 1))) (cV 6)) (cD .non))) (sRet (cD .non)) sNx (envL (thePlay (.str SW) (.tup ds)) W (st ++ [stD3 cells states tolds]) kb xb lied (.dt (.int (j : Nat))) (.dt (.int (i : Nat))) (.dt (stD3 cells states tolds)) y8 y9 y10 y11)) (.nx (envL (thePlay (.str SW) (.tup ds)) W (st ++ [stD3 cells states tolds]) kb xb lied (.dt (.int (j : Nat))) (.dt (.int (i : Nat))) (.dt (stD3 cells states tolds)) y8 y9 y10 y11)) :=
    exs_if0 (ext (ex_op (ex_op (ex_op (ex_v rfl) ex_d rfl) (ex_v rfl) (ix_nat P.S.st)) ex_d (isND_non _))) exs_nx
  have f3 : EX (sAsg (cOp ixD (cOp ixD (cV 7) (cD (.int 1))) (cV 6)) (gN 8) (envL (thePlay (.str SW) (.tup ds)) W (st ++ [stD3 cells states tolds]) kb xb lied (.dt (.int (j : Nat))) (.dt (.int (i : Nat))) (.dt (stD3 cells states tolds)) y8 y9 y10 y11)) (.nx (envL (thePlay (.str SW) (.tup ds)) W (st ++ [stD3 cells states tolds]) kb xb lied (.dt (.int (j : Nat))) (.dt (.int (i : Nat))) (.dt (stD3 cells states tolds)) (.dt (stD done .non .non now .non)) y9 y10 y11)) :=
    exs_asg (ex_op (ex_op (ex_v rfl) ex_d rfl) (ex_v rfl) (ix_nat P.S.st)) rfl
  have f4 : EX (sIf (cAnd (cT (cOp isND (cOp ixD (cV 8) (cD (.int 1))) (cD .non))) (cAnd (cT (cOp eqD (cOp ixD (cV 8) (cD (.int 3))) (cTup cN))) (cT (cOp isND (cOp ixD (cV 8) (cD (.int 4))) (cD .non))))) (sDSet 3 (cV 6) (cV 5)) sNx (envL (thePlay (.str SW) (.tup ds)) W (st ++ [stD3 cells states tolds]) kb xb lied (.dt (.int (j : Nat))) (.dt (.int (i : Nat))) (.dt (stD3 cells states tolds)) (.dt (stD done .non .non now .non)) y9 y10 y11))
      (.nx (envL (thePlay (.str SW) (.tup ds)) W (st ++ [stD3 cells states tolds]) (kbL now kb i) (xbL now kb xb i j) lied (.dt (.int (j : Nat))) (.dt (.int (i : Nat))) (.dt (stD3 cells states tolds)) (.dt (stD done .non .non now .non)) y9 y10 y11)) := by
    have q1 : EX (cT (cOp isND (cOp ixD (cV 8) (cD (.int 1))) (cD .non)) (envL (thePlay (.str SW) (.tup ds)) W (st ++ [stD3 cells states tolds]) kb xb lied (.dt (.int (j : Nat))) (.dt (.int (i : Nat))) (.dt (stD3 cells states tolds)) (.dt (stD done .non .non now .non)) y9 y10 y11)) true := ext (ex_op (ex_op (ex_v rfl) ex_d rfl) ex_d rfl)
    have q2 : EX (cT (cOp eqD (cOp ixD (cV 8) (cD (.int 3))) (cTup cN)) (envL (thePlay (.str SW) (.tup ds)) W (st ++ [stD3 cells states tolds]) kb xb lied (.dt (.int (j : Nat))) (.dt (.int (i : Nat))) (.dt (stD3 cells states tolds)) (.dt (stD done .non .non now .non)) y9 y10 y11)) now.isEmpty := ext (ex_op (ex_op (ex_v rfl) ex_d rfl) (ex_tup ex_n) (eq_empty (now_plain P) nl))
    unfold kbL xbL
    cases he : now.isEmpty with
    | true =>
      rw [he] at q2
      exact exs_if1 (ext_and1 q1 (ext_and1 q2 (ext (ex_op (ex_op (ex_v rfl) ex_d rfl) ex_d rfl)))) (exs_dset rfl hb (by omega) (ex_v rfl) (ex_v rfl))
    | false =>
      rw [he] at q2
      exact exs_if0 (ext_and1 q1 (ext_and0 q2)) exs_nx
  have dL : dIx (kbL now kb i) (xbL now kb xb i j) ((i : Nat) : Int) = some (.int ((begL now b j : Nat) : Int)) := by
    unfold kbL xbL begL
    cases he : now.isEmpty with
    | true =>
      simp only [if_true]
      rw [dIx_put _ _ _ hb, if_pos rfl]
    | false =>
      simp only [Bool.false_eq_true, if_false]
      exact hd he
  generalize kbL now kb i = kb' at f4 dL ⊢
  generalize xbL now kb xb i j = xb' at f4 dL ⊢
  generalize begL now b j = b' at dL ⊢
  have f5 : EX (sAsg (cFn 3 f_law_behind (cC (cV 0) (cC (cV 7) (cC (cV 6) cN)))) (gN 9) (envL (thePlay (.str SW) (.tup ds)) W (st ++ [stD3 cells states tolds]) kb' xb' lied (.dt (.int (j : Nat))) (.dt (.int (i : Nat))) (.dt (stD3 cells states tolds)) (.dt (stD done .non .non now .non)) y9 y10 y11)) (.nx (envL (thePlay (.str SW) (.tup ds)) W (st ++ [stD3 cells states tolds]) kb' xb' lied (.dt (.int (j : Nat))) (.dt (.int (i : Nat))) (.dt (stD3 cells states tolds)) (.dt (stD done .non .non now .non)) (.dt S') y10 y11)) :=
    exs_asg (ex_fn (ex_c (ex_v rfl) (ex_c (ex_v rfl) (ex_c (ex_v rfl) ex_n))) lb) rfl
  have f6 : EX (sApp 2 (cV 9) (envL (thePlay (.str SW) (.tup ds)) W (st ++ [stD3 cells states tolds]) kb' xb' lied (.dt (.int (j : Nat))) (.dt (.int (i : Nat))) (.dt (stD3 cells states tolds)) (.dt (stD done .non .non now .non)) (.dt S') y10 y11)) (.nx (envL (thePlay (.str SW) (.tup ds)) W (st ++ [stD3 cells states tolds] ++ [S']) kb' xb' lied (.dt (.int (j : Nat))) (.dt (.int (i : Nat))) (.dt (stD3 cells states tolds)) (.dt (stD done .non .non now .non)) (.dt S') y10 y11)) := exs_app rfl (by simp; omega) (ex_v rfl)
  have f7 : EX (sAsg (cD .non) (gN 10) (envL (thePlay (.str SW) (.tup ds)) W (st ++ [stD3 cells states tolds] ++ [S']) kb' xb' lied (.dt (.int (j : Nat))) (.dt (.int (i : Nat))) (.dt (stD3 cells states tolds)) (.dt (stD done .non .non now .non)) (.dt S') y10 y11)) (.nx (envL (thePlay (.str SW) (.tup ds)) W (st ++ [stD3 cells states tolds] ++ [S']) kb' xb' lied (.dt (.int (j : Nat))) (.dt (.int (i : Nat))) (.dt (stD3 cells states tolds)) (.dt (stD done .non .non now .non)) (.dt S') (.dt .non) y11)) := exs_asg ex_d rfl
  have hl2 : ∀ U ∈ (st ++ [stD3 cells states tolds] ++ [S']), ∃ cs : List D, ixD U (.int 0) = some (.tup cs) ∧ shS U = .tup (cs.map pairD) ∧ (∀ c ∈ cs, CellS c) ∧ cs.length ≤ 5 ∧ plain 6 (shS U) = true := fun U hU => by
    obtain ⟨c, s, t, rfl, I⟩ := hin U hU
    have hc : ∀ e ∈ c, CellOk e := fun e he => by
      obtain ⟨m, hm⟩ := List.getElem?_of_mem he
      exact I.cell hm
    have := I.n5
    have := I.c
    exact ⟨c, rfl, rfl, fun e he => (hc e he).s, by omega, plain_le 3 (tiny_plain (pic_cells hc (by omega)))⟩
  have e9 : EX (cT (cOp gtD (cCall lenD (cC (cOp ixD (cOp ixD (cV 9) (cD (.int 2))) (cV 6)) cN)) (cCall lenD (cC (cOp ixD (cOp ixD (cV 7) (cD (.int 2))) (cV 6)) cN))) (envL (thePlay (.str SW) (.tup ds)) W (st ++ [stD3 cells states tolds] ++ [S']) kb' xb' lied (.dt (.int (j : Nat))) (.dt (.int (i : Nat))) (.dt (stD3 cells states tolds)) (.dt (stD done .non .non now .non)) (.dt S') (.dt .non) y11)) (!isNonB t') := by
    have a1 : ixD S' (.int 2) = some (.tup (tolds.set i (.tup (ts ++ (if isNonB t' = true then [] else [t']))))) := by rw [eS']; rfl
    refine ext (ex_op (ex_call (ex_c (ex_op (ex_op (ex_v rfl) ex_d a1) (ex_v rfl) (ix_set hti)) ex_n) rfl) (ex_call (ex_c (ex_op (ex_op (ex_v rfl) ex_d rfl) (ex_v rfl) (ix_nat P.S.td)) ex_n) rfl) ?_)
    show some (D.bl (decide (((ts.length : Nat) : Int) < (((ts ++ (if isNonB t' = true then [] else [t'])).length : Nat) : Int)))) = _
    cases isNonB t' with
    | true => simp
    | false => simp; omega
  cases hb : isNonB t' with
  | true =>
    rw [hb] at e9
    rw [if_pos rfl, if_pos rfl]
    have et := isNonB_of hb
    subst et
    refine exs_seq f1 (exs_seq f2 (exs_seq f3 (exs_seq f4 (exs_seq f5 (exs_seq f6 (exs_seq f7 ?_))))))
    refine exs_seq (ρ1 := envL (thePlay (.str SW) (.tup ds)) W (st ++ [stD3 cells states tolds] ++ [S']) kb' xb' lied (.dt (.int (j : Nat))) (.dt (.int (i : Nat))) (.dt (stD3 cells states tolds)) (.dt (stD done .non .non now .non)) (.dt S') (.dt .non) y11) (exs_if0 e9 ?_) (exs_if0 (ext (ex_op (x := .non) (ex_v rfl) ex_d rfl)) exs_nx)
    have a2 : ixD S' (.int 1) = some (.tup s'') := by rw [eS']; rfl
    rcases x4 with rfl | ⟨d2, nw, rfl⟩
    · exact exs_if0 (ext_and0 (ext (ex_op (ex_op (ex_op (ex_v rfl) ex_d a2) (ex_v rfl) (ix_nat hs')) ex_d (notND_non _)))) exs_nx
    · exact exs_if0 (ext_and1 (ext (ex_op (ex_op (ex_op (ex_v rfl) ex_d a2) (ex_v rfl) (ix_nat hs')) ex_d (notND_non _))) (ext_and0 (ext (ex_op (ex_op (ex_op (ex_op (ex_v rfl) ex_d a2) (ex_v rfl) (ix_nat hs')) ex_d rfl) ex_d (notND_non _))))) exs_nx
  | false =>
    rw [hb] at e9
    rw [if_neg (by decide), if_neg (by decide)]
    have a1 : ixD S' (.int 2) = some (.tup (tolds.set i (.tup (ts ++ [t'])))) := by rw [eS', hb]; rfl
    refine exs_seq f1 (exs_seq f2 (exs_seq f3 (exs_seq f4 (exs_seq f5 (exs_seq f6 (exs_seq f7 ?_))))))
    refine exs_seq (exs_if1 e9 (exs_asg (ex_op (ex_op (ex_op (ex_v rfl) ex_d a1) (ex_v rfl) (ix_set hti)) (ex_1 ex_d rfl) (ix_last (by omega))) rfl)) ?_
    refine exs_if1 (ext (ex_op (ex_v rfl) ex_d (by rw [notND_non, hb]; rfl))) ?_
    refine exs_seq (ρ1 := envL (thePlay (.str SW) (.tup ds)) W (st ++ [stD3 cells states tolds] ++ [S']) kb' xb' lied (.dt (.int (j : Nat))) (.dt (.int (i : Nat))) (.dt (stD3 cells states tolds)) (.dt (stD done .non .non now .non)) (.dt S') (.dt t') (.dt (.lst (((st ++ [stD3 cells states tolds] ++ [S']).drop b').map shS)))) (exs_asg (ex_lc (ds := (st ++ [stD3 cells states tolds] ++ [S']).drop b') (exi_s (x := .lst ((st ++ [stD3 cells states tolds] ++ [S']).drop b')) ?_ rfl) (exc_map (F := shS) fun U hU => ?_) ?_) rfl) ?_
    · rw [← cut_drop]
      exact ex_osl rfl (exo_s (ex_dix rfl (ex_v rfl) dL)) exo_n
    · obtain ⟨cs, u1, u2, u3, u4, _⟩ := hl2 U (List.mem_of_mem_drop hU)
      rw [u2]
      exact ⟨_, rfl, cut_lc (vs := [13]) (j := 13) u3 (by omega) (ex_op (ex_v rfl) ex_d u1) fun d => rfl⟩
    · rw [List.length_map, List.length_drop]; simp; omega
    · have nE := niE_plain (ys := ((st ++ [stD3 cells states tolds] ++ [S']).drop b').map shS) (tny hb) (fun y hy => by
        obtain ⟨U, hU, rfl⟩ := List.mem_map.mp hy
        exact (hl2 U (List.mem_of_mem_drop hU)).choose_spec.2.2.2.2)
      cases lied with
      | true => exact exs_asg (ex_or1 (ex_v rfl)) rfl
      | false => exact exs_asg (ex_or0 (ex_v rfl) (ex_op (ex_v rfl) (ex_v rfl) nE)) rfl
theorem bodyW_eq (P : Stp SW ds i ss done o cells states tolds .non .non now .non x cell ts) {st xb : List D} {kb : List Int} {b j : Nat} {lied : Bool} (hst : st.length ≤ 900) (hb : kb.length = xb.length) (hb9 : kb.length ≤ 990)
    (hin : ∀ U ∈ st ++ [stD3 cells states tolds] ++ [newS SW ss i done o cells states tolds .non .non now .non x cell ts], ∃ c s t, U = stD3 c s t ∧ Inv SW ds c s t)
    (hd : now.isEmpty = false → dIx kb xb ((i : Nat) : Int) = some (.int (b : Nat))) (y7 y8 y9 y10 y11 : En) :
    ∃ z7 z8 z9 z10 z11, ∀ W : D, EX (bodyW (envL (thePlay (.str SW) (.tup ds)) W (st ++ [stD3 cells states tolds]) kb xb lied (.dt (.int (j : Nat))) (.dt (.int (i : Nat))) y7 y8 y9 y10 y11))
      (.nx (envL (thePlay (.str SW) (.tup ds)) W (st ++ [stD3 cells states tolds] ++ [newS SW ss i done o cells states tolds .non .non now .non x cell ts]) (kbL now kb i) (xbL now kb xb i j)
        (if isNonB (pictD SW o .non .non now .non x ds.length) = true then lied else (lied || !(((st ++ [stD3 cells states tolds] ++ [newS SW ss i done o cells states tolds .non .non now .non x cell ts]).drop (begL now b j)).map shS).any fun y => eqP y (pictD SW o .non .non now .non x ds.length)))
        (.dt (.int (j : Nat))) (.dt (.int (i : Nat))) z7 z8 z9 z10 z11)) :=
  ⟨_, _, _, _, _, fun W => bodyW_at P hst hb hb9 hin hd y7 y8 y9 y10 y11⟩
end
end Kk22
set_option Elab.async false
set_option linter.all false
set_option maxRecDepth 100000
set_option maxHeartbeats 4000000
namespace Kk22
open PySem L2 FD
/-! # both walks at once -/
def csOf (SS : List D) (t : Nat) : List D := match SS[t]? with
  | some (.tup [.tup cells, _, _]) => cells
  | _ => []
theorem csOf_at {SS cells states tolds : List D} {t : Nat} (h : SS[t]? = some (stD3 cells states tolds)) : csOf SS t = cells := by
  unfold csOf
  rw [h]
theorem isEmpty_filter' {α : Type} (p : α → Bool) : ∀ l : List α, (l.filter p).isEmpty = !l.any p
  | [] => rfl
  | a :: l => by
    have ih := isEmpty_filter' p l
    rw [List.filter_cons, List.any_cons]
    cases h : p a with
    | true => simp
    | false => simpa using ih
section
variable {ds SS : List D}
theorem stood_map (hin : ∀ U ∈ SS, ∃ c s t, U = stD3 c s t ∧ Inv SW ds c s t) {b e : Nat} (he : e < SS.length) : ((SS.take (e + 1)).drop b).map shS = (List.range (e + 1 - b)).map fun v => shD (csOf SS) (b + v) := by
  apply List.ext_getElem?
  intro n
  rw [List.getElem?_map, List.getElem?_map, List.getElem?_drop, List.getElem?_take]
  by_cases hn : b + n < e + 1
  · have e1 : SS[b + n]? = some (SS[b + n]'(by omega)) := List.getElem?_eq_getElem _
    obtain ⟨c, s, t, e2, _⟩ := hin _ (List.mem_of_getElem? e1)
    rw [e2] at e1
    rw [if_pos hn, List.getElem?_range (by omega), e1]
    show some (D.tup (c.map pairD)) = some (D.tup ((csOf SS (b + n)).map pairD))
    rw [csOf_at e1]
  · rw [if_neg hn, List.getElem?_eq_none (by simp; omega)]
    rfl
theorem lie_eq (hin : ∀ U ∈ SS, ∃ c s t, U = stD3 c s t ∧ Inv SW ds c s t) {b e : Nat} (he : e < SS.length) (hb : b ≤ e) (x y pic : D) :
    (founds (csOf SS) (.tup [x, y, .int ((b : Nat) : Int), .int ((e : Nat) : Int), pic])).isEmpty = !(((SS.take (e + 1)).drop b).map shS).any fun z => eqP z pic := by
  show ((rngD (b : Nat) (((e : Nat) : Int) + 1 - ((b : Nat) : Int)).toNat).filter (pmB (csOf SS) pic)).isEmpty = _
  rw [isEmpty_filter', stood_map hin he, show (((e : Nat) : Int) + 1 - ((b : Nat) : Int)).toNat = e + 1 - b by omega]
  congr 1
  unfold rngD
  rw [List.any_map, List.any_map]
  congr 1
/-- a look that ended -/
def LkD (top : Nat) (d : D) : Prop := ∃ (x y : D) (b e : Nat) (pic : D), d = .tup [x, y, .int ((b : Nat) : Int), .int ((e : Nat) : Int), pic] ∧ b ≤ e ∧ e ≤ top ∧ plain 6 pic = true
theorem LkD.mono {a b : Nat} {d : D} (h : LkD a d) (hab : a ≤ b) : LkD b d := by
  obtain ⟨x, y, b', e, pic, h1, h2, h3, h4⟩ := h
  exact ⟨x, y, b', e, pic, h1, h2, Nat.le_trans h3 hab, h4⟩
abbrev FM (L : List (D × Int)) : List D := L.map fun p => .tup [p.1, .int p.2]
def lies (SS : List D) (L : List (D × Int)) : Bool := L.any fun q => (founds (csOf SS) q.1).isEmpty
theorem lies_app (SS : List D) (L : List (D × Int)) (q : D × Int) : lies SS (L ++ [q]) = (lies SS L || (founds (csOf SS) q.1).isEmpty) := by simp [lies]
/-- what both note of a hand within a look -/
def Noted (states : List D) (j : Nat) (kb : List Int) (xb : List D) (kb2 : List Int) (xb2 : List D) (ks : List Int) (xs : List D) : Prop :=
  ∀ (m done : Nat) (now : List D), states[m]? = some (stD done .non .non now .non) → now ≠ [] →
    ∃ b : Nat, b ≤ j ∧ dIx kb xb ((m : Nat) : Int) = some (.int (b : Nat)) ∧ dIx kb2 xb2 ((m : Nat) : Int) = some (.int (b : Nat)) ∧ dIx ks xs ((m : Nat) : Int) = some (.int (now.length : Nat))
theorem goesSW (now : List D) : goesB .non now = !now.isEmpty := by unfold goesB; simp [isNonB]
theorem law_next {ss : List D} {done : Nat} {o : Option Int} {now : List D} {cell x : D} {n d2 : Nat} {now2 : List D} (h : (lawM ss done o now cell x n).2.1 = stD d2 .non .non now2 .non) (hne : now2 ≠ []) : now2 = now ++ [x] := by
  unfold lawM at h
  cases ho : o.isSome with
  | true =>
    rw [ho, if_pos rfl] at h
    exact absurd (ahead_st h).2.2.2.1 hne
  | false =>
    rw [ho, if_neg (by decide)] at h
    by_cases h1 : (now ++ [x]).length < n
    · rw [if_pos h1] at h
      exact (stD_inj h).2.2.2.1.symm
    · rw [if_neg h1] at h
      exact absurd (ahead_st h).2.2.2.1 hne
theorem joint (hin : ∀ U ∈ SS, ∃ c s t, U = stD3 c s t ∧ Inv SW ds c s t) {S T : D} {w : List Nat} {Ss : List D} (h : Pth SW ds S w Ss T) :
    ∀ (j : Nat) (cells states tolds : List D), S = stD3 cells states tolds → SwI states → (∀ t, t ≤ w.length → SS[j + t]? = Ss[t]?) → j + w.length ≤ 880 →
    ∀ (kb kb2 ks : List Int) (xb xb2 xs : List D) (L : List (D × Int)) (y5 y6 y7 y8 y9 y10 x5 x6 x7 x8 x9 x10 x11 : En), kb.length = xb.length → kb2.length = xb2.length → ks.length = xs.length → kb.length ≤ j → kb2.length ≤ j → ks.length ≤ j → L.length ≤ j →
      (∀ q ∈ L, LkD j q.1) → Noted states j kb xb kb2 xb2 ks xs →
    ∃ (kb' kb2' ks' : List Int) (xb' xb2' xs' : List D) (L' : List (D × Int)) (u5 u6 u7 u8 u9 u10 z5 z6 z7 z8 z9 z10 z11 : En),
      (∀ WB : D, EX (loopD (gT 2 (gsC (gN 5) (gsC (gN 6) gsN))) bodyB (enumW w j) (envB SS WB kb2 xb2 ks xs (FM L) y5 y6 y7 y8 y9 y10)) (.nx (envB SS WB kb2' xb2' ks' xs' (FM L') u5 u6 u7 u8 u9 u10))) ∧
      (∀ (W : D) rest f, EX (loopD (gT 2 (gsC (gN 5) (gsC (gN 6) gsN))) bodyW rest (envL (thePlay (.str SW) (.tup ds)) W (SS.take (j + w.length + 1)) kb' xb' (lies SS L') z5 z6 z7 z8 z9 z10 z11)) f →
        EX (loopD (gT 2 (gsC (gN 5) (gsC (gN 6) gsN))) bodyW (enumW w j ++ rest) (envL (thePlay (.str SW) (.tup ds)) W (SS.take (j + 1)) kb xb (lies SS L) x5 x6 x7 x8 x9 x10 x11)) f) ∧
      L'.length ≤ j + w.length ∧ ∀ q ∈ L', LkD (j + w.length) q.1 := by
  induction h with
  | nil =>
    intro j cells states tolds _ _ _ _ kb kb2 ks xb xb2 xs L y5 y6 y7 y8 y9 y10 x5 x6 x7 x8 x9 x10 x11 _ _ _ _ _ _ hL hq _
    exact ⟨kb, kb2, ks, xb, xb2, xs, L, y5, y6, y7, y8, y9, y10, x5, x6, x7, x8, x9, x10, x11, fun WB => exl_nil, fun W rest f hf => hf, hL, hq⟩
  | @cons S S' T i w Ss s h ih =>
    intro j cells0 states0 tolds0 eS hsw hSS hj kb kb2 ks xb xb2 xs L y5 y6 y7 y8 y9 y10 x5 x6 x7 x8 x9 x10 x11 l1 l2 l3 b1 b2 b3 hL hq hK
    simp only [List.length_cons] at hSS hj
    cases s with
    | @mk i ss done o cells states tolds first last now ready x cell ts P =>
    have e3 : cells = cells0 ∧ states = states0 ∧ tolds = tolds0 := by
      have := D.tup.inj eS
      simp only [List.cons.injEq, D.tup.injEq, and_true] at this
      exact this
    obtain ⟨rfl, rfl, rfl⟩ := e3
    have hst := P.S.st
    have e4 : first = .non ∧ last = .non ∧ ready = .non := by
      rcases hsw i _ hst with z | ⟨d2, n2, z⟩
      · cases z
      · obtain ⟨_, q1, q2, _, q3⟩ := stD_inj z
        exact ⟨q1, q2, q3⟩
    obtain ⟨rfl, rfl, rfl⟩ := e4
    have s0 : SS[j]? = some (stD3 cells states tolds) := by
      have := hSS 0 (by omega)
      simpa using this
    have s1 : SS[j + 1]? = some (newS SW ss i done o cells states tolds .non .non now .non x cell ts) := by
      have := hSS 1 (by omega)
      rw [this]
      show Ss[0]? = _
      exact h.head
    have hjl : j + 1 < SS.length := (List.getElem?_eq_some_iff.mp s1).1
    have hi : i < cells.length := (List.getElem?_eq_some_iff.mp P.S.cell_).1
    have hsi : i < states.length := by rw [P.S.n2]; exact hi
    -- since when the look goes
    have hb : ∃ b : Nat, b ≤ j ∧ (now.isEmpty = false → dIx kb xb ((i : Nat) : Int) = some (.int (b : Nat)) ∧ dIx kb2 xb2 ((i : Nat) : Int) = some (.int (b : Nat)) ∧ dIx ks xs ((i : Nat) : Int) = some (.int (now.length : Nat))) := by
      cases he : now.isEmpty with
      | true => exact ⟨0, Nat.zero_le _, fun z => by cases z⟩
      | false =>
        obtain ⟨b, q1, q2, q3, q4⟩ := hK i done now hst (fun z => by rw [z] at he; cases he)
        exact ⟨b, q1, fun _ => ⟨q2, q3, q4⟩⟩
    obtain ⟨b, hbj, hbb⟩ := hb
    have tk1 : SS.take (j + 1) = SS.take j ++ [stD3 cells states tolds] := by rw [List.take_add_one, s0]; rfl
    have tk2 : SS.take (j + 1 + 1) = SS.take j ++ [stD3 cells states tolds] ++ [newS SW ss i done o cells states tolds .non .non now .non x cell ts] := by rw [List.take_add_one (i := j + 1), s1, tk1]; rfl
    -- the program's turn
    have hR : Rel ds.length kb2 xb2 ks xs i .non now (if now.isEmpty = true then .non else .int (b : Nat)) 0 := by
      unfold Rel
      rw [goesSW]
      cases he : now.isEmpty with
      | true => exact .inl ⟨rfl, rfl, rfl⟩
      | false =>
        obtain ⟨_, q3, q4⟩ := hbb he
        exact .inr ⟨rfl, _, rfl, q3, by rw [q4]; simp, by omega⟩
    obtain ⟨kb2', xb2', ks', xs', b', v7, v8, v9, v10, m1, m2, m3, m4, mb, md, ms, mo, eB⟩ := bodyB_eq P (F := FM L) s0 s1 l2 l3 (by omega) (by omega) (by rw [List.length_map]; omega) hR y7 y8 y9 y10
    have hb' : b' = ((begL now b j : Nat) : Int) := by
      unfold begL
      cases he : now.isEmpty with
      | true => rw [he] at mb; simp [begV, isNonB] at mb; simp; omega
      | false => rw [he] at mb; simp [begV, isNonB] at mb; simp; omega
    subst hb'
    have hbl : begL now b j ≤ j := by unfold begL; split <;> omega
    -- the law's turn
    obtain ⟨w7, w8, w9, w10, w11, eW⟩ := bodyW_eq P (st := SS.take j) (lied := lies SS L) (b := b) (j := j) (by rw [List.length_take]; omega) l1 (by omega) (fun U hU => by rw [← tk2] at hU; exact hin U (List.mem_of_mem_take hU)) (fun he => (hbb he).1) x7 x8 x9 x10 x11
    rw [← tk2] at eW
    rw [← tk1] at eW
    -- what is noted of the looks
    obtain ⟨L1, hL1, eF, eL, hq1⟩ : ∃ L1 : List (D × Int), L1.length ≤ j + 1 ∧
        (if isNonB (pictD SW o .non .non now .non x ds.length) = true then FM L else FM L ++ [.tup [.tup [.int (i : Nat), .int (done : Nat), .int ((begL now b j : Nat) : Int), .int ((j : Nat) + 1), pictD SW o .non .non now .non x ds.length], .int (0 * ((ds.length : Nat) : Int) + (now.length : Nat) + 1)]]) = FM L1 ∧
        (if isNonB (pictD SW o .non .non now .non x ds.length) = true then lies SS L else (lies SS L || !(((SS.take (j + 1 + 1)).drop (begL now b j)).map shS).any fun y => eqP y (pictD SW o .non .non now .non x ds.length))) = lies SS L1 ∧ ∀ q ∈ L1, LkD (j + 1) q.1 := by
      cases hp : isNonB (pictD SW o .non .non now .non x ds.length) with
      | true => exact ⟨L, by omega, rfl, rfl, fun q hm => (hq q hm).mono (by omega)⟩
      | false =>
        refine ⟨L ++ [(.tup [.int (i : Nat), .int (done : Nat), .int ((begL now b j : Nat) : Int), .int ((j + 1 : Nat) : Int), pictD SW o .non .non now .non x ds.length], 0 * ((ds.length : Nat) : Int) + (now.length : Nat) + 1)], by simp; omega, ?_, ?_, fun q hm => ?_⟩
        · rw [if_neg (by decide)]; show _ = List.map _ (L ++ [_]); rw [List.map_append]; rfl
        · rw [if_neg (by decide), lies_app, lie_eq hin hjl (by omega)]
        · rcases List.mem_append.mp hm with hm | hm
          · exact (hq q hm).mono (by omega)
          · rw [List.mem_singleton.mp hm]
            exact ⟨_, _, _, _, _, rfl, by omega, Nat.le_refl _, plain_le 3 (tiny_plain (pict_end P hp).2)⟩
    rw [eF] at eB
    rw [eL] at eW
    obtain ⟨t1, t2, t3, t4⟩ := nextSW ss done o now cell x cells.length
    -- the rest
    have hsw' : SwI (states.set i (nextD SW ss done o .non .non now .non cell x cells.length).2.1) := fun m s hm => by
      by_cases e : i = m
      · subst e
        rw [List.getElem?_set_self hsi] at hm
        cases hm
        rw [t2]; exact t4
      · rw [List.getElem?_set_ne e] at hm
        exact hsw m s hm
    have hK' : Noted (states.set i (nextD SW ss done o .non .non now .non cell x cells.length).2.1) (j + 1) (kbL now kb i) (xbL now kb xb i j) kb2' xb2' ks' xs' := by
      intro m d2 n2 hm hne
      by_cases e : i = m
      · subst e
        rw [List.getElem?_set_self hsi, t2] at hm
        have hn2 := law_next (Option.some.inj hm) hne
        refine ⟨begL now b j, by omega, ?_, md, ?_⟩
        · unfold kbL xbL begL
          cases he : now.isEmpty with
          | true =>
            simp only [if_true]
            rw [dIx_put _ _ _ l1, if_pos rfl]
          | false =>
            simp only [Bool.false_eq_true, if_false]
            exact (hbb he).1
        · rw [ms, hn2]
          simp
      · rw [List.getElem?_set_ne e] at hm
        obtain ⟨b0, c1, c2, c3, c4⟩ := hK m d2 n2 hm hne
        obtain ⟨o1, o2⟩ := mo ((m : Nat) : Int) (by omega)
        refine ⟨b0, by omega, ?_, by rw [o1]; exact c3, by rw [o2]; exact c4⟩
        unfold kbL xbL
        split
        · rw [dIx_put _ _ _ l1, if_neg (by omega)]; exact c2
        · exact c2
    have lk : (kbL now kb i).length = (xbL now kb xb i j).length ∧ (kbL now kb i).length ≤ j + 1 := by
      unfold kbL xbL
      split
      · exact ⟨dXs_len _ _ l1, Nat.le_trans (dKs_le _ _) (by omega)⟩
      · exact ⟨l1, by omega⟩
    obtain ⟨kb', kb2'', ks'', xb', xb2'', xs'', L', u5, u6, u7, u8, u9, u10, z5, z6, z7, z8, z9, z10, z11, g1, g2, g3, g4⟩ := ih (j + 1) _ _ _ rfl hsw' (fun t ht => by
        have := hSS (t + 1) (by omega)
        rw [show j + 1 + t = j + (t + 1) by omega, this]
        rfl) (by omega) (kbL now kb i) kb2' ks' (xbL now kb xb i j) xb2' xs' L1 (.dt (.int (j : Nat))) (.dt (.int (i : Nat))) v7 v8 v9 v10 (.dt (.int (j : Nat))) (.dt (.int (i : Nat))) w7 w8 w9 w10 w11 lk.1 m1 m2 lk.2 (by omega) (by omega) hL1 hq1 hK'
    have ej : j + (w.length + 1) = j + 1 + w.length := by omega
    refine ⟨kb', kb2'', ks'', xb', xb2'', xs'', L', u5, u6, u7, u8, u9, u10, z5, z6, z7, z8, z9, z10, z11, fun WB => ?_, fun W rest f hf => ?_, by simp only [List.length_cons]; omega, fun q hm => by simp only [List.length_cons]; rw [ej]; exact g4 q hm⟩
    · rw [enumW_cons]
      exact exl_nx rfl (eB WB) (g1 WB)
    · rw [enumW_cons, List.cons_append]
      simp only [List.length_cons] at hf
      rw [ej] at hf
      exact exl_nx rfl (eW W) (g2 W rest f hf)
end
end Kk22
set_option Elab.async false
set_option linter.all false
set_option maxRecDepth 100000
set_option maxHeartbeats 4000000
namespace Kk22
open PySem L2 FD
/-! # whether a weaving is wrong: both say the same -/
theorem List.any_congr_left' {α : Type} {p q : α → Bool} : ∀ (l : List α), (∀ x ∈ l, p x = q x) → l.any p = l.any q
  | [], _ => rfl
  | a :: l, h => by
    rw [List.any_cons, List.any_cons, h a (by simp), List.any_congr_left' l fun x hx => h x (List.mem_cons_of_mem _ hx)]
section
variable {ds : List D}
theorem start_sw (p : Ply SW ds) : SwI (ds.map startD) := fun m s hm => by
  rw [List.getElem?_map, Option.map_eq_some_iff] at hm
  obtain ⟨d, h1, h2⟩ := hm
  obtain ⟨ss, rfl⟩ := p.tup d (List.mem_of_getElem? h1)
  have h2 : aheadD ss 0 = s := h2
  unfold aheadD at h2
  by_cases z : (0 : Int) = (ss.length : Int)
  · rw [if_pos z] at h2; exact .inl h2.symm
  · rw [if_neg z] at h2
    exact .inr ⟨0, [], h2.symm⟩
theorem start_noted (p : Ply SW ds) : Noted (ds.map startD) 0 [] [] [] [] [] [] := fun m done now hm hne => by
  rw [List.getElem?_map, Option.map_eq_some_iff] at hm
  obtain ⟨d, h1, h2⟩ := hm
  obtain ⟨ss, rfl⟩ := p.tup d (List.mem_of_getElem? h1)
  have h2 : aheadD ss 0 = stD done .non .non now .non := h2
  unfold aheadD at h2
  by_cases z : (0 : Int) = (ss.length : Int)
  · rw [if_pos z] at h2; cases h2
  · rw [if_neg z] at h2
    have e : fresh 0 = stD 0 .non .non [] .non := rfl
    rw [e] at h2
    exact absurd (stD_inj h2).2.2.2.1.symm hne
theorem enumW_app (u v : List Nat) (j : Nat) : enumW (u ++ v) j = enumW u j ++ enumW v (j + u.length) := by
  induction u generalizing j with
  | nil => rfl
  | cons i u ih =>
    rw [List.cons_append, enumW_cons, enumW_cons, ih, List.cons_append, List.length_cons, show j + 1 + u.length = j + (u.length + 1) by omega]
/-- what both tell along a weaving that goes -/
theorem walks (p : Ply SW ds) {w : List Nat} {Ss : List D} {T : D} (h : Pth SW ds (firstD ds) w Ss T) (hl : w.length ≤ 800) :
    ∃ L : List (D × Int), L.length ≤ w.length ∧ (∀ q ∈ L, LkD w.length q.1) ∧ (∀ W, IsW W w → EX (f_ended_looks [.lst Ss, W]) (.lst (FM L)) ∧ EX (f_law_wrong [thePlay (.str SW) (.tup ds), W]) (.bl (lies Ss L))) ∧
      ∀ i v W, IsW W (w ++ i :: v) → Still ds T i → EX (f_law_wrong [thePlay (.str SW) (.tup ds), W]) .non := by
  have hin : ∀ U ∈ Ss, ∃ c s t, U = stD3 c s t ∧ Inv SW ds c s t := pth_all h (first_stands p)
  have hlen := h.len
  have tk0 : Ss.take (0 + 1) = [firstD ds] := by rw [h.ht]; rfl
  have tk1 : Ss.take (0 + w.length + 1) = Ss := List.take_of_length_le (by omega)
  obtain ⟨kbX, _, _, xbX, _, _, L, u5, u6, u7, u8, u9, u10, z5, z6, z7, z8, z9, z10, z11, g1, g2, g3, g4⟩ := joint hin h 0 _ _ _ rfl (start_sw p) (fun t _ => by rw [Nat.zero_add]) (by omega) [] [] [] [] [] [] [] .un .un .un .un .un .un .un .un .un .un .un .un .un rfl rfl rfl (Nat.le_refl _) (Nat.le_refl _) (Nat.le_refl _) (Nat.le_refl _) (fun q hq => by simp at hq) (start_noted p)
  rw [Nat.zero_add] at g3 g4
  rw [tk0, tk1] at g2
  have law : ∀ (W : D) (ws : List Nat) (f : Fl) (r : D), IsW W ws → EX (loopD (gT 2 (gsC (gN 5) (gsC (gN 6) gsN))) bodyW (enumW ws 0) (envL (thePlay (.str SW) (.tup ds)) W [firstD ds] [] [] false .un .un .un .un .un .un .un)) f → (f = .rt r ∨ ∃ st kb xb b x5 x6 x7 x8 x9 x10 x11, f = .nx (envL (thePlay (.str SW) (.tup ds)) W st kb xb b x5 x6 x7 x8 x9 x10 x11) ∧ r = .bl b) →
      EX (f_law_wrong [thePlay (.str SW) (.tup ds), W]) r := fun W ws f r hW hf hr => by
    refine exf (N := 14) ?_
    refine exs_seq (exs_ownL (ex_c (ex_fn (ex_c (ex_v rfl) ex_n) (law_begun_eq p)) ex_n)) ?_
    refine exs_seq exs_ownd (exs_seq (exs_asg ex_d rfl) ?_)
    rcases hr with rfl | ⟨st, kb, xb, b, x5, x6, x7, x8, x9, x10, x11, rfl, rfl⟩
    · exact exs_rt (exs_for (exi_e (ex_c (ex_v rfl) ex_n) (enum_W hW)) hf)
    · exact exs_seq (exs_for (exi_e (ex_c (ex_v rfl) ex_n) (enum_W hW)) hf) (exs_ret (ex_v rfl))
  refine ⟨L, g3, g4, fun W hW => ⟨?_, ?_⟩, fun i v W hW hs => ?_⟩
  · refine exf (N := 11) ?_
    refine exs_seq exs_ownd (exs_seq exs_ownd (exs_seq exs_own ?_))
    refine exs_seq (exs_for (exi_e (ex_c (ex_v rfl) ex_n) (enum_W hW)) (g1 W)) ?_
    exact exs_frz rfl (exs_ret (ex_v rfl))
  · have := g2 W [] _ exl_nil
    rw [List.append_nil] at this
    exact law W w _ _ hW this (.inr ⟨_, _, _, _, _, _, _, _, _, _, _, rfl, rfl⟩)
  · obtain ⟨hi, c, s, t, rfl, hn⟩ := hs
    obtain ⟨pre, hpre⟩ := h.last
    have e1 : EX (loopD (gT 2 (gsC (gN 5) (gsC (gN 6) gsN))) bodyW (enumW (i :: v) (0 + w.length)) (envL (thePlay (.str SW) (.tup ds)) W Ss kbX xbX (lies Ss L) z5 z6 z7 z8 z9 z10 z11)) (.rt .non) := by
      rw [enumW_cons, hpre]
      refine exl_rt rfl (exs_seq (exs_asg (gives_last rfl) rfl) (exs_rt (exs_if1 (ext (ex_op (ex_op (ex_op (ex_v rfl) ex_d rfl) (ex_v rfl) (ix_nat hn)) ex_d (isND_non _))) (exs_ret ex_d))))
    have := g2 W _ _ e1
    rw [← enumW_app] at this
    exact law W _ _ _ hW this (.inl rfl)
/-! ### the moments -/
theorem inV_non : ∀ ms : List D, (∀ m ∈ ms, m = .non ∨ ∃ i, m = .int i) → inV V.non (ms.map toV) = ms.any isNonB
  | [], _ => rfl
  | m :: ms, h => by
    have ih := inV_non ms fun x hx => h x (List.mem_cons_of_mem _ hx)
    simp only [inV] at ih
    simp only [List.map_cons, inV, List.any_cons, ih]
    congr 1
    rcases h m (by simp) with rfl | ⟨i, rfl⟩ <;> rfl
theorem flat_non {ms : List D} (h : ∀ m ∈ ms, m = .non ∨ ∃ i, m = .int i) : inD .non (.tup ms) = some (.bl (ms.any isNonB)) := by
  have h1 : ms.all flatD = true := by
    rw [List.all_eq_true]
    intro m hm
    rcases h m hm with rfl | ⟨i, rfl⟩ <;> rfl
  have h2 := inV_non ms h
  have h0 : flatD .non = true := rfl
  simp only [inD, inB, h0, h1, and_self, if_true, Option.map_some]
  show some (D.bl (inV V.non (ms.map toV))) = _
  rw [h2]
theorem least_any {found : List D} (h : found.length ≤ 1000) : EX (f_least_of [.lst found]) (found.headD .non) := by
  cases found with
  | nil => exact exf (N := 1) (exs_seq (exs_if0 (EX.bd (ex_v rfl) fun g => rfl) exs_nx) (exs_ret ex_d))
  | cons d rest => exact least_eq rfl
theorem mom_any {SS : List D} (hin : ∀ U ∈ SS, ∃ c s t, U = stD3 c s t ∧ Inv SW ds c s t) (n5 : ds.length ≤ 5) {top : Nat} (htop : top < SS.length) (h900 : top ≤ 900) {d : D} (h : LkD top d) :
    EX (f_moments_of [.lst (SS.map shS), d]) (.lst (founds (csOf SS) d)) ∧ (founds (csOf SS) d).length ≤ 1000 ∧ ∀ m ∈ founds (csOf SS) d, ∃ i, m = .int i := by
  obtain ⟨x, y, b, e, pic, rfl, h1, h2, h3⟩ := h
  have hsh : ∀ t, t ≤ top → (SS.map shS)[t]? = some (shD (csOf SS) t) ∧ plain 6 (shD (csOf SS) t) = true := fun t ht => by
    have e1 : SS[t]? = some (SS[t]'(by omega)) := List.getElem?_eq_getElem _
    obtain ⟨c, s, tt, e2, I⟩ := hin _ (List.mem_of_getElem? e1)
    rw [e2] at e1
    rw [List.getElem?_map, e1]
    have ec := csOf_at e1
    have hc : ∀ e ∈ c, CellOk e := fun e he => by
      obtain ⟨m, hm⟩ := List.getElem?_of_mem he
      exact I.cell hm
    refine ⟨?_, ?_⟩
    · show some (D.tup (c.map pairD)) = some (D.tup ((csOf SS t).map pairD))
      rw [ec]
    · show plain 6 (.tup ((csOf SS t).map pairD)) = true
      rw [ec]
      exact plain_le 3 (tiny_plain (pic_cells hc (by have := I.c; omega)))
  have ee : ((e : Nat) : Int) + 1 = ((e + 1 : Nat) : Int) := by omega
  have hlen : (founds (csOf SS) (.tup [x, y, .int (b : Nat), .int (e : Nat), pic])).length ≤ 1000 := by
    refine Nat.le_trans (List.length_filter_le _ _) ?_
    rw [rng_len]
    omega
  refine ⟨?_, hlen, fun m hm => ?_⟩
  · have em : ((rngD (b : Nat) (((e : Nat) : Int) + 1 - (b : Nat)).toNat).filter (pmB (csOf SS) pic)).map id = founds (csOf SS) (.tup [x, y, .int (b : Nat), .int (e : Nat), pic]) := List.map_id _
    rw [← em] at hlen ⊢
    refine exf (N := 7) (exs_seq (exs_asg (ex_v rfl) rfl) (exs_ret (ex_lc (ds := rngD (b : Nat) (((e : Nat) : Int) + 1 - (b : Nat)).toNat) ?_ (exc_fil (p := pmB (csOf SS) pic) (F := id) fun q hq => ?_) hlen)))
    · refine EX.bd (ex_c (ex_v rfl) (ex_c (ex_op (ex_v rfl) ex_d rfl) ex_n)) fun g => ?_
      rw [ee, rng2_nat (by omega) (by omega)]
      rfl
    · unfold rngD at hq
      obtain ⟨v, hv, rfl⟩ := List.mem_map.mp hq
      have hv := List.mem_range.mp hv
      have e0 : ((b : Nat) : Int) + (v : Int) = ((b + v : Nat) : Int) := by omega
      rw [e0]
      obtain ⟨s1, s2⟩ := hsh (b + v) (by omega)
      refine ⟨_, rfl, ext (ex_op (ex_op (ex_v rfl) (ex_v rfl) (ixl_nat s1)) (ex_v rfl) ?_), ex_v rfl⟩
      rw [eqD_plain s2 h3 (by decide) (by decide)]
      rfl
  · have q1 := (List.mem_filter.mp hm).1
    unfold rngD at q1
    obtain ⟨v, _, rfl⟩ := List.mem_map.mp q1
    exact ⟨_, rfl⟩
theorem head_non {fs : List D} (h : ∀ m ∈ fs, ∃ i, m = .int i) : isNonB (fs.headD .non) = fs.isEmpty ∧ (fs.headD .non = .non ∨ ∃ i, fs.headD .non = .int i) := by
  cases fs with
  | nil => exact ⟨rfl, .inl rfl⟩
  | cons d rest =>
    obtain ⟨i, rfl⟩ := h d (by simp)
    exact ⟨rfl, .inr ⟨i, rfl⟩⟩
/-- both tell the same of every weaving -/
theorem tells (p : Ply SW ds) {w : List Nat} (hw : ∀ i ∈ w, i < ds.length) (hl : w.length ≤ 800) :
    ∃ r : Option Bool, ((∃ Ss T, Pth SW ds (firstD ds) w Ss T) → r.isSome = true) ∧ ∀ W, IsW W w → EX (f_law_wrong [thePlay (.str SW) (.tup ds), W]) (match r with | some b => .bl b | none => .non) ∧
      (match r with | some b => EX (f_is_wrong [thePlay (.str SW) (.tup ds), W]) (.bl b) | none => RZ "NoWeaving" (f_is_wrong [thePlay (.str SW) (.tup ds), W])) := by
  have n5 := p.n5
  by_cases hpth : ∃ Ss T, Pth SW ds (firstD ds) w Ss T
  case neg =>
    rcases goes_or p w (firstD ds) (first_stands p) hw with h | ⟨u, i, v, Ss, T, rfl, h, hs⟩
    · exact absurd h hpth
    have hlu : u.length ≤ 800 := by simp at hl; omega
    obtain ⟨L, _, _, _, g⟩ := walks p h hlu
    exact ⟨none, fun z => absurd z hpth, fun W hW => ⟨g i v W hW hs, wrong_no p hW h hs (by omega)⟩⟩
  obtain ⟨Ss, T, h⟩ := hpth
  obtain ⟨L, g3, g4, g1, _⟩ := walks p h hl
  have hin : ∀ U ∈ Ss, ∃ c s t, U = stD3 c s t ∧ Inv SW ds c s t := pth_all h (first_stands p)
  have hlen := h.len
  refine ⟨some (lies Ss L), fun _ => rfl, fun W hW => ⟨(g1 W hW).2, ?_⟩⟩
  have me := fun q (hq : q ∈ L) => mom_any hin n5 (by omega) (by omega) (g4 q hq)
  have hml : EX (f_moments_of_looks [thePlay (.str SW) (.tup ds), W]) (.lst ((FM L).map fun d => match d with | .tup [e, _] => .lst (founds (csOf Ss) e) | _ => .non)) := by
    refine exfX (N := 7) ?_
    refine exs_seq (exs_asg (ex_fnX (ex_c (ex_v rfl) (ex_c (ex_v rfl) ex_n)) (manner_ok p hW h (by omega))) rfl) ?_
    refine exs_seq (ρ1 := [.dt (thePlay (.str SW) (.tup ds)), .dt W, .dt (.lst Ss), .dt (.lst (Ss.map shS)), .un, .un, .un]) (exs_asg (ex_lc (exi_s (ex_v rfl) rfl) (exc_map (F := shS) fun d hd => ?_) (by rw [List.length_map]; omega)) rfl) ?_
    · obtain ⟨cells, states, tolds, rfl, I⟩ := hin d hd
      refine ⟨_, rfl, ex_fn (ex_c (ex_v rfl) ex_n) (shown_eq (fun c hc => ?_) (by rw [I.c]; omega))⟩
      obtain ⟨m, hm⟩ := List.getElem?_of_mem hc
      exact (I.cell hm).s
    · refine exs_ret (ex_lc (exi_s (ex_fn (ex_c (ex_v rfl) (ex_c (ex_v rfl) ex_n)) (g1 W hW).1) rfl) (exc_map (F := fun d => match d with | .tup [e, _] => .lst (founds (csOf Ss) e) | _ => .non) fun d hd => ?_) (by rw [List.length_map, List.length_map]; omega))
      obtain ⟨q, hq, rfl⟩ := List.mem_map.mp hd
      exact ⟨_, rfl, ex_fn (ex_c (ex_v rfl) (ex_c (ex_v rfl) ex_n)) (me q hq).1⟩
  have e : ((FM L).map fun d => match d with | .tup [e, _] => D.lst (founds (csOf Ss) e) | _ => .non).map (fun d => match d with | .lst xs => xs.headD .non | _ => .non) = L.map fun q => (founds (csOf Ss) q.1).headD .non := by
    rw [List.map_map, List.map_map]
    rfl
  have hm : EX (f_moments [thePlay (.str SW) (.tup ds), W]) (.tup (L.map fun q => (founds (csOf Ss) q.1).headD .non)) := by
    rw [← e]
    refine exfX (N := 3) (exs_ret (ex_call (ex_c (ex_lc (exi_s (ex_fnX (ex_c (ex_v rfl) (ex_c (ex_v rfl) ex_n)) hml) rfl) (exc_map (F := fun d => match d with | .lst xs => xs.headD .non | _ => .non) fun d hd => ?_) (by rw [List.length_map, List.length_map, List.length_map]; omega)) ex_n) rfl))
    obtain ⟨d', hd', rfl⟩ := List.mem_map.mp hd
    obtain ⟨q, hq, rfl⟩ := List.mem_map.mp hd'
    exact ⟨_, rfl, ex_fn (ex_c (ex_v rfl) ex_n) (least_any (me q hq).2.1)⟩
  have hf := flat_non (ms := L.map fun q => (founds (csOf Ss) q.1).headD .non) (fun m hm => by
    obtain ⟨q, hq, rfl⟩ := List.mem_map.mp hm
    exact (head_non (me q hq).2.2).2)
  have hany : (L.map fun q => (founds (csOf Ss) q.1).headD .non).any isNonB = lies Ss L := by
    rw [List.any_map]
    unfold lies
    exact List.any_congr_left' L fun q hq => (head_non (me q hq).2.2).1
  rw [hany] at hf
  obtain ⟨cT, sT, tT, rfl, _⟩ := pth_inv h (first_stands p)
  refine exfX (N := 3) ?_
  refine exs_seq (exs_asg (ex_op (ex_fnX (ex_c (ex_v rfl) (ex_c (ex_v rfl) ex_n)) (run_ok p hW h (by omega))) ex_d rfl) rfl) ?_
  exact exs_rt (exs_if1 (ext (ex_op (ex_1 (ex_v rfl) (fld_kind _ _)) ex_d (inMANN SWm))) (exs_ret (ex_op ex_d (ex_fnX (ex_c (ex_v rfl) (ex_c (ex_v rfl) ex_n)) hm) hf)))
end
end Kk22
set_option Elab.async false
set_option linter.all false
set_option maxRecDepth 100000
set_option maxHeartbeats 4000000
namespace Kk22
open PySem L2 FD
/-! # weavings shrunk -/
/-- the first place whose hand can be left out -/
def fbad (bad : List Nat → Bool) (w : List Nat) (j : Nat) : Nat → Option Nat
  | 0 => none
  | k + 1 => if bad (w.eraseIdx j) = true then some j else fbad bad w (j + 1) k
theorem fbad_some {bad : List Nat → Bool} {w : List Nat} {m : Nat} : ∀ {k j : Nat}, fbad bad w j k = some m → bad (w.eraseIdx m) = true ∧ j ≤ m ∧ m < j + k
  | 0, _, h => by cases h
  | k + 1, j, h => by
    unfold fbad at h
    split at h
    · rename_i hb; cases h; exact ⟨hb, by omega, by omega⟩
    · obtain ⟨h1, h2, h3⟩ := fbad_some h
      exact ⟨h1, by omega, by omega⟩
/-- left out again and again -/
def shr (bad : List Nat → Bool) : Nat → List Nat → List Nat
  | 0, w => w
  | n + 1, w => match fbad bad w 0 w.length with
    | none => w
    | some m => shr bad n (w.eraseIdx m)
theorem shr_in {bad : List Nat → Bool} : ∀ (n : Nat) (w : List Nat), bad w = true → bad (shr bad n w) = true ∧ (shr bad n w).length ≤ w.length ∧ ∀ i ∈ shr bad n w, i ∈ w
  | 0, w, h => ⟨h, Nat.le_refl _, fun i hi => hi⟩
  | n + 1, w, h => by
    unfold shr
    cases e : fbad bad w 0 w.length with
    | none => exact ⟨h, Nat.le_refl _, fun i hi => hi⟩
    | some m =>
      obtain ⟨h1, _, h2⟩ := fbad_some e
      obtain ⟨a, b, c⟩ := shr_in n (w.eraseIdx m) h1
      refine ⟨a, Nat.le_trans b ?_, fun i hi => List.mem_of_mem_eraseIdx (c i hi)⟩
      rw [List.length_eraseIdx]
      split <;> omega
theorem cut_ex {ρ : List En} {a b : FE} {w : List Nat} {j : Nat} (hj : j < w.length) (hl : w.length ≤ 900) (ha : EX (a ρ) (.tup (w.map dI))) (hb : EX (b ρ) (.int (j : Nat))) :
    EX (cOp addD (cSl a oN (oS b)) (cSl a (oS (cOp addD b (cD (.int 1)))) oN) ρ) (.tup ((w.eraseIdx j).map dI)) := by
  have e1 := cut_take (xs := w.map dI) (j := j) (by rw [List.length_map]; omega)
  have e2 := cut_drop (w.map dI) (j + 1)
  have e3 : (w.eraseIdx j).map dI = (w.map dI).take j ++ (w.map dI).drop (j + 1) := by
    rw [List.eraseIdx_eq_take_drop_succ, List.map_append, List.map_take, List.map_drop]
  rw [e3]
  have s1 : slD (.tup (w.map dI)) none (some ((j : Nat) : Int)) = some (.tup ((w.map dI).take j)) := by
    show some (D.tup (cutD (w.map dI) none (some ((j : Nat) : Int)))) = _
    rw [e1]
  have s2 : slD (.tup (w.map dI)) (some (((j : Nat) : Int) + 1)) none = some (.tup ((w.map dI).drop (j + 1))) := by
    show some (D.tup (cutD (w.map dI) (some (((j : Nat) : Int) + 1)) none)) = _
    rw [show ((j : Nat) : Int) + 1 = ((j + 1 : Nat) : Int) by omega, e2]
  refine ex_op (ex_sl ha exo_n (exo_s hb) s1) (ex_sl ha (exo_s (ex_op hb ex_d rfl)) exo_n s2) (if_pos ?_)
  simp
  omega
theorem exw_stop {fc : FT} {fb : FS} {n : Nat} {ρ : List En} (hc : EX (fc ρ) false) : EX (whileN fc fb (n + 1) ρ) (.nx ρ) := fun g => by
  unfold whileN
  rw [hc g]
theorem exw_go {fc : FT} {fb : FS} {n : Nat} {ρ ρ2 : List En} {f : Fl} (hc : EX (fc ρ) true) (hb : EX (fb ρ) (.nx ρ2)) (h : EX (whileN fc fb n ρ2) f) : EX (whileN fc fb (n + 1) ρ) f := fun g => by
  unfold whileN
  rw [hc g]
  simp only [hb g]
  exact h g
theorem exs_tryC_ok {fb : FS} {ρ : List En} {x : Str} {d : Bool} {f : Fl} (h : EX (fb ρ) f) : EX (sTryC fb x d ρ) f := fun g => by
  simp only [sTryC]
  rw [h g]
theorem exs_tryC_ex {fb : FS} {ρ : List En} {x : Str} {d : Bool} (h : RZ x (fb ρ)) : EX (sTryC fb x d ρ) (.rt (.bl d)) := fun g => by
  obtain ⟨ks, es, e⟩ := h g
  simp only [sTryC]
  rw [e]
  simp only [if_true]
theorem exs_tryIs_ok {fb : FS} {ρ : List En} {C w : Str} {i j : Nat} {f : Fl} (h : EX (fb ρ) f) : EX (sTryIs fb C i j w ρ) f := fun g => by
  simp only [sTryIs]
  rw [h g]
theorem exs_tryIs_ex {fb : FS} {ρ : List En} {C w : Str} {i j : Nat} (h : RZ C (fb ρ)) (hi : i < ρ.length) (hj : j < ρ.length) : EX (sTryIs fb C i j w ρ) (.nx (((hidE ρ).set j (.dt (.str w))).set i .un)) := fun g => by
  obtain ⟨ks, es, e⟩ := h g
  simp only [sTryIs]
  rw [e]
  simp only [hi, hj, and_self, if_true]
section
variable {ds : List D}
open Classical in
noncomputable def wr (ds : List D) (w : List Nat) : Option Bool := if h : Ply SW ds ∧ (∀ i ∈ w, i < ds.length) ∧ w.length ≤ 480 then (tells h.1 h.2.1 (Nat.le_trans h.2.2 (by decide))).choose else none
noncomputable def bad (ds : List D) (w : List Nat) : Bool := wr ds w == some true
def Rightw (ds : List D) (w : List Nat) : Prop := (∀ i ∈ w, i < ds.length) ∧ w.length ≤ 480
theorem Rightw.erase {w : List Nat} (h : Rightw ds w) (j : Nat) : Rightw ds (w.eraseIdx j) := by
  refine ⟨fun i hi => h.1 i (List.mem_of_mem_eraseIdx hi), ?_⟩
  have := h.2
  rw [List.length_eraseIdx]
  split <;> omega
theorem wr_spec (p : Ply SW ds) {w : List Nat} (hw : Rightw ds w) : ((∃ Ss T, Pth SW ds (firstD ds) w Ss T) → (wr ds w).isSome = true) ∧ ∀ W, IsW W w → EX (f_law_wrong [thePlay (.str SW) (.tup ds), W]) (match wr ds w with | some b => .bl b | none => .non) ∧
      (match wr ds w with | some b => EX (f_is_wrong [thePlay (.str SW) (.tup ds), W]) (.bl b) | none => RZ "NoWeaving" (f_is_wrong [thePlay (.str SW) (.tup ds), W])) := by
  have e : wr ds w = (tells p hw.1 (Nat.le_trans hw.2 (by decide))).choose := by
    unfold wr
    rw [dif_pos ⟨p, hw.1, hw.2⟩]
  rw [e]
  exact (tells p hw.1 (Nat.le_trans hw.2 (by decide))).choose_spec
theorem wrong_weaving (p : Ply SW ds) {w : List Nat} (hw : Rightw ds w) {W : D} (hW : IsW W w) : EX (f_is_wrong_weaving [thePlay (.str SW) (.tup ds), W]) (.bl (bad ds w)) := by
  have h := ((wr_spec p hw).2 W hW).2
  refine exf (N := 2) ?_
  unfold bad
  cases e : wr ds w with
  | some b =>
    rw [e] at h
    have eb : (some b == some true) = b := by cases b <;> rfl
    rw [eb]
    exact exs_tryC_ok (exs_ret (ex_fnX (ex_c (ex_v rfl) (ex_c (ex_v rfl) ex_n)) h))
  | none =>
    rw [e] at h
    exact exs_tryC_ex (rz_ret (rz_fnX (ex_c (ex_v rfl) (ex_c (ex_v rfl) ex_n)) h))
theorem law_bad {ρ : List En} (p : Ply SW ds) {w : List Nat} (hw : Rightw ds w) {W : D} (hW : IsW W w) {a : FA} (ha : EX (a ρ) [thePlay (.str SW) (.tup ds), W]) : EX (cT (cOp isBlD (cFn 2 f_law_wrong a) (cD (.bl true))) ρ) (bad ds w) := by
  have h := ((wr_spec p hw).2 W hW).1
  unfold bad
  cases e : wr ds w with
  | some b =>
    rw [e] at h
    have eb : (some b == some true) = b := by cases b <;> rfl
    rw [eb]
    exact ext (ex_op (ex_fn ha h) ex_d (by cases b <;> rfl))
  | none =>
    rw [e] at h
    exact ext (ex_op (ex_fn ha h) ex_d rfl)
/-! ### the program's -/
def optD : Option (List Nat) → D
  | some w => .tup (w.map dI)
  | none => .non
noncomputable abbrev bodyF : FS := (sSeq (sAsg (cOp addD (cSl (cV 1) oN (oS (cV 2))) (cSl (cV 1) (oS (cOp addD (cV 2) (cD (.int 1)))) oN)) (gN 3)) (sIf (cT (cFn 2 f_is_wrong_weaving (cC (cV 0) (cC (cV 3) cN)))) (sRet (cV 3)) sNx))
theorem first_loop (p : Ply SW ds) {w : List Nat} (hw : Rightw ds w) : ∀ (k j : Nat), j + k ≤ w.length → ∀ x2 x3,
    ∃ f, EX (loopD (gN 2) bodyF (rngD (j : Nat) k) [.dt (thePlay (.str SW) (.tup ds)), .dt (.tup (w.map dI)), x2, x3]) f ∧
      (match fbad (bad ds) w j k with | some m => f = .rt (.tup ((w.eraseIdx m).map dI)) | none => ∃ y2 y3, f = .nx [.dt (thePlay (.str SW) (.tup ds)), .dt (.tup (w.map dI)), y2, y3])
  | 0, j, _, x2, x3 => ⟨_, exl_nil, x2, x3, rfl⟩
  | k + 1, j, hj, x2, x3 => by
    rw [rngD_cons]
    have hl := hw.2
    have e1 : EX (sAsg (cOp addD (cSl (cV 1) oN (oS (cV 2))) (cSl (cV 1) (oS (cOp addD (cV 2) (cD (.int 1)))) oN)) (gN 3) [.dt (thePlay (.str SW) (.tup ds)), .dt (.tup (w.map dI)), .dt (.int (j : Nat)), x3]) (.nx [.dt (thePlay (.str SW) (.tup ds)), .dt (.tup (w.map dI)), .dt (.int (j : Nat)), .dt (.tup ((w.eraseIdx j).map dI))]) :=
      exs_asg (cut_ex (by omega) (by omega) (ex_v rfl) (ex_v rfl)) rfl
    have c1 : EX (cT (cFn 2 f_is_wrong_weaving (cC (cV 0) (cC (cV 3) cN))) [.dt (thePlay (.str SW) (.tup ds)), .dt (.tup (w.map dI)), .dt (.int (j : Nat)), .dt (.tup ((w.eraseIdx j).map dI))]) (bad ds (w.eraseIdx j)) :=
      ext (ex_fn (ex_c (ex_v rfl) (ex_c (ex_v rfl) ex_n)) (wrong_weaving p (hw.erase j) (.inl rfl)))
    unfold fbad
    cases hb : bad ds (w.eraseIdx j) with
    | true =>
      rw [hb] at c1
      exact ⟨_, exl_rt rfl (exs_seq e1 (exs_if1 c1 (exs_ret (ex_v rfl)))), rfl⟩
    | false =>
      rw [hb] at c1
      obtain ⟨f, h1, h2⟩ := first_loop p hw k (j + 1) (by omega) (.dt (.int (j : Nat))) (.dt (.tup ((w.eraseIdx j).map dI)))
      rw [show (((j + 1 : Nat)) : Int) = (j : Int) + 1 by omega] at h1
      exact ⟨f, exl_nx rfl (exs_seq e1 (exs_if0 c1 exs_nx)) h1, h2⟩
theorem first_shorter_eq (p : Ply SW ds) {w : List Nat} (hw : Rightw ds w) : EX (f_first_shorter [thePlay (.str SW) (.tup ds), .tup (w.map dI)]) (optD ((fbad (bad ds) w 0 w.length).map fun m => w.eraseIdx m)) := by
  obtain ⟨f, h1, h2⟩ := first_loop p hw w.length 0 (by omega) .un .un
  have hl := hw.2
  have hi : EX (iR1 (cC (cCall lenD (cC (cV 1) cN)) cN) [.dt (thePlay (.str SW) (.tup ds)), .dt (.tup (w.map dI)), .un, .un]) (rngD 0 w.length) := exi_r (ex_call (ex_c (ex_v rfl) ex_n) (len_W (.inl rfl))) (by omega)
  refine exf (N := 4) ?_
  cases e : fbad (bad ds) w 0 w.length with
  | some m =>
    rw [e] at h2
    subst h2
    exact exs_rt (exs_for hi h1)
  | none =>
    rw [e] at h2
    obtain ⟨y2, y3, rfl⟩ := h2
    exact exs_seq (exs_for hi h1) (exs_ret ex_d)
theorem while_shr (p : Ply SW ds) {W : En} : ∀ (n : Nat) (w : List Nat), w.length ≤ n → Rightw ds w → ∀ N, n < N →
    EX (whileN (cT (cOp notND (cV 3) (cD .non))) (sSeq (sAsg (cV 3) (gN 2)) (sAsg (cFn 2 f_first_shorter (cC (cV 0) (cC (cV 2) cN))) (gN 3))) N [.dt (thePlay (.str SW) (.tup ds)), W, .dt (.tup (w.map dI)), .dt (optD ((fbad (bad ds) w 0 w.length).map fun m => w.eraseIdx m))])
      (.nx [.dt (thePlay (.str SW) (.tup ds)), W, .dt (.tup ((shr (bad ds) n w).map dI)), .dt .non])
  | n, w, hn, hw, 0, hN => by omega
  | 0, w, hn, hw, N + 1, hN => by
    have : w = [] := List.length_eq_zero_iff.mp (by omega)
    subst this
    exact exw_stop (ext (ex_op (x := .non) (ex_v rfl) ex_d rfl))
  | n + 1, w, hn, hw, N + 1, hN => by
    unfold shr
    cases e : fbad (bad ds) w 0 w.length with
    | none => exact exw_stop (ext (ex_op (x := .non) (ex_v rfl) ex_d rfl))
    | some m =>
      obtain ⟨_, _, hm⟩ := fbad_some e
      have hle : (w.eraseIdx m).length ≤ n := by rw [List.length_eraseIdx, if_pos (by omega)]; omega
      exact exw_go (ext (ex_op (x := .tup ((w.eraseIdx m).map dI)) (ex_v rfl) ex_d rfl)) (exs_seq (exs_asg (ex_v rfl) rfl) (exs_asg (ex_fn (ex_c (ex_v rfl) (ex_c (ex_v rfl) ex_n)) (first_shorter_eq p (hw.erase m))) rfl)) (while_shr p n _ hle (hw.erase m) N (by omega))
theorem tup_W {W : D} {w : List Nat} (h : IsW W w) : tupleD [W] = some (.tup (w.map dI)) := by rcases h with rfl | rfl <;> rfl
theorem shrunk_yes (p : Ply SW ds) {w : List Nat} (hw : Rightw ds w) {W : D} (hW : IsW W w) (h : wr ds w = some true) : EX (f_shrunk [thePlay (.str SW) (.tup ds), W]) (.tup ((shr (bad ds) w.length w).map dI)) := by
  have h1 := ((wr_spec p hw).2 W hW).2
  rw [h] at h1
  have hl := hw.2
  refine exfX (N := 4) ?_
  refine exs_seq (exs_if0 (ext_not (b := true) (ext (ex_fnX (ex_c (ex_v rfl) (ex_c (ex_v rfl) ex_n)) h1))) exs_nx) ?_
  refine exs_seq (exs_asg (ex_call (ex_c (ex_v rfl) ex_n) (tup_W hW)) rfl) ?_
  refine exs_seq (exs_asg (ex_fn (ex_c (ex_v rfl) (ex_c (ex_v rfl) ex_n)) (first_shorter_eq p hw)) rfl) ?_
  exact exs_seq (while_shr p w.length w (Nat.le_refl _) hw 1000 (by omega)) (exs_ret (ex_v rfl))
theorem shrunk_no (p : Ply SW ds) {w : List Nat} (hw : Rightw ds w) {W : D} (hW : IsW W w) (h : wr ds w = some false) : RZ "NotWrong" (f_shrunk [thePlay (.str SW) (.tup ds), W]) := by
  have h1 := ((wr_spec p hw).2 W hW).2
  rw [h] at h1
  exact rzfX (N := 4) (rz_hd (rz_if1 (ext_not (b := false) (ext (ex_fnX (ex_c (ex_v rfl) (ex_c (ex_v rfl) ex_n)) h1))) fun g => ⟨_, _, rfl⟩))
/-- what the law hears of the program -/
theorem law_told_eq (p : Ply SW ds) {w : List Nat} (hw : Rightw ds w) {W : D} (hW : IsW W w) (h : (wr ds w).isSome = true) : EX (f_law_told [thePlay (.str SW) (.tup ds), W]) (if bad ds w = true then .tup ((shr (bad ds) w.length w).map dI) else .str "notwrong") := by
  obtain ⟨b, e⟩ := Option.isSome_iff_exists.mp h
  have eb : bad ds w = b := by unfold bad; rw [e]; cases b <;> rfl
  rw [eb]
  refine exf (N := 4) (exs_seq (exs_asg ex_d rfl) ?_)
  cases b with
  | true =>
    have k : EX (sAsg (cFnX 2 f_shrunk (cC (cV 0) (cC (cV 1) cN))) (gN 2) [.dt (thePlay (.str SW) (.tup ds)), .dt W, .dt (.str "odd"), .un]) (.nx [.dt (thePlay (.str SW) (.tup ds)), .dt W, .dt (.tup ((shr (bad ds) w.length w).map dI)), .un]) := exs_asg (ex_fnX (ex_c (ex_v rfl) (ex_c (ex_v rfl) ex_n)) (shrunk_yes p hw hW e)) rfl
    exact exs_seq (exs_tryIs_ok k) (exs_ret (ex_v rfl))
  | false =>
    have k : RZ "NotWrong" (sAsg (cFnX 2 f_shrunk (cC (cV 0) (cC (cV 1) cN))) (gN 2) [.dt (thePlay (.str SW) (.tup ds)), .dt W, .dt (.str "odd"), .un]) := rz_asg (rz_fnX (ex_c (ex_v rfl) (ex_c (ex_v rfl) ex_n)) (shrunk_no p hw hW e))
    exact exs_seq (exs_tryIs_ex k (by simp) (by simp)) (exs_ret (ex_v rfl))
/-! ### the law's -/
theorem fil_head (q : Nat → Bool) (w : List Nat) (hq : ∀ j, q j = bad ds (w.eraseIdx j)) : ∀ (k j : Nat), match fbad (bad ds) w j k with
    | some m => ∃ rest, (rngD (j : Nat) k).filter (fun d => match d with | .int i => q i.toNat | _ => false) = .int (m : Nat) :: rest
    | none => (rngD (j : Nat) k).filter (fun d => match d with | .int i => q i.toNat | _ => false) = []
  | 0, j => rfl
  | k + 1, j => by
    rw [rngD_cons]
    unfold fbad
    rw [List.filter_cons]
    have e : (match D.int ((j : Nat) : Int) with | .int i => q i.toNat | _ => false) = bad ds (w.eraseIdx j) := by
      show q (((j : Nat) : Int).toNat) = _
      rw [Int.toNat_natCast, hq]
    rw [e]
    cases hb : bad ds (w.eraseIdx j) with
    | true => exact ⟨_, rfl⟩
    | false =>
      have ih := fil_head q w hq k (j + 1)
      rw [show (((j + 1 : Nat)) : Int) = (j : Int) + 1 by omega] at ih
      exact ih
noncomputable abbrev bodyS : FS := (sSeq (sAsg (cLc (iR1 (cC (cCall lenD (cC (cV 2) cN)) cN)) [5] (gN 5) (cT (cOp isBlD (cFn 2 f_law_wrong (cC (cV 0) (cC (cOp addD (cSl (cV 2) oN (oS (cV 5))) (cSl (cV 2) (oS (cOp addD (cV 5) (cD (.int 1)))) oN)) cN))) (cD (.bl true)))) (cV 5)) (gN 4)) (sSeq (sIf (cT (cOp eqD (cCall lenD (cC (cV 4) cN)) (cD (.int 0)))) (sRet (cV 2)) sNx) (sAsg (cOp addD (cSl (cV 2) oN (oS (cOp ixD (cV 4) (cD (.int 0))))) (cSl (cV 2) (oS (cOp addD (cOp ixD (cV 4) (cD (.int 0))) (cD (.int 1)))) oN)) (gN 2))))
theorem law_loop (p : Ply SW ds) {W : En} : ∀ (k : Nat) (a : Int) (w : List Nat), Rightw ds w → ∀ x3 x4,
    ∃ f, EX (loopD (gN 3) bodyS (rngD a k) [.dt (thePlay (.str SW) (.tup ds)), W, .dt (.tup (w.map dI)), x3, x4, .un]) f ∧
      (f = .rt (.tup ((shr (bad ds) k w).map dI)) ∨ ∃ y3 y4, f = .nx [.dt (thePlay (.str SW) (.tup ds)), W, .dt (.tup ((shr (bad ds) k w).map dI)), y3, y4, .un])
  | 0, a, w, hw, x3, x4 => ⟨_, exl_nil, .inr ⟨x3, x4, rfl⟩⟩
  | k + 1, a, w, hw, x3, x4 => by
    rw [rngD_cons]
    have hl := hw.2
    have fl : ((rngD 0 w.length).filter (fun d => match d with | .int i => bad ds (w.eraseIdx i.toNat) | _ => false)).length ≤ 1000 := Nat.le_trans (List.length_filter_le _ _) (by rw [rng_len]; omega)
    have e1 : EX (sAsg (cLc (iR1 (cC (cCall lenD (cC (cV 2) cN)) cN)) [5] (gN 5) (cT (cOp isBlD (cFn 2 f_law_wrong (cC (cV 0) (cC (cOp addD (cSl (cV 2) oN (oS (cV 5))) (cSl (cV 2) (oS (cOp addD (cV 5) (cD (.int 1)))) oN)) cN))) (cD (.bl true)))) (cV 5)) (gN 4) [.dt (thePlay (.str SW) (.tup ds)), W, .dt (.tup (w.map dI)), .dt (.int a), x4, .un])
        (.nx [.dt (thePlay (.str SW) (.tup ds)), W, .dt (.tup (w.map dI)), .dt (.int a), .dt (.lst ((rngD 0 w.length).filter (fun d => match d with | .int i => bad ds (w.eraseIdx i.toNat) | _ => false))), .un]) := by
      have em := List.map_id ((rngD 0 w.length).filter (fun d => match d with | .int i => bad ds (w.eraseIdx i.toNat) | _ => false))
      rw [← em]
      rw [← em] at fl
      refine exs_asg (ex_lc (exi_r (n := w.length) (ex_call (ex_c (ex_v rfl) ex_n) (len_W (.inl rfl))) (by omega)) (exc_fil (p := fun d => match d with | .int i => bad ds (w.eraseIdx i.toNat) | _ => false) (F := id) fun d hd => ?_) fl) rfl
      unfold rngD at hd
      obtain ⟨v, hv, rfl⟩ := List.mem_map.mp hd
      have hv := List.mem_range.mp hv
      rw [show (0 : Int) + ((v : Nat) : Int) = ((v : Nat) : Int) by omega]
      refine ⟨_, rfl, ?_, ex_v rfl⟩
      exact law_bad p (hw.erase v) (.inl rfl) (ex_c (ex_v rfl) (ex_c (cut_ex hv (by omega) (ex_v rfl) (ex_v rfl)) ex_n))
    have fh := fil_head (ds := ds) (fun j => bad ds (w.eraseIdx j)) w (fun j => rfl) w.length 0
    unfold shr
    cases e : fbad (bad ds) w 0 w.length with
    | none =>
      rw [e] at fh
      have fh : (rngD 0 w.length).filter (fun d => match d with | .int i => bad ds (w.eraseIdx i.toNat) | _ => false) = [] := fh
      rw [fh] at e1
      exact ⟨_, exl_rt rfl (exs_seq e1 (exs_rt (exs_if1 (ext (ex_op (ex_call (z := .int 0) (ex_c (ex_v rfl) ex_n) rfl) ex_d (by rw [eqD_int]; rfl))) (exs_ret (ex_v rfl))))), .inl rfl⟩
    | some m =>
      rw [e] at fh
      obtain ⟨rest, fh⟩ := fh
      have fh : (rngD 0 w.length).filter (fun d => match d with | .int i => bad ds (w.eraseIdx i.toNat) | _ => false) = .int (m : Nat) :: rest := fh
      rw [fh] at e1
      obtain ⟨_, _, hm⟩ := fbad_some e
      have ex0 : ∀ ρ : List En, ρ[4]? = some (.dt (.lst (.int (m : Nat) :: rest))) → EX (cOp ixD (cV 4) (cD (.int 0)) ρ) (.int (m : Nat)) := fun ρ h => ex_op (ex_v h) ex_d (ixl_nat (i := 0) rfl)
      have e2 : EX (sAsg (cOp addD (cSl (cV 2) oN (oS (cOp ixD (cV 4) (cD (.int 0))))) (cSl (cV 2) (oS (cOp addD (cOp ixD (cV 4) (cD (.int 0))) (cD (.int 1)))) oN)) (gN 2) [.dt (thePlay (.str SW) (.tup ds)), W, .dt (.tup (w.map dI)), .dt (.int a), .dt (.lst (.int (m : Nat) :: rest)), .un]) (.nx [.dt (thePlay (.str SW) (.tup ds)), W, .dt (.tup ((w.eraseIdx m).map dI)), .dt (.int a), .dt (.lst (.int (m : Nat) :: rest)), .un]) :=
        exs_asg (cut_ex (by omega) (by omega) (ex_v rfl) (ex0 _ rfl)) rfl
      obtain ⟨f, g1, g2⟩ := law_loop p (W := W) k (a + 1) (w.eraseIdx m) (hw.erase m) (.dt (.int a)) (.dt (.lst (.int (m : Nat) :: rest)))
      refine ⟨f, exl_nx rfl (exs_seq e1 (exs_seq (exs_if0 (ext (ex_op (ex_call (z := .int (((D.int (m : Nat) :: rest).length : Nat) : Int)) (ex_c (ex_v rfl) ex_n) rfl) ex_d ?_)) exs_nx) e2)) g1, g2⟩
      rw [eqD_int]
      congr 2
theorem law_shrunk_eq (p : Ply SW ds) {w : List Nat} (hw : Rightw ds w) {W : D} (hW : IsW W w) : EX (f_law_shrunk [thePlay (.str SW) (.tup ds), W]) (.tup ((shr (bad ds) w.length w).map dI)) := by
  have hl := hw.2
  obtain ⟨f, g1, g2⟩ := law_loop p (W := .dt W) w.length 0 w hw .un .un
  refine exf (N := 6) (exs_seq (exs_asg (ex_call (ex_c (ex_v rfl) ex_n) (tup_W hW)) rfl) ?_)
  have hi : EX (iR1 (cC (cCall lenD (cC (cV 1) cN)) cN) [.dt (thePlay (.str SW) (.tup ds)), .dt W, .dt (.tup (w.map dI)), .un, .un, .un]) (rngD 0 w.length) := exi_r (ex_call (ex_c (ex_v rfl) ex_n) (len_W hW)) (by omega)
  rcases g2 with rfl | ⟨y3, y4, rfl⟩
  · exact exs_rt (exs_for hi g1)
  · exact exs_seq (exs_for hi g1) (exs_ret (ex_v rfl))
end
end Kk22
set_option Elab.async false
set_option linter.all false
set_option maxRecDepth 100000
set_option maxHeartbeats 4000000
namespace Kk22
open PySem L2 FD
/-! # drawn plays and weavings; the law -/
theorem tm_ex {α : Type} {m : Gh → M α} {a : α} {P : α → Prop} (h : P a) (e : EX m a) : TM m P := TM.of h e
theorem is_lst {n : Nat} {xs : List D} (hl : xs.length ≤ 1000) (h : ∀ x ∈ xs, EX (f_law_is_at n [x, x]) (.bl true)) : EX (f_law_is_at (n + 1) [.lst xs, .lst xs]) (.bl true) := by
  have t1 : isTTD "tuple" "list" (.lst xs) = some (.bl true) := by simp [isTTD, isTyD, isTyB]
  have t2 : isTyD "tuple" (.lst xs) = some (.bl false) := by simp [isTyD, isTyB]
  refine exf (N := 4) ?_
  refine exs_rt (exs_if1 (ext (ex_1 (ex_v rfl) t1)) (exs_seq (exs_if0 (ext_or0 (ext (ex_op (ex_1 (ex_v rfl) t2) (ex_1 (ex_v rfl) t2) (ne_bl false))) (ext_not (b := true) (ext (ex_1 (ex_v rfl) t1)))) exs_nx) (exs_ret (ex_and1 (ex_op (ex_call (ex_c (ex_v rfl) ex_n) rfl) (ex_call (ex_c (ex_v rfl) ex_n) rfl) (by rw [eqD_int]; simp)) ?_))))
  refine ex_call (ex_c (ex_lc (ds := xs.map fun x => D.tup [x, x]) (exi_z (ex_c (ex_v rfl) (ex_c (ex_v rfl) ex_n)) (by rw [← zip_self]; rfl)) (exc_map (F := fun _ => .bl true) fun d hd => ?_) (by simp; omega)) ex_n) ?_
  · obtain ⟨x, hx, rfl⟩ := List.mem_map.mp hd
    exact ⟨_, rfl, ex_fn (ex_c (ex_v rfl) (ex_c (ex_v rfl) ex_n)) (h x hx)⟩
  · rw [List.map_map]
    have := allD_map (fun _ : D => true) xs
    rw [show (xs.map ((fun _ => D.bl true) ∘ fun x => D.tup [x, x])) = xs.map fun _ => D.bl true from rfl, this]
    simp
theorem is_one {d : D} (h : plain 5 d = true) : EX (f_law_is [.lst [d], .lst [d]]) (.bl true) := by
  have : EX (f_law_is_at (44 + 1) [.lst [d], .lst [d]]) (.bl true) := is_lst (by simp) fun x hx => by
    rw [List.mem_singleton.mp hx]
    exact is_refl (n := 44) (plain_le 39 h)
  exact this
theorem plain_W (w : List Nat) (h : w.length ≤ 500) : plain 5 (.tup (w.map dI)) = true := by
  rw [plain_tup]
  refine ⟨by rw [List.length_map]; exact h, fun d hd => ?_⟩
  obtain ⟨i, _, rfl⟩ := List.mem_map.mp hd
  rfl
section
variable {ds : List D}
/-- one step of a standing of sweeps, by both -/
theorem step_sw {c s t : List D} (I : Inv SW ds c s t) (hs : SwI s) {i : Nat} {s0 : D} (hs0 : s[i]? = some s0) (hn : isNonB s0 = false) :
    ∃ c' s' t', StepR SW ds (stD3 c s t) i (stD3 c' s' t') ∧ Inv SW ds c' s' t' ∧ SwI s' ∧ EX (f_law_behind [thePlay (.str SW) (.tup ds), stD3 c s t, dI i]) (stD3 c' s' t') := by
  obtain ⟨ss, done, o, first, last, now, ready, x, cell, ts, P⟩ := stp_of I hs0 hn
  have e4 : first = .non ∧ last = .non ∧ ready = .non := by
    rcases hs i _ P.S.st with z | ⟨d2, n2, z⟩
    · cases z
    · obtain ⟨_, q1, q2, _, q3⟩ := stD_inj z
      exact ⟨q1, q2, q3⟩
  obtain ⟨rfl, rfl, rfl⟩ := e4
  obtain ⟨t1, t2, t3, t4⟩ := nextSW ss done o now cell x c.length
  have hsi : i < s.length := (List.getElem?_eq_some_iff.mp hs0).1
  refine ⟨_, _, _, .mk P, P.I', fun m q hm => ?_, law_behind_eq P.S⟩
  by_cases e : i = m
  · subst e
    rw [List.getElem?_set_self hsi] at hm
    cases hm
    rw [t2]; exact t4
  · rw [List.getElem?_set_ne e] at hm
    exact hs m q hm
theorem movers_eq {states : List D} (hl : states.length ≤ 500) (c t : D) : EX (f_law_movers [.tup [c, .tup states, t]]) (.lst (ableL states)) := by
  have e := enum_able (goes states) states 0 fun j d hd => by rw [Nat.zero_add]; exact goes_at hd
  have hb := able_len states
  have hb2 : ((((states.zipIdx 0).map fun q => D.tup [.int (q.2 : Nat), q.1]).filter fun d => !isNonB (sndD d)).map fstD).length ≤ 1000 := by rw [e]; exact Nat.le_trans hb (by omega)
  have ee : ableL states = (((states.zipIdx 0).map fun q => D.tup [.int (q.2 : Nat), q.1]).filter fun d => !isNonB (sndD d)).map fstD := e.symm
  rw [ee]
  refine exf (N := 3) (exs_ret (ex_lc (ds := (states.zipIdx 0).map fun q => D.tup [.int (q.2 : Nat), q.1]) (exi_e (ex_c (ex_op (ex_v rfl) ex_d rfl) ex_n) rfl) (exc_fil (p := fun d => !isNonB (sndD d)) (F := fstD) fun d hd => ?_) hb2))
  obtain ⟨q, _, rfl⟩ := List.mem_map.mp hd
  exact ⟨_, rfl, ext (ex_op (ex_v rfl) ex_d (notND_non _)), ex_v rfl⟩
def WI (ds : List D) (most : Int) (n : Nat) (ρ : List En) : Prop := ∃ (c s t : List D) (w : List Nat) (Ss : List D) (x5 x6 x7 : En),
  ρ = [.dt .hnd, .dt (thePlay (.str SW) (.tup ds)), .dt (.int most), .dt (stD3 c s t), .own (w.map dI), x5, x6, x7] ∧ Pth SW ds (firstD ds) w Ss (stD3 c s t) ∧ Inv SW ds c s t ∧ SwI s ∧ (∀ i ∈ w, i < ds.length) ∧ w.length ≤ n
theorem t_weaving (p : Ply SW ds) {most : Int} (h0 : 0 ≤ most) (h9 : most ≤ 300) : TM (f_law_some_weaving [.hnd, thePlay (.str SW) (.tup ds), .int most]) (fun d => ∃ (w : List Nat) (Ss : List D) (T : D), d = .lst (w.map dI) ∧ Pth SW ds (firstD ds) w Ss T ∧ (∀ i ∈ w, i < ds.length) ∧ w.length ≤ 300) := by
  have n5 := p.n5
  refine tf_fn (N := 8) ?_
  refine ts_ex (exs_asg (ex_fn (ex_c (ex_v rfl) ex_n) (law_begun_eq p)) rfl) ?_
  refine ts_ex exs_own ?_
  refine ts_seq (I := WI ds most 300) (ts_for (ds := rngD 0 most.toNat) (ti_rng h0 (by omega) (te_v rfl rfl)) ?_) ?_
  · refine (t_loopN (N := 300) (I := WI ds most) ?_ _ 0 _ (by rw [rng_len]; omega) ⟨_, _, _, [], _, _, _, _, rfl, .nil, first_inv p.hk p.m p.n1 p.n5, start_sw p, fun i hi => by simp at hi, Nat.le_refl _⟩).imp ?_
    · rintro d n _ hnN ⟨c, s, t, w, Ss, x5, x6, x7, rfl, h1, I, hs, hw, h2⟩
      have al := able_len s
      rw [I.s] at al
      refine ⟨_, rfl, ?_⟩
      refine ts_ex (ρ1 := [.dt .hnd, .dt (thePlay (.str SW) (.tup ds)), .dt (.int most), .dt (stD3 c s t), .own (w.map dI), .dt d, .dt (.lst (ableL s)), x7]) (exs_asg (ex_fn (ex_c (ex_v rfl) ex_n) (movers_eq (by rw [I.s]; omega) _ _)) rfl) ?_
      have cl : EX (cT (cOp gtD (cCall lenD (cC (cV 6) cN)) (cD (.int 0))) [.dt .hnd, .dt (thePlay (.str SW) (.tup ds)), .dt (.int most), .dt (stD3 c s t), .own (w.map dI), .dt d, .dt (.lst (ableL s)), x7]) (decide (0 < (ableL s).length)) := by
        refine ext (ex_op (ex_call (z := .int (((ableL s).length : Nat) : Int)) (ex_c (ex_v rfl) ex_n) rfl) ex_d ?_)
        rw [gtD_int]
        congr 2
        rw [decide_eq_decide]
        omega
      by_cases hz : 0 < (ableL s).length
      · rw [decide_eq_true hz] at cl
        refine ts_if (P := fun b => b = true) (TM.of rfl cl) (fun _ => ?_) (fun z => by cases z)
        refine ts_seq (I := fun ρ1 => ∃ e, e ∈ ableL s ∧ ρ1 = [.dt .hnd, .dt (thePlay (.str SW) (.tup ds)), .dt (.int most), .dt (stD3 c s t), .own (w.map dI), .dt d, .dt (.lst (ableL s)), .dt e]) (ts_asg (P := fun e => e ∈ ableL s) (te_op (P := fun d => d = .lst (ableL s)) (te_v rfl rfl) (te_draw (m := ((ableL s).length : Int)) (TM.of rfl (ex_call (ex_c (ex_v rfl) ex_n) rfl)) (by omega) (by omega)) ?_) ?_) ?_
        · rintro _ _ rfl ⟨v, rfl, v0, v1⟩
          have hv : v.toNat < (ableL s).length := by omega
          refine ⟨(ableL s)[v.toNat], ?_, List.getElem_mem hv⟩
          rw [ixD_lst v0, List.getElem?_eq_getElem hv]
        · intro e he
          exact ⟨_, rfl, _, rfl, e, he, rfl⟩
        rintro _ ⟨e, he, rfl⟩
        obtain ⟨m, s0, rfl, hs0, hn⟩ := mem_able he
        obtain ⟨c', s', t', st, I', hs', eb⟩ := step_sw I hs hs0 hn
        have hm : m < ds.length := by rw [← I.s]; exact (List.getElem?_eq_some_iff.mp hs0).1
        refine ts_ex (ρ1 := [.dt .hnd, .dt (thePlay (.str SW) (.tup ds)), .dt (.int most), .dt (stD3 c' s' t'), .own (w.map dI), .dt d, .dt (.lst (ableL s)), .dt (.int ((m : Nat) : Int))]) (exs_asg (ex_fn (ex_c (ex_v rfl) (ex_c (ex_v rfl) (ex_c (ex_v rfl) ex_n))) eb) rfl) ?_
        refine tm_ex ⟨_, rfl, c', s', t', w ++ [m], _, .dt d, .dt (.lst (ableL s)), .dt (.int ((m : Nat) : Int)), rfl, h1.snoc st, I', hs', fun i hi => ?_, by simp; omega⟩ ?_
        · rcases List.mem_append.mp hi with h | h
          · exact hw i h
          · rw [List.mem_singleton.mp h]; exact hm
        · have em : (w ++ [m]).map dI = w.map dI ++ [D.int ((m : Nat) : Int)] := by rw [List.map_append]; rfl
          rw [em]
          exact exs_app rfl (by rw [List.length_map]; omega) (ex_v rfl)
      · rw [decide_eq_false hz] at cl
        exact ts_if (P := fun b => b = false) (TM.of rfl cl) (fun z => by cases z) (fun _ => tm_ex ⟨_, rfl, c, s, t, w, _, _, _, _, rfl, h1, I, hs, hw, by omega⟩ exs_nx)
    · rintro f ⟨ρ2, rfl, c, s, t, w, Ss, x5, x6, x7, rfl, h1, I, hs, hw, h2⟩
      rw [rng_len] at h2
      exact ⟨_, rfl, c, s, t, w, Ss, x5, x6, x7, rfl, h1, I, hs, hw, by omega⟩
  rintro _ ⟨c, s, t, w, Ss, x5, x6, x7, rfl, h1, I, hs, hw, h2⟩
  exact ts_frz rfl (ts_ret (te_of (a := .lst (w.map dI)) (P := fun d => ∃ (w : List Nat) (Ss : List D) (T : D), d = .lst (w.map dI) ∧ Pth SW ds (firstD ds) w Ss T ∧ (∀ i ∈ w, i < ds.length) ∧ w.length ≤ 300) (fun g => rfl) ⟨w, Ss, _, rfl, h1, hw, h2⟩) fun x hx => ⟨x, rfl, hx⟩)
end
end Kk22
set_option Elab.async false
set_option linter.all false
set_option maxRecDepth 100000
set_option maxHeartbeats 4000000
namespace Kk22
open PySem L2 FD
theorem ti_nat {ρ : List En} {a : FE} {lo hi : Nat} (ha : TM (a ρ) (fun d => ∃ k : Nat, d = .int (k : Nat) ∧ lo ≤ k ∧ k ≤ hi)) (hh : hi ≤ 1000) : TM (iR1 (cC a cN) ρ) (fun xs => ∃ k : Nat, xs = rngD 0 k ∧ lo ≤ k ∧ k ≤ hi) := by
  show TM (fun g => (cC a cN ρ g).bd _) _
  refine TM.bd (fa_c ha fa_n) fun xs hx => ?_
  obtain ⟨_, rfl, k, rfl, k0, k1⟩ := fit1 hx
  refine TM.of ⟨k, rfl, k0, k1⟩ fun g => ?_
  rw [rng1_nat (by omega)]; rfl
theorem te_lcR {fi : FI} {vs : List Nat} {gs : FG} {ft : FT} {fe : FE} {ρ : List En} {R0 : List D → Prop} {Q : D → Prop} (hi : TM (fi ρ) R0) (hc : ∀ ds, R0 ds → TM (compD gs ft fe ds (blkE ρ vs)) (fun ys => ys.length ≤ 1000 ∧ Q (.lst ys))) : TM (cLc fi vs gs ft fe ρ) Q := by
  show TM (fun g => (fi ρ g).bd _) Q
  refine TM.bd hi fun xs hx => ?_
  show TM (fun g => (compD gs ft fe xs (blkE ρ vs) g).bd _) Q
  exact TM.bd (hc xs hx) fun ys hy => TM.of hy.2 fun g => if_pos hy.1
/-- lo + a drawn number below m -/
theorem te_plus {ρ : List En} {lo : Nat} {m : Int} {j : Nat} (h0 : 0 < m := by decide) (h1 : m < 900 := by decide) (hj : ρ[j]? = some (.dt .hnd) := by rfl) : TM (cOp addD (cD (.int (lo : Nat))) (cFn 2 f_law_draw (cC (cV j) (cC (cD (.int m)) cN))) ρ) (fun d => ∃ k : Nat, d = .int (k : Nat) ∧ lo ≤ k ∧ (k : Int) < lo + m) := by
  refine te_op (P := fun d => d = .int (lo : Nat)) (te_d rfl) (te_drawK (m := m) h0 (by omega) hj) ?_
  rintro _ _ rfl ⟨v, rfl, v0, v1⟩
  exact ⟨.int ((lo + v.toNat : Nat) : Int), by show some (D.int (((lo : Nat) : Int) + v)) = _; congr 2; omega, lo + v.toNat, rfl, by omega, by omega⟩
theorem put_deed {v : Int} (v0 : 0 ≤ v) (v1 : v ≤ 999) : Deed (.tup [.str "put", .int v]) := by
  have a : isW ["put"] (.str "put") = true := by decide +kernel
  have b : inR 0 999 (.int v) = true := by simp [inR]; omega
  refine ⟨by simp [deedB, a, b], ?_⟩
  refine fine_tup.mpr ⟨by simp, fun y hy => ?_⟩
  simp only [List.mem_cons, List.not_mem_nil, or_false] at hy
  rcases hy with rfl | rfl
  · decide +kernel
  · rfl
theorem row_script {ys : List D} (h : ∀ y ∈ ys, Deed y) (hl : ys.length ≤ 6) : Script (.tup ys) := by
  refine ⟨?_, fine_tup.mpr ⟨by omega, fun y hy => (h y hy).2⟩⟩
  show (decide (ys.length ≤ 6) && ys.all deedB) = true
  rw [decide_eq_true hl, List.all_eq_true.mpr fun y hy => (h y hy).1]
  rfl
abbrev envM (x2 x3 x4 x5 x6 x7 x8 x9 x10 : En) : List En := [.un, .dt .hnd, x2, x3, x4, x5, x6, x7, x8, x9, x10, .un]
noncomputable abbrev bodyR : FS := (sSeq (sAsg (cLst (cC (cTup (cC (cD (.str "see")) cN)) (cC (cTup (cC (cD (.str "put")) (cC (cFn 2 f_law_draw (cC (cV 1) (cC (cD (.int 4)) cN))) cN))) cN))) (gN 9)) (sSeq (sAsg (cLc (iR1 (cC (cOp addD (cD (.int 1)) (cFn 2 f_law_draw (cC (cV 1) (cC (cD (.int 3)) cN)))) cN)) [11] (gN 11) tY (cOp ixD (cV 9) (cFn 2 f_law_draw (cC (cV 1) (cC (cD (.int 2)) cN))))) (gN 10)) (sApp 4 (cCall tupleD (cC (cV 10) cN)))))
theorem t_row {x2 x3 x5 x6 x7 x8 x9 x10 : En} {ys : List D} (hl : ys.length ≤ 10) (hy : ∀ y ∈ ys, Script y) : TM (bodyR (envM x2 x3 (.own ys) x5 x6 x7 x8 x9 x10)) (fun f => ∃ (y : D) (y9 y10 : En), Script y ∧ f = .nx (envM x2 x3 (.own (ys ++ [y])) x5 x6 x7 x8 y9 y10)) := by
  refine ts_seq (I := fun ρ1 => ∃ v : Int, 0 ≤ v ∧ v < 4 ∧ ρ1 = envM x2 x3 (.own ys) x5 x6 x7 x8 (.dt (.lst [.tup [.str "see"], .tup [.str "put", .int v]])) x10) (ts_asg (P := fun d => ∃ v : Int, 0 ≤ v ∧ v < 4 ∧ d = .lst [.tup [.str "see"], .tup [.str "put", .int v]]) (te_lst (fa_c (P := fun d => d = .tup [.str "see"]) (tm_ex rfl (ex_tup (ex_c ex_d ex_n))) (fa_c (P := fun d => ∃ v : Int, 0 ≤ v ∧ v < 4 ∧ d = .tup [.str "put", .int v]) (te_tup (fa_c (P := fun d => d = .str "put") (te_d rfl) (fa_c te_drawK fa_n)) fun xs hx => ?_) fa_n)) fun xs hx => ?_) fun d hd => ?_) ?_
  · obtain ⟨_, _, rfl, rfl, v, rfl, v0, v1⟩ := fit2 hx
    exact ⟨by simp, v, v0, v1, rfl⟩
  · obtain ⟨_, _, rfl, rfl, v, v0, v1, rfl⟩ := fit2 hx
    exact ⟨by simp, v, v0, v1, rfl⟩
  · obtain ⟨v, v0, v1, rfl⟩ := hd
    exact ⟨_, rfl, _, rfl, v, v0, v1, rfl⟩
  rintro _ ⟨v, v0, v1, rfl⟩
  refine ts_seq (I := fun ρ1 => ∃ zs : List D, zs.length ≤ 6 ∧ (∀ z ∈ zs, Deed z) ∧ ρ1 = envM x2 x3 (.own ys) x5 x6 x7 x8 (.dt (.lst [.tup [.str "see"], .tup [.str "put", .int v]])) (.dt (.lst zs))) (ts_asg (P := fun d => ∃ zs : List D, zs.length ≤ 6 ∧ (∀ z ∈ zs, Deed z) ∧ d = .lst zs) (te_lcR (R0 := fun xs => ∃ k : Nat, xs = rngD 0 k ∧ 1 ≤ k ∧ k ≤ 3) (ti_nat ((te_plus (lo := 1) (m := 3)).imp ?_) (by decide)) ?_) fun d hd => ?_) ?_
  · rintro _ ⟨k, rfl, k0, k1⟩
    exact ⟨k, rfl, k0, by omega⟩
  · rintro _ ⟨k, rfl, k0, k1⟩
    refine TM.imp (P := fun zs : List D => zs.length = (rngD 0 k).length ∧ ∀ y ∈ zs, Deed y) (t_comp (P := Deed) fun d hd => ⟨_, rfl, ?_⟩) ?_
    · refine te_op (P := fun d => d = .lst [.tup [.str "see"], .tup [.str "put", .int v]]) (te_v rfl rfl) (te_drawK (m := 2)) ?_
      rintro _ _ rfl ⟨u, rfl, u0, u1⟩
      rcases (by omega : u = 0 ∨ u = 1) with rfl | rfl
      · exact ⟨_, rfl, see_deed⟩
      · exact ⟨_, rfl, put_deed v0 (by omega)⟩
    · rintro zs ⟨zl, hz⟩
      rw [rng_len] at zl
      exact ⟨by omega, zs, by omega, hz, rfl⟩
  · obtain ⟨zs, z1, z2, rfl⟩ := hd
    exact ⟨_, rfl, _, rfl, zs, z1, z2, rfl⟩
  rintro _ ⟨zs, z1, z2, rfl⟩
  exact tm_ex ⟨.tup zs, _, _, row_script z2 z1, rfl⟩ (exs_app rfl (by omega) (ex_call (ex_c (ex_v rfl) ex_n) rfl))
noncomputable abbrev bodyM : FS := (sSeq (sAsg (cOp addD (cD (.int 3)) (cCall intOf (cC (cOp eqD (cFn 2 f_law_draw (cC (cV 1) (cC (cD (.int 4)) cN))) (cD (.int 0))) cN))) (gN 3)) (sSeq (sOwn 4) (sSeq (sFor (iR1 (cC (cV 3) cN)) (gN 5) bodyR) (sFrz 4 (sSeq (sAsg (cFn 2 f_Play (cC (cD (.str "sweep")) (cC (cCall tupleD (cC (cV 4) cN)) cN))) (gN 6)) (sSeq (sAsg (cFn 3 f_law_some_weaving (cC (cV 1) (cC (cV 6) (cC (cOp addD (cD (.int 6)) (cFn 2 f_law_draw (cC (cV 1) (cC (cD (.int 16)) cN)))) cN)))) (gN 7)) (sSeq (sAsg (cD (.str "notwrong")) (gN 8)) (sSeq (sIf (cT (cOp isBlD (cFn 2 f_law_wrong (cC (cV 6) (cC (cV 7) cN))) (cD (.bl true)))) (sSeq (sAsg (cFn 2 f_law_shrunk (cC (cV 6) (cC (cV 7) cN))) (gN 8)) (sIf (cNot (cT (cFn 2 f_law_flag (cC (cFn 2 f_is_wrong (cC (cV 6) (cC (cV 8) cN))) (cC (cD (.bl true)) cN))))) (sRet (cD (.bl false))) sNx)) sNx) (sIf (cNot (cT (cFn 2 f_law_is (cC (cLst (cC (cFn 2 f_law_told (cC (cV 6) (cC (cV 7) cN))) cN)) (cC (cLst (cC (cV 8) cN)) cN))))) (sRet (cD (.bl false))) sNx)))))))))
/-- one turn, behind the draws -/
theorem turn_ok {ds : List D} (p : Ply SW ds) {w : List Nat} {Ss : List D} {T : D} (hw : Rightw ds w) (h : Pth SW ds (firstD ds) w Ss T) (x2 x3 x4 x5 x9 x10 : En) :
    ∃ y8 : En, EX ((sSeq (sIf (cT (cOp isBlD (cFn 2 f_law_wrong (cC (cV 6) (cC (cV 7) cN))) (cD (.bl true)))) (sSeq (sAsg (cFn 2 f_law_shrunk (cC (cV 6) (cC (cV 7) cN))) (gN 8)) (sIf (cNot (cT (cFn 2 f_law_flag (cC (cFn 2 f_is_wrong (cC (cV 6) (cC (cV 8) cN))) (cC (cD (.bl true)) cN))))) (sRet (cD (.bl false))) sNx)) sNx) (sIf (cNot (cT (cFn 2 f_law_is (cC (cLst (cC (cFn 2 f_law_told (cC (cV 6) (cC (cV 7) cN))) cN)) (cC (cLst (cC (cV 8) cN)) cN))))) (sRet (cD (.bl false))) sNx)) (envM x2 x3 x4 x5 (.dt (thePlay (.str SW) (.tup ds))) (.dt (.lst (w.map dI))) (.dt (.str "notwrong")) x9 x10))
      (.nx (envM x2 x3 x4 x5 (.dt (thePlay (.str SW) (.tup ds))) (.dt (.lst (w.map dI))) y8 x9 x10)) := by
  have hs := (wr_spec p hw).1 ⟨Ss, T, h⟩
  have lt := law_told_eq p hw (W := .lst (w.map dI)) (.inr rfl) hs
  have lb := law_bad p hw (W := .lst (w.map dI)) (.inr rfl) (ρ := envM x2 x3 x4 x5 (.dt (thePlay (.str SW) (.tup ds))) (.dt (.lst (w.map dI))) (.dt (.str "notwrong")) x9 x10) (a := cC (cV 6) (cC (cV 7) cN)) (ex_c (ex_v rfl) (ex_c (ex_v rfl) ex_n))
  have fin : ∀ (y8 : D), plain 5 y8 = true → EX (f_law_told [thePlay (.str SW) (.tup ds), .lst (w.map dI)]) y8 → EX (sIf (cNot (cT (cFn 2 f_law_is (cC (cLst (cC (cFn 2 f_law_told (cC (cV 6) (cC (cV 7) cN))) cN)) (cC (cLst (cC (cV 8) cN)) cN))))) (sRet (cD (.bl false))) sNx (envM x2 x3 x4 x5 (.dt (thePlay (.str SW) (.tup ds))) (.dt (.lst (w.map dI))) (.dt y8) x9 x10)) (.nx (envM x2 x3 x4 x5 (.dt (thePlay (.str SW) (.tup ds))) (.dt (.lst (w.map dI))) (.dt y8) x9 x10)) := fun y8 hp ht =>
    exs_if0 (ext_not (b := true) (ext (ex_fn (ex_c (ex_lst (ex_c (ex_fn (ex_c (ex_v rfl) (ex_c (ex_v rfl) ex_n)) ht) ex_n)) (ex_c (ex_lst (ex_c (ex_v rfl) ex_n)) ex_n)) (is_one hp)))) exs_nx
  cases hb : bad ds w with
  | false =>
    rw [hb] at lb lt
    rw [if_neg (by decide)] at lt
    exact ⟨_, exs_seq (exs_if0 lb exs_nx) (fin (.str "notwrong") (okS (by decide +kernel)) lt)⟩
  | true =>
    rw [hb] at lb lt
    rw [if_pos rfl] at lt
    obtain ⟨q1, q2, q3⟩ := shr_in (bad := bad ds) w.length w hb
    have hr : Rightw ds (shr (bad ds) w.length w) := ⟨fun i hi => hw.1 i (q3 i hi), Nat.le_trans q2 hw.2⟩
    have e1 : wr ds (shr (bad ds) w.length w) = some true := by
      unfold bad at q1
      exact eq_of_beq q1
    have iw := ((wr_spec p hr).2 (.tup ((shr (bad ds) w.length w).map dI)) (.inl rfl)).2
    rw [e1] at iw
    have pl := plain_W (shr (bad ds) w.length w) (by have := hr.2; omega)
    have fl : EX (f_law_flag [.bl true, .bl true]) (.bl true) := exf (N := 2) (exs_ret (ex_and1 (ex_1 (ex_v rfl) rfl) (ex_op (ex_v rfl) (ex_v rfl) (eq_bl true))))
    exact ⟨_, exs_seq (exs_if1 lb (exs_seq (exs_asg (ex_fn (ex_c (ex_v rfl) (ex_c (ex_v rfl) ex_n)) (law_shrunk_eq p hw (.inr rfl))) rfl) (exs_if0 (ext_not (b := true) (ext (ex_fn (ex_c (ex_fn (ex_c (ex_v rfl) (ex_c (ex_v rfl) ex_n)) iw) (ex_c ex_d ex_n)) fl))) exs_nx))) (fin _ pl lt)⟩
theorem t_turn (x2 x3 x4 x5 x6 x7 x8 x9 x10 : En) : TM (bodyM (envM x2 x3 x4 x5 x6 x7 x8 x9 x10)) (fun f => ∃ ρ2, f = .nx ρ2 ∧ ∃ y2 y3 y4 y5 y6 y7 y8 y9 y10, ρ2 = envM y2 y3 y4 y5 y6 y7 y8 y9 y10) := by
  refine ts_seq (I := fun ρ1 => ∃ n : Nat, 3 ≤ n ∧ n ≤ 4 ∧ ρ1 = envM x2 (.dt (.int (n : Nat))) x4 x5 x6 x7 x8 x9 x10) (ts_asg (P := fun d => ∃ n : Nat, 3 ≤ n ∧ n ≤ 4 ∧ d = .int (n : Nat)) (te_op (P := fun d => d = .int 3) (te_d rfl) (te_call (R := fun xs => ∃ b : Bool, xs = [.bl b]) ((fa_c (te_op (Q := fun d => ∃ b : Bool, d = .bl b) (te_drawK (m := 4)) (te_d (P := fun d => d = .int 0) rfl) ?_) fa_n).imp ?_) (Q := fun d => d = .int 0 ∨ d = .int 1) ?_) ?_) fun d hd => ?_) ?_
  · rintro _ _ ⟨v, rfl, _, _⟩ rfl
    exact ⟨_, eqD_int _ _, _, rfl⟩
  · intro xs hx
    obtain ⟨_, rfl, b, rfl⟩ := fit1 hx
    exact ⟨b, rfl⟩
  · rintro _ ⟨b, rfl⟩
    cases b with
    | true => exact ⟨_, rfl, .inr rfl⟩
    | false => exact ⟨_, rfl, .inl rfl⟩
  · rintro _ _ rfl h
    rcases h with rfl | rfl
    · exact ⟨_, rfl, 3, by decide, by decide, rfl⟩
    · exact ⟨_, rfl, 4, by decide, by decide, rfl⟩
  · obtain ⟨n, n0, n1, rfl⟩ := hd
    exact ⟨_, rfl, _, rfl, n, n0, n1, rfl⟩
  rintro _ ⟨n, n0, n1, rfl⟩
  refine ts_ex (ρ1 := envM x2 (.dt (.int (n : Nat))) (.own []) x5 x6 x7 x8 x9 x10) exs_own ?_
  refine ts_seq (I := fun ρ1 => ∃ (ys : List D) (y5 y9 y10 : En), Menu n Script ys ∧ ρ1 = envM x2 (.dt (.int (n : Nat))) (.own ys) y5 x6 x7 x8 y9 y10) (ts_for (ds := rngD 0 n) (TM.of rfl (exi_r (ex_v rfl) (by omega))) ?_) ?_
  · refine (t_loopN (N := n) (I := fun q ρ => ∃ (ys : List D) (y5 y9 y10 : En), Menu q Script ys ∧ ρ = envM x2 (.dt (.int (n : Nat))) (.own ys) y5 x6 x7 x8 y9 y10) (fun d q ρ hq hρ => ?_) (rngD 0 n) 0 _ (by rw [rng_len]; omega) ⟨[], _, _, _, ⟨rfl, by simp⟩, rfl⟩).imp ?_
    · obtain ⟨ys, y5, y9, y10, hm, rfl⟩ := hρ
      refine ⟨_, rfl, (t_row (by rw [hm.1]; omega) hm.2).imp ?_⟩
      rintro f ⟨y, z9, z10, hy, rfl⟩
      refine ⟨_, rfl, ys ++ [y], _, z9, z10, ⟨by simp [hm.1], fun z hz => ?_⟩, rfl⟩
      rcases List.mem_append.mp hz with h | h
      · exact hm.2 z h
      · rw [List.mem_singleton.mp h]; exact hy
    · rintro f ⟨ρ2, rfl, ys, y5, y9, y10, hm, rfl⟩
      rw [rng_len, Nat.zero_add] at hm
      exact ⟨_, rfl, ys, y5, y9, y10, hm, rfl⟩
  rintro _ ⟨ys, y5, y9, y10, hm, rfl⟩
  refine ts_frz rfl ?_
  have p : Ply SW ys := ⟨SWm, by rw [hm.1]; omega, by rw [hm.1]; omega, by rw [hm.1]; exact hm⟩
  refine ts_ex (ρ1 := envM x2 (.dt (.int (n : Nat))) (.dt (.lst ys)) y5 (.dt (thePlay (.str SW) (.tup ys))) x7 x8 y9 y10) (exs_asg (ex_fn (ex_c ex_d (ex_c (ex_call (ex_c (ex_v rfl) ex_n) rfl) ex_n)) (play_man SWm hm (by omega) (by omega))) rfl) ?_
  refine ts_seq (I := fun ρ1 => ∃ (w : List Nat) (Ss : List D) (T : D), Pth SW ys (firstD ys) w Ss T ∧ Rightw ys w ∧ ρ1 = envM x2 (.dt (.int (n : Nat))) (.dt (.lst ys)) y5 (.dt (thePlay (.str SW) (.tup ys))) (.dt (.lst (w.map dI))) x8 y9 y10) (ts_asg (P := fun d => ∃ (w : List Nat) (Ss : List D) (T : D), d = .lst (w.map dI) ∧ Pth SW ys (firstD ys) w Ss T ∧ (∀ i ∈ w, i < ys.length) ∧ w.length ≤ 300) (te_fn (fa_c (P := fun d => d = .hnd) (te_v rfl rfl) (fa_c (P := fun d => d = thePlay (.str SW) (.tup ys)) (te_v rfl rfl) (fa_c (te_plus (lo := 6) (m := 16)) fa_n))) fun xs hx => ?_) fun d hd => ?_) ?_
  · obtain ⟨_, _, _, rfl, rfl, rfl, k, rfl, k0, k1⟩ := fit3 hx
    exact ⟨rfl, t_weaving p (by omega) (by omega)⟩
  · obtain ⟨w, Ss, T, rfl, h1, h2, h3⟩ := hd
    exact ⟨_, rfl, _, rfl, w, Ss, T, h1, ⟨h2, by omega⟩, rfl⟩
  rintro _ ⟨w, Ss, T, h1, hw, rfl⟩
  refine ts_ex (ρ1 := envM x2 (.dt (.int (n : Nat))) (.dt (.lst ys)) y5 (.dt (thePlay (.str SW) (.tup ys))) (.dt (.lst (w.map dI))) (.dt (.str "notwrong")) y9 y10) (exs_asg ex_d rfl) ?_
  obtain ⟨y8, e⟩ := turn_ok p hw h1 x2 (.dt (.int (n : Nat))) (.dt (.lst ys)) y5 y9 y10
  exact tm_ex ⟨_, rfl, _, _, _, _, _, _, _, _, _, rfl⟩ e
theorem t_law : TM (b_law [.un, .dt .hnd, .un, .un, .un, .un, .un, .un, .un, .un, .un, .un]) (fun f => f = .rt (.bl true)) := by
  refine ts_seq (I := fun _ => True) (ts_for (ds := rngD 0 3) (ti_rng (j := 3) (by decide) (by decide) (te_d rfl)) ?_) fun ρ1 _ => tm_ex rfl (exs_ret ex_d)
  refine (t_loopN (N := 3) (I := fun _ ρ => ∃ y2 y3 y4 y5 y6 y7 y8 y9 y10, ρ = envM y2 y3 y4 y5 y6 y7 y8 y9 y10) (fun d q ρ hq hρ => ?_) (rngD 0 3) 0 _ (by rw [rng_len]; omega) ⟨_, _, _, _, _, _, _, _, _, rfl⟩).imp ?_
  · obtain ⟨y2, y3, y4, y5, y6, y7, y8, y9, y10, rfl⟩ := hρ
    exact ⟨_, rfl, t_turn _ _ _ _ _ _ _ _ _⟩
  · rintro f ⟨ρ2, rfl, _⟩
    exact ⟨_, rfl, trivial⟩
theorem main (ns : List Int) (h : ns.length ≤ 63) : ∃ g, b_law (.un :: .dt .hnd :: List.replicate 10 .un) (g0 ns) = some (.ok (.rt (.bl true)) g) := by
  obtain ⟨_, g, e, rfl, _⟩ := t_law (g0 ns) ⟨by simp [g0], by simp [g0]; omega, by simp [g0]; omega⟩
  exact ⟨g, e⟩
end Kk22
set_option Elab.async false
set_option linter.all false
set_option maxRecDepth 100000
set_option maxHeartbeats 0
namespace Kk22
open PySem PySem.Spec PyProof.Rows L2 FD
theorem facts {P : Program} {w : World} {K : PySem.W.Frag} {h : Heap} {mg : Str → Option Value} {f : Addr} (X : K.In h) (G : h.Ns mainGlobals mg) (hfa : mg ("law" : Str) = some (.ref f)) (c : He.SaysD fas fns K) (e : ex K = true) :
    ∃ fd : FuncData, (∀ (s : Shared) (v : Value), BindsTo s fd ⟨[v], []⟩ [("_law_script", v)]) ∧ ∀ base : Heap, K.In base → base.Ns mainGlobals mg → FnOk P w K mg base CX0 46 f fd ["_law_script"] (spLaw K) := by
  obtain ⟨fd, F_law⟩ := c.def_ 61 (d := D_law) rfl
  have e0 := hfa.symm.trans (He.glo_ok X G (c.fact 84 (f := .glo "law") rfl))
  cases e0
  have bl := FunD.bindsA (ps := ["_law_script"]) F_law (fun _ _ _ _ _ _ us hl => match us, hl with | [_], _ => rfl)
  refine ⟨fd, fun s v => bl s [v] rfl, fun base _ _ => ?_⟩
  obtain ⟨fd_BadPlay, F_BadPlay⟩ := c.def_ 0 (d := D_BadPlay_init) rfl
  have b_BadPlay : Binds K fd_BadPlay ["self", "part"] [] := FunD.bindsN F_BadPlay (fun _ _ _ _ _ _ us hl => match us, hl with | [_, _], _ => rfl)
  obtain ⟨fd_NoWeaving, F_NoWeaving⟩ := c.def_ 1 (d := D_NoWeaving_init) rfl
  have b_NoWeaving : Binds K fd_NoWeaving ["self", "index"] [] := FunD.bindsN F_NoWeaving (fun _ _ _ _ _ _ us hl => match us, hl with | [_, _], _ => rfl)
  obtain ⟨fd_NotWrong, F_NotWrong⟩ := c.def_ 2 (d := D_NotWrong_init) rfl
  have b_NotWrong : Binds K fd_NotWrong ["self"] [] := FunD.bindsN F_NotWrong (fun _ _ _ _ _ _ us hl => match us, hl with | [_], _ => rfl)
  have hmP : mg "Play" = some (.ref (He.ga K "Play")) := He.glo_ok X G (c.fact 22 (f := .glo "Play") rfl)
  have clP : Cls K (He.ga K "Play") := He.cls_ok (c.fact 23 (f := .cls "Play") rfl)
  have T : Txt P w K mg base := {
      b_ValueError := He.free_ok X G (c.fact 0 (f := .free "ValueError") rfl)
      b_abs := He.free_ok X G (c.fact 1 (f := .free "abs") rfl)
      b_all := He.free_ok X G (c.fact 2 (f := .free "all") rfl)
      b_bool := He.free_ok X G (c.fact 3 (f := .free "bool") rfl)
      b_enumerate := He.free_ok X G (c.fact 4 (f := .free "enumerate") rfl)
      b_int := He.free_ok X G (c.fact 5 (f := .free "int") rfl)
      b_isinstance := He.free_ok X G (c.fact 6 (f := .free "isinstance") rfl)
      b_len := He.free_ok X G (c.fact 7 (f := .free "len") rfl)
      b_list := He.free_ok X G (c.fact 8 (f := .free "list") rfl)
      b_range := He.free_ok X G (c.fact 9 (f := .free "range") rfl)
      b_set := He.free_ok X G (c.fact 10 (f := .free "set") rfl)
      b_sorted := He.free_ok X G (c.fact 11 (f := .free "sorted") rfl)
      b_str := He.free_ok X G (c.fact 12 (f := .free "str") rfl)
      b_tuple := He.free_ok X G (c.fact 13 (f := .free "tuple") rfl)
      b_type := He.free_ok X G (c.fact 14 (f := .free "type") rfl)
      b_zip := He.free_ok X G (c.fact 15 (f := .free "zip") rfl)
      c_FIRST_CELL := cgB_ok (dvs := [(.int 0), (.int 0), .non]) X G (ex_at 0 e) (fun C S => (.cons (.int _) (.cons (.int _) (.cons .non .nil))))
      c_KINDS := ctB_ok (zs := ["sweep", "twice", "borrow", "levels", "names", "near", "chain"]) X G (ex_at 1 e)
      c_LOT_LIMIT := ciOk X G (c.fact 16 (f := .int "LOT_LIMIT" 20) rfl)
      c_MANNERS := ctB_ok (zs := ["sweep", "twice", "borrow"]) X G (ex_at 2 e)
      c_MOST_DEEDS := ciOk X G (c.fact 17 (f := .int "MOST_DEEDS" 6) rfl)
      c_MOST_HANDS := ciOk X G (c.fact 18 (f := .int "MOST_HANDS" 5) rfl)
      c_MOST_ROUNDS := ciOk X G (c.fact 19 (f := .int "MOST_ROUNDS" 6) rfl)
      c_NEAR_MOST := ciOk X G (c.fact 20 (f := .int "NEAR_MOST" 1000) rfl)
      c_NUMBER_LIMIT := ciOk X G (c.fact 21 (f := .int "NUMBER_LIMIT" 1000) rfl)
      x_BadPlay := excB_ok X G (ex_at 3 e) (fun TC => exc_init (fun_of (st := s_BadPlay_exc) F_BadPlay) TC (excB_no (ex_at 3 e)) sc_BadPlay_exc rfl rfl rfl (by decide) (by decide)) b_BadPlay
      x_NoWeaving := excB_ok X G (ex_at 4 e) (fun TC => exc_init (fun_of (st := s_NoWeaving_exc) F_NoWeaving) TC (excB_no (ex_at 4 e)) sc_NoWeaving_exc rfl rfl rfl (by decide) (by decide)) b_NoWeaving
      s_NotWrong_PictureError := excSubB_ok X G (ex_at 5 e)
      x_NotWrong := excB0_ok X G (ex_at 6 e) (exc_init0 (fun_of (st := s_NotWrong_exc) F_NotWrong) sc_NotWrong_exc rfl) b_NotWrong
      play := fun C h => (by cases hmP.symm.trans h; exact clsIB_ok clP (ex_at 7 e))
      play_kind := fun C h => (by cases hmP.symm.trans h; exact He.noat_ok (c.fact 24 (f := .noat "Play" "kind") rfl))
      play_inputs := fun C h => (by cases hmP.symm.trans h; exact He.noat_ok (c.fact 25 (f := .noat "Play" "inputs") rfl))
    }
  obtain ⟨fd_many_hands, F_many_hands⟩ := c.def_ 3 (d := D_many_hands) rfl
  have A_many_hands : DefAt K mg "many_hands" s_many_hands ["play"] := ⟨_, fd_many_hands, fun_of F_many_hands, He.glo_ok X G (c.fact 26 (f := .glo "many_hands") rfl), FunD.bindsN F_many_hands (fun _ _ _ _ _ _ us hl => match us, hl with | [_], _ => rfl)⟩
  have d_many_hands := d_many_hands (w := w) (base := base) T A_many_hands 
  obtain ⟨fd_state_ahead, F_state_ahead⟩ := c.def_ 4 (d := D_state_ahead) rfl
  have A_state_ahead : DefAt K mg "state_ahead" s_state_ahead ["script", "done"] := ⟨_, fd_state_ahead, fun_of F_state_ahead, He.glo_ok X G (c.fact 27 (f := .glo "state_ahead") rfl), FunD.bindsN F_state_ahead (fun _ _ _ _ _ _ us hl => match us, hl with | [_, _], _ => rfl)⟩
  have d_state_ahead := d_state_ahead (w := w) (base := base) T A_state_ahead 
  obtain ⟨fd_first_in_manner, F_first_in_manner⟩ := c.def_ 5 (d := D_first_in_manner) rfl
  have A_first_in_manner : DefAt K mg "first_in_manner" s_first_in_manner ["play", "hand"] := ⟨_, fd_first_in_manner, fun_of F_first_in_manner, He.glo_ok X G (c.fact 28 (f := .glo "first_in_manner") rfl), FunD.bindsN F_first_in_manner (fun _ _ _ _ _ _ us hl => match us, hl with | [_, _], _ => rfl)⟩
  have d_first_in_manner := d_first_in_manner (w := w) (base := base) T A_first_in_manner d_state_ahead
  obtain ⟨fd_first_of_hand, F_first_of_hand⟩ := c.def_ 6 (d := D_first_of_hand) rfl
  have A_first_of_hand : DefAt K mg "first_of_hand" s_first_of_hand ["play", "hand"] := ⟨_, fd_first_of_hand, fun_of F_first_of_hand, He.glo_ok X G (c.fact 29 (f := .glo "first_of_hand") rfl), FunD.bindsN F_first_of_hand (fun _ _ _ _ _ _ us hl => match us, hl with | [_, _], _ => rfl)⟩
  have d_first_of_hand := d_first_of_hand (w := w) (base := base) T A_first_of_hand d_first_in_manner
  obtain ⟨fd_first_standing, F_first_standing⟩ := c.def_ 7 (d := D_first_standing) rfl
  have A_first_standing : DefAt K mg "first_standing" s_first_standing ["play"] := ⟨_, fd_first_standing, fun_of F_first_standing, He.glo_ok X G (c.fact 30 (f := .glo "first_standing") rfl), FunD.bindsN F_first_standing (fun _ _ _ _ _ _ us hl => match us, hl with | [_], _ => rfl)⟩
  have d_first_standing := d_first_standing (w := w) (base := base) T A_first_standing d_many_hands d_first_of_hand
  obtain ⟨fd_is_whole, F_is_whole⟩ := c.def_ 8 (d := D_is_whole) rfl
  have A_is_whole : DefAt K mg "is_whole" s_is_whole ["thing"] := ⟨_, fd_is_whole, fun_of F_is_whole, He.glo_ok X G (c.fact 31 (f := .glo "is_whole") rfl), FunD.bindsN F_is_whole (fun _ _ _ _ _ _ us hl => match us, hl with | [_], _ => rfl)⟩
  have d_is_whole := d_is_whole (w := w) (base := base) T A_is_whole 
  obtain ⟨fd_is_whole_within, F_is_whole_within⟩ := c.def_ 9 (d := D_is_whole_within) rfl
  have A_is_whole_within : DefAt K mg "is_whole_within" s_is_whole_within ["least", "most", "thing"] := ⟨_, fd_is_whole_within, fun_of F_is_whole_within, He.glo_ok X G (c.fact 32 (f := .glo "is_whole_within") rfl), FunD.bindsN F_is_whole_within (fun _ _ _ _ _ _ us hl => match us, hl with | [_, _, _], _ => rfl)⟩
  have d_is_whole_within := d_is_whole_within (w := w) (base := base) T A_is_whole_within d_is_whole
  obtain ⟨fd_is_number_below, F_is_number_below⟩ := c.def_ 10 (d := D_is_number_below) rfl
  have A_is_number_below : DefAt K mg "is_number_below" s_is_number_below ["limit", "thing"] := ⟨_, fd_is_number_below, fun_of F_is_number_below, He.glo_ok X G (c.fact 33 (f := .glo "is_number_below") rfl), FunD.bindsN F_is_number_below (fun _ _ _ _ _ _ us hl => match us, hl with | [_, _], _ => rfl)⟩
  have d_is_number_below := d_is_number_below (w := w) (base := base) T A_is_number_below d_is_whole_within
  obtain ⟨fd_is_hand, F_is_hand⟩ := c.def_ 11 (d := D_is_hand) rfl
  have A_is_hand : DefAt K mg "is_hand" s_is_hand ["play", "thing"] := ⟨_, fd_is_hand, fun_of F_is_hand, He.glo_ok X G (c.fact 34 (f := .glo "is_hand") rfl), FunD.bindsN F_is_hand (fun _ _ _ _ _ _ us hl => match us, hl with | [_, _], _ => rfl)⟩
  have d_is_hand := d_is_hand (w := w) (base := base) T A_is_hand d_many_hands d_is_number_below
  obtain ⟨fd_puts_next, F_puts_next⟩ := c.def_ 12 (d := D_puts_next) rfl
  have A_puts_next : DefAt K mg "puts_next" s_puts_next ["play", "hand", "state"] := ⟨_, fd_puts_next, fun_of F_puts_next, He.glo_ok X G (c.fact 35 (f := .glo "puts_next") rfl), FunD.bindsN F_puts_next (fun _ _ _ _ _ _ us hl => match us, hl with | [_, _, _], _ => rfl)⟩
  have d_puts_next := d_puts_next (w := w) (base := base) T A_puts_next 
  obtain ⟨fd_behind_put, F_behind_put⟩ := c.def_ 13 (d := D_behind_put) rfl
  have A_behind_put : DefAt K mg "behind_put" s_behind_put ["script", "cell", "state"] := ⟨_, fd_behind_put, fun_of F_behind_put, He.glo_ok X G (c.fact 36 (f := .glo "behind_put") rfl), FunD.bindsN F_behind_put (fun _ _ _ _ _ _ us hl => match us, hl with | [_, _, _], _ => rfl)⟩
  have d_behind_put := d_behind_put (w := w) (base := base) T A_behind_put d_state_ahead
  obtain ⟨fd_behind_picture, F_behind_picture⟩ := c.def_ 14 (d := D_behind_picture) rfl
  have A_behind_picture : DefAt K mg "behind_picture" s_behind_picture ["script", "done", "picture"] := ⟨_, fd_behind_picture, fun_of F_behind_picture, He.glo_ok X G (c.fact 37 (f := .glo "behind_picture") rfl), FunD.bindsN F_behind_picture (fun _ _ _ _ _ _ us hl => match us, hl with | [_, _, _], _ => rfl)⟩
  have d_behind_picture := d_behind_picture (w := w) (base := base) T A_behind_picture d_state_ahead
  obtain ⟨fd_numbers_of, F_numbers_of⟩ := c.def_ 15 (d := D_numbers_of) rfl
  have A_numbers_of : DefAt K mg "numbers_of" s_numbers_of ["cells"] := ⟨_, fd_numbers_of, fun_of F_numbers_of, He.glo_ok X G (c.fact 38 (f := .glo "numbers_of") rfl), FunD.bindsN F_numbers_of (fun _ _ _ _ _ _ us hl => match us, hl with | [_], _ => rfl)⟩
  have d_numbers_of := d_numbers_of (w := w) (base := base) T A_numbers_of 
  obtain ⟨fd_borrowed, F_borrowed⟩ := c.def_ 16 (d := D_borrowed) rfl
  have A_borrowed : DefAt K mg "borrowed" s_borrowed ["first", "now"] := ⟨_, fd_borrowed, fun_of F_borrowed, He.glo_ok X G (c.fact 39 (f := .glo "borrowed") rfl), FunD.bindsN F_borrowed (fun _ _ _ _ _ _ us hl => match us, hl with | [_, _], _ => rfl)⟩
  have d_borrowed := d_borrowed (w := w) (base := base) T A_borrowed 
  obtain ⟨fd_picture_of_sweep, F_picture_of_sweep⟩ := c.def_ 17 (d := D_picture_of_sweep) rfl
  have A_picture_of_sweep : DefAt K mg "picture_of_sweep" s_picture_of_sweep ["kind", "first", "last", "now"] := ⟨_, fd_picture_of_sweep, fun_of F_picture_of_sweep, He.glo_ok X G (c.fact 40 (f := .glo "picture_of_sweep") rfl), FunD.bindsN F_picture_of_sweep (fun _ _ _ _ _ _ us hl => match us, hl with | [_, _, _, _], _ => rfl)⟩
  have d_picture_of_sweep := d_picture_of_sweep (w := w) (base := base) T A_picture_of_sweep d_numbers_of d_borrowed
  obtain ⟨fd_behind_look, F_behind_look⟩ := c.def_ 18 (d := D_behind_look) rfl
  have A_behind_look : DefAt K mg "behind_look" s_behind_look ["play", "cells", "state", "hand"] := ⟨_, fd_behind_look, fun_of F_behind_look, He.glo_ok X G (c.fact 41 (f := .glo "behind_look") rfl), FunD.bindsN F_behind_look (fun _ _ _ _ _ _ us hl => match us, hl with | [_, _, _, _], _ => rfl)⟩
  have d_behind_look := d_behind_look (w := w) (base := base) T A_behind_look d_picture_of_sweep d_behind_picture d_numbers_of
  obtain ⟨fd_step_in_manner, F_step_in_manner⟩ := c.def_ 19 (d := D_step_in_manner) rfl
  have A_step_in_manner : DefAt K mg "step_in_manner" s_step_in_manner ["play", "cells", "state", "hand"] := ⟨_, fd_step_in_manner, fun_of F_step_in_manner, He.glo_ok X G (c.fact 42 (f := .glo "step_in_manner") rfl), FunD.bindsN F_step_in_manner (fun _ _ _ _ _ _ us hl => match us, hl with | [_, _, _, _], _ => rfl)⟩
  have d_step_in_manner := d_step_in_manner (w := w) (base := base) T A_step_in_manner d_puts_next d_behind_put d_behind_look
  obtain ⟨fd_step_of_hand, F_step_of_hand⟩ := c.def_ 20 (d := D_step_of_hand) rfl
  have A_step_of_hand : DefAt K mg "step_of_hand" s_step_of_hand ["play", "cells", "state", "hand"] := ⟨_, fd_step_of_hand, fun_of F_step_of_hand, He.glo_ok X G (c.fact 43 (f := .glo "step_of_hand") rfl), FunD.bindsN F_step_of_hand (fun _ _ _ _ _ _ us hl => match us, hl with | [_, _, _, _], _ => rfl)⟩
  have d_step_of_hand := d_step_of_hand (w := w) (base := base) T A_step_of_hand d_step_in_manner
  obtain ⟨fd_put_at, F_put_at⟩ := c.def_ 21 (d := D_put_at) rfl
  have A_put_at : DefAt K mg "put_at" s_put_at ["row", "hand", "item"] := ⟨_, fd_put_at, fun_of F_put_at, He.glo_ok X G (c.fact 44 (f := .glo "put_at") rfl), FunD.bindsN F_put_at (fun _ _ _ _ _ _ us hl => match us, hl with | [_, _, _], _ => rfl)⟩
  have d_put_at := d_put_at (w := w) (base := base) T A_put_at 
  obtain ⟨fd_standing_behind, F_standing_behind⟩ := c.def_ 22 (d := D_standing_behind) rfl
  have A_standing_behind : DefAt K mg "standing_behind" s_standing_behind ["play", "standing", "hand"] := ⟨_, fd_standing_behind, fun_of F_standing_behind, He.glo_ok X G (c.fact 45 (f := .glo "standing_behind") rfl), FunD.bindsN F_standing_behind (fun _ _ _ _ _ _ us hl => match us, hl with | [_, _, _], _ => rfl)⟩
  have d_standing_behind := d_standing_behind (w := w) (base := base) T A_standing_behind d_step_of_hand d_put_at
  obtain ⟨fd_standings_along, F_standings_along⟩ := c.def_ 23 (d := D_standings_along) rfl
  have A_standings_along : DefAt K mg "standings_along" s_standings_along ["play", "weaving"] := ⟨_, fd_standings_along, fun_of F_standings_along, He.glo_ok X G (c.fact 46 (f := .glo "standings_along") rfl), FunD.bindsN F_standings_along (fun _ _ _ _ _ _ us hl => match us, hl with | [_, _], _ => rfl)⟩
  have d_standings_along := d_standings_along (w := w) (base := base) T A_standings_along d_first_standing d_is_hand d_standing_behind
  obtain ⟨fd_run, F_run⟩ := c.def_ 24 (d := D_run) rfl
  have A_run : DefAt K mg "run" s_run ["play", "weaving"] := ⟨_, fd_run, fun_of F_run, He.glo_ok X G (c.fact 47 (f := .glo "run") rfl), FunD.bindsN F_run (fun _ _ _ _ _ _ us hl => match us, hl with | [_, _], _ => rfl)⟩
  have d_run := d_run (w := w) (base := base) T A_run d_standings_along
  obtain ⟨fd_standings_in_manner, F_standings_in_manner⟩ := c.def_ 25 (d := D_standings_in_manner) rfl
  have A_standings_in_manner : DefAt K mg "standings_in_manner" s_standings_in_manner ["play", "weaving"] := ⟨_, fd_standings_in_manner, fun_of F_standings_in_manner, He.glo_ok X G (c.fact 48 (f := .glo "standings_in_manner") rfl), FunD.bindsN F_standings_in_manner (fun _ _ _ _ _ _ us hl => match us, hl with | [_, _], _ => rfl)⟩
  have d_standings_in_manner := d_standings_in_manner (w := w) (base := base) T A_standings_in_manner d_standings_along
  obtain ⟨fd_goes_on, F_goes_on⟩ := c.def_ 26 (d := D_goes_on) rfl
  have A_goes_on : DefAt K mg "goes_on" s_goes_on ["state"] := ⟨_, fd_goes_on, fun_of F_goes_on, He.glo_ok X G (c.fact 49 (f := .glo "goes_on") rfl), FunD.bindsN F_goes_on (fun _ _ _ _ _ _ us hl => match us, hl with | [_], _ => rfl)⟩
  have d_goes_on := d_goes_on (w := w) (base := base) T A_goes_on 
  obtain ⟨fd_picture_told, F_picture_told⟩ := c.def_ 27 (d := D_picture_told) rfl
  have A_picture_told : DefAt K mg "picture_told" s_picture_told ["ahead", "behind", "hand"] := ⟨_, fd_picture_told, fun_of F_picture_told, He.glo_ok X G (c.fact 50 (f := .glo "picture_told") rfl), FunD.bindsN F_picture_told (fun _ _ _ _ _ _ us hl => match us, hl with | [_, _, _], _ => rfl)⟩
  have d_picture_told := d_picture_told (w := w) (base := base) T A_picture_told 
  obtain ⟨fd_ended_looks, F_ended_looks⟩ := c.def_ 28 (d := D_ended_looks) rfl
  have A_ended_looks : DefAt K mg "ended_looks" s_ended_looks ["standings", "weaving"] := ⟨_, fd_ended_looks, fun_of F_ended_looks, He.glo_ok X G (c.fact 51 (f := .glo "ended_looks") rfl), FunD.bindsN F_ended_looks (fun _ _ _ _ _ _ us hl => match us, hl with | [_, _], _ => rfl)⟩
  have d_ended_looks := d_ended_looks (w := w) (base := base) T A_ended_looks d_goes_on d_picture_told
  obtain ⟨fd_shown, F_shown⟩ := c.def_ 29 (d := D_shown) rfl
  have A_shown : DefAt K mg "shown" s_shown ["cells"] := ⟨_, fd_shown, fun_of F_shown, He.glo_ok X G (c.fact 52 (f := .glo "shown") rfl), FunD.bindsN F_shown (fun _ _ _ _ _ _ us hl => match us, hl with | [_], _ => rfl)⟩
  have d_shown := d_shown (w := w) (base := base) T A_shown 
  obtain ⟨fd_moments_of, F_moments_of⟩ := c.def_ 30 (d := D_moments_of) rfl
  have A_moments_of : DefAt K mg "moments_of" s_moments_of ["stood", "look"] := ⟨_, fd_moments_of, fun_of F_moments_of, He.glo_ok X G (c.fact 53 (f := .glo "moments_of") rfl), FunD.bindsN F_moments_of (fun _ _ _ _ _ _ us hl => match us, hl with | [_, _], _ => rfl)⟩
  have d_moments_of := d_moments_of (w := w) (base := base) T A_moments_of 
  obtain ⟨fd_moments_of_looks, F_moments_of_looks⟩ := c.def_ 31 (d := D_moments_of_looks) rfl
  have A_moments_of_looks : DefAt K mg "moments_of_looks" s_moments_of_looks ["play", "weaving"] := ⟨_, fd_moments_of_looks, fun_of F_moments_of_looks, He.glo_ok X G (c.fact 54 (f := .glo "moments_of_looks") rfl), FunD.bindsN F_moments_of_looks (fun _ _ _ _ _ _ us hl => match us, hl with | [_, _], _ => rfl)⟩
  have d_moments_of_looks := d_moments_of_looks (w := w) (base := base) T A_moments_of_looks d_standings_in_manner d_shown d_ended_looks d_moments_of
  obtain ⟨fd_least_of, F_least_of⟩ := c.def_ 32 (d := D_least_of) rfl
  have A_least_of : DefAt K mg "least_of" s_least_of ["found"] := ⟨_, fd_least_of, fun_of F_least_of, He.glo_ok X G (c.fact 55 (f := .glo "least_of") rfl), FunD.bindsN F_least_of (fun _ _ _ _ _ _ us hl => match us, hl with | [_], _ => rfl)⟩
  have d_least_of := d_least_of (w := w) (base := base) T A_least_of 
  obtain ⟨fd_moments, F_moments⟩ := c.def_ 33 (d := D_moments) rfl
  have A_moments : DefAt K mg "moments" s_moments ["play", "weaving"] := ⟨_, fd_moments, fun_of F_moments, He.glo_ok X G (c.fact 56 (f := .glo "moments") rfl), FunD.bindsN F_moments (fun _ _ _ _ _ _ us hl => match us, hl with | [_, _], _ => rfl)⟩
  have d_moments := d_moments (w := w) (base := base) T A_moments d_moments_of_looks d_least_of
  obtain ⟨fd_those_that_came, F_those_that_came⟩ := c.def_ 34 (d := D_those_that_came) rfl
  have A_those_that_came : DefAt K mg "those_that_came" s_those_that_came ["weaving"] := ⟨_, fd_those_that_came, fun_of F_those_that_came, He.glo_ok X G (c.fact 57 (f := .glo "those_that_came") rfl), FunD.bindsN F_those_that_came (fun _ _ _ _ _ _ us hl => match us, hl with | [_], _ => rfl)⟩
  have d_those_that_came := d_those_that_came (w := w) (base := base) T A_those_that_came 
  obtain ⟨fd_is_wrong, F_is_wrong⟩ := c.def_ 35 (d := D_is_wrong) rfl
  have A_is_wrong : DefAt K mg "is_wrong" s_is_wrong ["play", "weaving"] := ⟨_, fd_is_wrong, fun_of F_is_wrong, He.glo_ok X G (c.fact 58 (f := .glo "is_wrong") rfl), FunD.bindsN F_is_wrong (fun _ _ _ _ _ _ us hl => match us, hl with | [_, _], _ => rfl)⟩
  have d_is_wrong := d_is_wrong (w := w) (base := base) T A_is_wrong d_run d_moments
  obtain ⟨fd_law_fresh, F_law_fresh⟩ := c.def_ 36 (d := D_law_fresh) rfl
  have A_law_fresh : DefAt K mg "_law_fresh" s_law_fresh ["_law_script", "_law_done"] := ⟨_, fd_law_fresh, fun_of F_law_fresh, He.glo_ok X G (c.fact 59 (f := .glo "_law_fresh") rfl), FunD.bindsN F_law_fresh (fun _ _ _ _ _ _ us hl => match us, hl with | [_, _], _ => rfl)⟩
  have d_law_fresh := d_law_fresh (w := w) (base := base) T A_law_fresh 
  obtain ⟨fd_law_begun, F_law_begun⟩ := c.def_ 37 (d := D_law_begun) rfl
  have A_law_begun : DefAt K mg "_law_begun" s_law_begun ["_law_play"] := ⟨_, fd_law_begun, fun_of F_law_begun, He.glo_ok X G (c.fact 60 (f := .glo "_law_begun") rfl), FunD.bindsN F_law_begun (fun _ _ _ _ _ _ us hl => match us, hl with | [_], _ => rfl)⟩
  have d_law_begun := d_law_begun (w := w) (base := base) T A_law_begun d_law_fresh
  obtain ⟨fd_law_manner, F_law_manner⟩ := c.def_ 38 (d := D_law_manner) rfl
  have A_law_manner : DefAt K mg "_law_manner" s_law_manner ["_law_kind", "_law_script", "_law_cells", "_law_state", "_law_me"] := ⟨_, fd_law_manner, fun_of F_law_manner, He.glo_ok X G (c.fact 61 (f := .glo "_law_manner") rfl), FunD.bindsN F_law_manner (fun _ _ _ _ _ _ us hl => match us, hl with | [_, _, _, _, _], _ => rfl)⟩
  have d_law_manner := d_law_manner (w := w) (base := base) T A_law_manner d_law_fresh
  obtain ⟨fd_law_behind, F_law_behind⟩ := c.def_ 39 (d := D_law_behind) rfl
  have A_law_behind : DefAt K mg "_law_behind" s_law_behind ["_law_play", "_law_standing", "_law_me"] := ⟨_, fd_law_behind, fun_of F_law_behind, He.glo_ok X G (c.fact 62 (f := .glo "_law_behind") rfl), FunD.bindsN F_law_behind (fun _ _ _ _ _ _ us hl => match us, hl with | [_, _, _], _ => rfl)⟩
  have d_law_behind := d_law_behind (w := w) (base := base) T A_law_behind d_law_manner
  obtain ⟨fd_law_wrong, F_law_wrong⟩ := c.def_ 40 (d := D_law_wrong) rfl
  have A_law_wrong : DefAt K mg "_law_wrong" s_law_wrong ["_law_play", "_law_weaving"] := ⟨_, fd_law_wrong, fun_of F_law_wrong, He.glo_ok X G (c.fact 63 (f := .glo "_law_wrong") rfl), FunD.bindsN F_law_wrong (fun _ _ _ _ _ _ us hl => match us, hl with | [_, _], _ => rfl)⟩
  have d_law_wrong := d_law_wrong (w := w) (base := base) T A_law_wrong d_law_begun d_law_behind
  obtain ⟨fd_law_hand, F_law_hand⟩ := c.def_ 41 (d := D_law_hand) rfl
  have A_law_hand : DefAt K mg "_law_hand" s_law_hand ["_law_script"] := ⟨_, fd_law_hand, fun_of F_law_hand, He.glo_ok X G (c.fact 64 (f := .glo "_law_hand") rfl), FunD.bindsN F_law_hand (fun _ _ _ _ _ _ us hl => match us, hl with | [_], _ => rfl)⟩
  have d_law_hand := d_law_hand (w := w) (base := base) T A_law_hand 
  obtain ⟨fd_law_draw, F_law_draw⟩ := c.def_ 42 (d := D_law_draw) rfl
  have A_law_draw : DefAt K mg "_law_draw" s_law_draw ["_law_hand_here", "_law_many"] := ⟨_, fd_law_draw, fun_of F_law_draw, He.glo_ok X G (c.fact 65 (f := .glo "_law_draw") rfl), FunD.bindsN F_law_draw (fun _ _ _ _ _ _ us hl => match us, hl with | [_, _], _ => rfl)⟩
  have d_law_draw := d_law_draw (w := w) (base := base) T A_law_draw 
  obtain ⟨fd_law_movers, F_law_movers⟩ := c.def_ 43 (d := D_law_movers) rfl
  have A_law_movers : DefAt K mg "_law_movers" s_law_movers ["_law_standing"] := ⟨_, fd_law_movers, fun_of F_law_movers, He.glo_ok X G (c.fact 66 (f := .glo "_law_movers") rfl), FunD.bindsN F_law_movers (fun _ _ _ _ _ _ us hl => match us, hl with | [_], _ => rfl)⟩
  have d_law_movers := d_law_movers (w := w) (base := base) T A_law_movers 
  obtain ⟨fd_law_some_weaving, F_law_some_weaving⟩ := c.def_ 44 (d := D_law_some_weaving) rfl
  have A_law_some_weaving : DefAt K mg "_law_some_weaving" s_law_some_weaving ["_law_hand_here", "_law_play", "_law_most"] := ⟨_, fd_law_some_weaving, fun_of F_law_some_weaving, He.glo_ok X G (c.fact 67 (f := .glo "_law_some_weaving") rfl), FunD.bindsN F_law_some_weaving (fun _ _ _ _ _ _ us hl => match us, hl with | [_, _, _], _ => rfl)⟩
  have d_law_some_weaving := d_law_some_weaving (w := w) (base := base) T A_law_some_weaving d_law_begun d_law_movers d_law_draw d_law_behind
  obtain ⟨fd_law_flag, F_law_flag⟩ := c.def_ 45 (d := D_law_flag) rfl
  have A_law_flag : DefAt K mg "_law_flag" s_law_flag ["_law_told_here", "_law_due"] := ⟨_, fd_law_flag, fun_of F_law_flag, He.glo_ok X G (c.fact 68 (f := .glo "_law_flag") rfl), FunD.bindsN F_law_flag (fun _ _ _ _ _ _ us hl => match us, hl with | [_, _], _ => rfl)⟩
  have d_law_flag := d_law_flag (w := w) (base := base) T A_law_flag 
  obtain ⟨fd_law_is, F_law_is⟩ := c.def_ 46 (d := D_law_is) rfl
  have A_law_is : DefAt K mg "_law_is" s_law_is ["_law_told_here", "_law_due"] := ⟨_, fd_law_is, fun_of F_law_is, He.glo_ok X G (c.fact 69 (f := .glo "_law_is") rfl), FunD.bindsN F_law_is (fun _ _ _ _ _ _ us hl => match us, hl with | [_, _], _ => rfl)⟩
  have d_law_is := d_law_is (w := w) (base := base) T A_law_is 
  obtain ⟨fd_law_shrunk, F_law_shrunk⟩ := c.def_ 47 (d := D_law_shrunk) rfl
  have A_law_shrunk : DefAt K mg "_law_shrunk" s_law_shrunk ["_law_play", "_law_weaving"] := ⟨_, fd_law_shrunk, fun_of F_law_shrunk, He.glo_ok X G (c.fact 70 (f := .glo "_law_shrunk") rfl), FunD.bindsN F_law_shrunk (fun _ _ _ _ _ _ us hl => match us, hl with | [_, _], _ => rfl)⟩
  have d_law_shrunk := d_law_shrunk (w := w) (base := base) T A_law_shrunk d_law_wrong
  obtain ⟨fd_is_wrong_weaving, F_is_wrong_weaving⟩ := c.def_ 48 (d := D_is_wrong_weaving) rfl
  have A_is_wrong_weaving : DefAt K mg "is_wrong_weaving" s_is_wrong_weaving ["play", "thing"] := ⟨_, fd_is_wrong_weaving, fun_of F_is_wrong_weaving, He.glo_ok X G (c.fact 71 (f := .glo "is_wrong_weaving") rfl), FunD.bindsN F_is_wrong_weaving (fun _ _ _ _ _ _ us hl => match us, hl with | [_, _], _ => rfl)⟩
  have d_is_wrong_weaving := d_is_wrong_weaving (w := w) (base := base) T A_is_wrong_weaving d_is_wrong
  obtain ⟨fd_first_shorter, F_first_shorter⟩ := c.def_ 49 (d := D_first_shorter) rfl
  have A_first_shorter : DefAt K mg "first_shorter" s_first_shorter ["play", "weaving"] := ⟨_, fd_first_shorter, fun_of F_first_shorter, He.glo_ok X G (c.fact 72 (f := .glo "first_shorter") rfl), FunD.bindsN F_first_shorter (fun _ _ _ _ _ _ us hl => match us, hl with | [_, _], _ => rfl)⟩
  have d_first_shorter := d_first_shorter (w := w) (base := base) T A_first_shorter d_is_wrong_weaving
  obtain ⟨fd_shrunk, F_shrunk⟩ := c.def_ 50 (d := D_shrunk) rfl
  have A_shrunk : DefAt K mg "shrunk" s_shrunk ["play", "weaving"] := ⟨_, fd_shrunk, fun_of F_shrunk, He.glo_ok X G (c.fact 73 (f := .glo "shrunk") rfl), FunD.bindsN F_shrunk (fun _ _ _ _ _ _ us hl => match us, hl with | [_, _], _ => rfl)⟩
  have d_shrunk := d_shrunk (w := w) (base := base) T A_shrunk d_is_wrong d_first_shorter
  obtain ⟨fd_law_told, F_law_told⟩ := c.def_ 51 (d := D_law_told) rfl
  have A_law_told : DefAt K mg "_law_told" s_law_told ["_law_play", "_law_weaving"] := ⟨_, fd_law_told, fun_of F_law_told, He.glo_ok X G (c.fact 74 (f := .glo "_law_told") rfl), FunD.bindsN F_law_told (fun _ _ _ _ _ _ us hl => match us, hl with | [_, _], _ => rfl)⟩
  have d_law_told := d_law_told (w := w) (base := base) T A_law_told d_shrunk
  obtain ⟨fd_is_word_of, F_is_word_of⟩ := c.def_ 52 (d := D_is_word_of) rfl
  have A_is_word_of : DefAt K mg "is_word_of" s_is_word_of ["words", "thing"] := ⟨_, fd_is_word_of, fun_of F_is_word_of, He.glo_ok X G (c.fact 75 (f := .glo "is_word_of") rfl), FunD.bindsN F_is_word_of (fun _ _ _ _ _ _ us hl => match us, hl with | [_, _], _ => rfl)⟩
  have d_is_word_of := d_is_word_of (w := w) (base := base) T A_is_word_of 
  obtain ⟨fd_is_lot_below, F_is_lot_below⟩ := c.def_ 53 (d := D_is_lot_below) rfl
  have A_is_lot_below : DefAt K mg "is_lot_below" s_is_lot_below ["limit", "thing"] := ⟨_, fd_is_lot_below, fun_of F_is_lot_below, He.glo_ok X G (c.fact 76 (f := .glo "is_lot_below") rfl), FunD.bindsN F_is_lot_below (fun _ _ _ _ _ _ us hl => match us, hl with | [_, _], _ => rfl)⟩
  have d_is_lot_below := d_is_lot_below (w := w) (base := base) T A_is_lot_below d_is_number_below
  obtain ⟨fd_is_row_of_hands, F_is_row_of_hands⟩ := c.def_ 54 (d := D_is_row_of_hands) rfl
  have A_is_row_of_hands : DefAt K mg "is_row_of_hands" s_is_row_of_hands ["thing"] := ⟨_, fd_is_row_of_hands, fun_of F_is_row_of_hands, He.glo_ok X G (c.fact 77 (f := .glo "is_row_of_hands") rfl), FunD.bindsN F_is_row_of_hands (fun _ _ _ _ _ _ us hl => match us, hl with | [_], _ => rfl)⟩
  have d_is_row_of_hands := d_is_row_of_hands (w := w) (base := base) T A_is_row_of_hands 
  obtain ⟨fd_is_near, F_is_near⟩ := c.def_ 55 (d := D_is_near) rfl
  have A_is_near : DefAt K mg "is_near" s_is_near ["thing"] := ⟨_, fd_is_near, fun_of F_is_near, He.glo_ok X G (c.fact 78 (f := .glo "is_near") rfl), FunD.bindsN F_is_near (fun _ _ _ _ _ _ us hl => match us, hl with | [_], _ => rfl)⟩
  have d_is_near := d_is_near (w := w) (base := base) T A_is_near d_is_whole_within d_is_row_of_hands
  obtain ⟨fd_is_deed, F_is_deed⟩ := c.def_ 56 (d := D_is_deed) rfl
  have A_is_deed : DefAt K mg "is_deed" s_is_deed ["thing"] := ⟨_, fd_is_deed, fun_of F_is_deed, He.glo_ok X G (c.fact 79 (f := .glo "is_deed") rfl), FunD.bindsN F_is_deed (fun _ _ _ _ _ _ us hl => match us, hl with | [_], _ => rfl)⟩
  have d_is_deed := d_is_deed (w := w) (base := base) T A_is_deed d_is_word_of d_is_number_below
  obtain ⟨fd_is_script, F_is_script⟩ := c.def_ 57 (d := D_is_script) rfl
  have A_is_script : DefAt K mg "is_script" s_is_script ["thing"] := ⟨_, fd_is_script, fun_of F_is_script, He.glo_ok X G (c.fact 80 (f := .glo "is_script") rfl), FunD.bindsN F_is_script (fun _ _ _ _ _ _ us hl => match us, hl with | [_], _ => rfl)⟩
  have d_is_script := d_is_script (w := w) (base := base) T A_is_script d_is_deed
  obtain ⟨fd_is_inputs, F_is_inputs⟩ := c.def_ 58 (d := D_is_inputs) rfl
  have A_is_inputs : DefAt K mg "is_inputs" s_is_inputs ["kind", "thing"] := ⟨_, fd_is_inputs, fun_of F_is_inputs, He.glo_ok X G (c.fact 81 (f := .glo "is_inputs") rfl), FunD.bindsN F_is_inputs (fun _ _ _ _ _ _ us hl => match us, hl with | [_, _], _ => rfl)⟩
  have d_is_inputs := d_is_inputs (w := w) (base := base) T A_is_inputs d_is_near d_is_row_of_hands d_is_script d_is_lot_below d_is_number_below
  obtain ⟨fd_MK, F_MK⟩ := c.def_ 59 (d := D_MK) rfl
  have d_MK := d_MK (w := w) (base := base) T (fun_of (st := s_Play_init) F_MK) hmP (He.mkr_ok (c.fact 82 (f := .mkr "Play") rfl)) (FunD.bindsN F_MK (fun _ _ _ _ _ _ us hl => match us, hl with | [_, _, _], _ => rfl)) d_is_word_of d_is_inputs
  obtain ⟨fd_EQ, F_EQ⟩ := c.def_ 60 (d := D_EQ) rfl
  have mEQ := He.meth_ok (c.fact 83 (f := .meth "Play" "__eq__") rfl)
  have d_EQ := d_EQ (w := w) (base := base) T (fun_of (st := s_Play_eq) F_EQ) hmP (FunD.bindsN F_EQ (fun _ _ _ _ _ _ us hl => match us, hl with | [_, _], _ => rfl)) mEQ.at_ mEQ.fn (of_decide_eq_true (ex_at 8 e)) 
  exact d_law T (fun_of F_law) d_law_draw d_law_some_weaving d_law_wrong d_law_shrunk d_is_wrong d_law_flag d_law_told d_law_is d_MK d_law_hand law_hand_eq main
end Kk22
open PySem PySem.W PySem.Calls PyProof.Rows
theorem PySem.Challenge.cw_onepicture_k22_whole_weavings_shrunk_holds : PySem.Challenge.rw_onepicture_k22_whole_weavings_shrunk.Holds := by
  w_on; o_law
  refine HandSHeadRun.head_any (r := OpenLaw.row PySem.Challenge.rw_onepicture_k22_whole_weavings_shrunk) (q := view (OpenLaw.row PySem.Challenge.rw_onepicture_k22_whole_weavings_shrunk).prog [116]) (H := Kk22.hk) (ob := Kk22.ob) (M := 8000) (loose := Kk22.ls) (d := HandSHeadRun.topDef (OpenLaw.row PySem.Challenge.rw_onepicture_k22_whole_weavings_shrunk).prog 116) (kwd := []) Kk22.ob_eq
    (by kernel_rfl) (fun s => by kernel_rfl) Kk22.run (by kernel_rfl) (by kernel_rfl) (by kernel_rfl) (by rfl) (by first | assumption | decide +kernel) (by decide +kernel) ⟨rfl, rfl, rfl, rfl, rfl, by decide +kernel⟩ ?hw ?hc
  case hw => w_witness2
  case hc =>
    refine L2.walk_ofE (l := PySem.Challenge.rw_onepicture_k22_whole_weavings_shrunk) (n := 63) (k := 46) (x := "_law_script") (CX := L2.CX0) rfl (by decide) (by kernel_rfl) ⟨rfl, by decide, by decide⟩ ?F (fun _ _ _ _ z => z)
    intro w mg fa h Y G hmg0
    obtain ⟨K, KX, c, e⟩ := Y
    have hmg : mg ("law" : PySem.Str) = some (.ref fa) := by
      have e : (HandSHeadRun.topDef (OpenLaw.row PySem.Challenge.rw_onepicture_k22_whole_weavings_shrunk).prog 116).name = ("law" : PySem.Str) := by kernel_rfl
      rw [← e]
      exact hmg0
    obtain ⟨fd, hb, hF⟩ := Kk22.facts (P := (PySem.Challenge.rw_onepicture_k22_whole_weavings_shrunk).prog) (w := w) KX G hmg c e
    exact ⟨K, fd, FD.spLaw K, KX, hb, fun H a ns hl _ hS => ⟨a, ns, rfl, hS, hl, fun _ => rfl⟩, hF⟩
