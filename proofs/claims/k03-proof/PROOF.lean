import PyProof.Rows.All
import Wide.All
import OpenK.AllK
import Wide.FinOn
import KE.GoesMore
import KE.GoesEnum
import KE.KStateDown
import Lean
import HandS.Comp
import HandS.Defaults
import HandS.ExcField
import HandS.ExcInit
import HandS.ForExc
import HandS.ForMost
import HandS.Head0
import HandS.Head1
import HandS.Head2
import HandS.HeadEnd
import HandS.HeadHook1
import HandS.HeadHook2
import HandS.IsInst
import HandS.OwnEq
import HandS.SetBool
import HandS.SetFor
import HandS.Strs
import HandS.Style
import HandS.TryMany
import HandS.TupAny
import HandS.TupMul
import HandS.Zip
import PyProof.ReprRoads
import PySem.Challenge.RW_onepicture_k03_whole_weavings_of_all_kin
set_option Elab.async false
set_option linter.all false
set_option maxRecDepth 100000
set_option maxHeartbeats 2000000
/-! # Data as trees over the hand layer: each expression's reading by a plain function. -/
namespace FD
open PySem L2

/-- a value as a tree -/
inductive D where
  | non | bl (b : Bool) | int (i : Int) | str (x : Str) | tup (xs : List D) | lst (xs : List D) | emp | obj (c : Str) (ks : List Str) (ds : List D) | hnd | rng (i j : Int) | scr (ns : List Int)

/-- the drawing hand: the numbers of the script, how many are taken, what is left of a great one, the state, how many draws -/
structure Gh where
  xs : List Int
  i : Int
  c : Int
  r : Int
  n : Int

structure DC where
  K : PySem.W.Frag
  mg : Str → Option Value
  ah : Option Addr

mutual
inductive Dn (C : DC) (H : Hp) : V → D → Prop
  | non : Dn C H .non .non
  | bl (b : Bool) : Dn C H (.bl b) (.bl b)
  | int (i : Int) : Dn C H (.int i) (.int i)
  | str (x : Str) : Dn C H (.str x) (.str x)
  | tup {a : Addr} {vs : List V} {ds : List D} : SqT C.K H a vs → Dns C H vs ds → Dn C H (.ref a) (.tup ds)
  | lst {a : Addr} {vs : List V} {ds : List D} : H a = some (.lst vs) → Dns C H vs ds → Dn C H (.ref a) (.lst ds)
  | emp {a : Addr} {kvs : List (Key × V)} : H a = some (.dK kvs) → Dn C H (.ref a) .emp
  | obj {a A dx : Addr} {c : Str} {fs : List (Str × V)} {ks : List Str} {ds : List D} : C.mg c = some (.ref A) → H a = some (.ins A dx fs) → fs.map (·.1) = ks → Dns C H (fs.map (·.2)) ds → Dn C H (.ref a) (.obj c ks ds)
  | hnd {a : Addr} : C.ah = some a → Dn C H (.ref a) .hnd
  | rng {a : Addr} {i j : Int} : H a = some (.rng i j) → Dn C H (.ref a) (.rng i j)
  | scr {a : Addr} {ns : List Int} : SqL C.K H a (ns.map V.int) → Dn C H (.ref a) (.scr ns)
inductive Dns (C : DC) (H : Hp) : List V → List D → Prop
  | nil : Dns C H [] []
  | cons {v : V} {d : D} {vs : List V} {ds : List D} : Dn C H v d → Dns C H vs ds → Dns C H (v :: vs) (d :: ds)
end

theorem Same.tup {K : PySem.W.Frag} {H H' : Hp} {a : Addr} {xs : List V} (e : Same H H') (h : SqT K H a xs) : SqT K H' a xs := by
  rcases h with (h | ⟨o, h⟩) | h
  · exact .inl (.inl (e _ _ h))
  · exact .inl (.inr ⟨o, e _ _ h⟩)
  · exact .inr h

theorem Same.sql {K : PySem.W.Frag} {H H' : Hp} {a : Addr} {xs : List V} (e : Same H H') (h : SqL K H a xs) : SqL K H' a xs := by
  rcases h with (h | ⟨o, h⟩) | h
  · exact .inl (.inl (e _ _ h))
  · exact .inl (.inr ⟨o, e _ _ h⟩)
  · exact .inr h

mutual
theorem Dn.mono {C : DC} {H H' : Hp} (e : Same H H') : ∀ {v : V} {d : D}, Dn C H v d → Dn C H' v d
  | _, _, .non => .non
  | _, _, .bl b => .bl b
  | _, _, .int i => .int i
  | _, _, .str x => .str x
  | _, _, .tup h hs => .tup (Same.tup e h) (Dns.mono e hs)
  | _, _, .lst h hs => .lst (e _ _ h) (Dns.mono e hs)
  | _, _, .emp h => .emp (e _ _ h)
  | _, _, .obj m h k hs => .obj m (e _ _ h) k (Dns.mono e hs)
  | _, _, .hnd h => .hnd h
  | _, _, .rng h => .rng (e _ _ h)
  | _, _, .scr h => .scr (Same.sql e h)
theorem Dns.mono {C : DC} {H H' : Hp} (e : Same H H') : ∀ {vs : List V} {ds : List D}, Dns C H vs ds → Dns C H' vs ds
  | _, _, .nil => .nil
  | _, _, .cons h hs => .cons (Dn.mono e h) (Dns.mono e hs)
end
theorem Dns.length {C : DC} {H : Hp} : ∀ {vs : List V} {ds : List D}, Dns C H vs ds → vs.length = ds.length
  | _, _, .nil => rfl
  | _, _, .cons _ hs => by simp [Dns.length hs]
theorem Dns.append {C : DC} {H : Hp} : ∀ {vs ws : List V} {ds es : List D}, Dns C H vs ds → Dns C H ws es → Dns C H (vs ++ ws) (ds ++ es)
  | _, _, _, _, .nil, k => k
  | _, _, _, _, .cons h hs, k => .cons h (Dns.append hs k)
theorem Dns.get {C : DC} {H : Hp} : ∀ {vs : List V} {ds : List D} {i : Nat} {d : D}, Dns C H vs ds → ds[i]? = some d → ∃ v, vs[i]? = some v ∧ Dn C H v d
  | _, _, _, _, .nil, e => by simp at e
  | _, _, 0, _, .cons h _, e => by simp at e; subst e; exact ⟨_, rfl, h⟩
  | _, _, i + 1, _, .cons _ hs, e => by
    obtain ⟨v, h1, h2⟩ := Dns.get (i := i) hs (by simpa using e)
    exact ⟨v, by simpa using h1, h2⟩
theorem Dns.getV {C : DC} {H : Hp} : ∀ {vs : List V} {ds : List D} {i : Nat} {v : V}, Dns C H vs ds → vs[i]? = some v → ∃ d, ds[i]? = some d ∧ Dn C H v d
  | _, _, _, _, .nil, e => by simp at e
  | _, _, 0, _, .cons h _, e => by simp at e; subst e; exact ⟨_, rfl, h⟩
  | _, _, i + 1, _, .cons _ hs, e => by
    obtain ⟨v, h1, h2⟩ := Dns.getV (i := i) hs (by simpa using e)
    exact ⟨v, by simpa using h1, h2⟩
theorem Dns.drop {C : DC} {H : Hp} : ∀ {vs : List V} {ds : List D} (n : Nat), Dns C H vs ds → Dns C H (vs.drop n) (ds.drop n)
  | _, _, 0, h => h
  | _, _, _ + 1, .nil => .nil
  | _, _, n + 1, .cons _ hs => Dns.drop n hs
theorem Dns.take {C : DC} {H : Hp} : ∀ {vs : List V} {ds : List D} (n : Nat), Dns C H vs ds → Dns C H (vs.take n) (ds.take n)
  | _, _, 0, _ => .nil
  | _, _, _ + 1, .nil => .nil
  | _, _, n + 1, .cons h hs => .cons h (Dns.take n hs)

/-- what a slot holds -/
inductive En where
  | un | dt (d : D) | hold (ks : Option (List Int)) (xs : List D)
/-- a list that one name alone holds -/
abbrev En.own (xs : List D) : En := .hold none xs
/-- a dict by whole numbers that one name alone holds -/
abbrev En.ownd (ks : List Int) (xs : List D) : En := .hold (some ks) xs
/-- what lies there -/
def kvO : List Int → List V → List (Key × V)
  | k :: ks, v :: vs => (Sum.inl k, v) :: kvO ks vs
  | _, _ => []
def shO (ks : Option (List Int)) (vs : List V) : HO := match ks with
  | none => .lst vs
  | some ks => .dK (kvO ks vs)

/-- a def's frame: what is written, where the hand stands, the heap at the entry, what of it stands for good -/
structure Fx where
  c : DC
  HE : Hp
  SE : Hp

def HandAt (c : DC) (g : Gh) (H S : Hp) : Prop := match c.ah with
  | none => True
  | some a => S a = none ∧ ∃ q, H a = some (.lst [.ref q, .int g.i, .int g.c, .int g.r, .int g.n]) ∧ S q = some (.lst (g.xs.map V.int))

def SlotOk (F : Fx) (H S : Hp) : En → Option V → Prop
  | .un, _ => True
  | .dt d, so => ∃ v, so = some v ∧ Dn F.c S v d
  | .hold ks xs, so => ∃ p vs, so = some (.ref p) ∧ S p = none ∧ F.HE p = none ∧ F.c.ah ≠ some p ∧ H p = some (shO ks vs) ∧ Dns F.c S vs xs

structure Rep (F : Fx) (ρ : List En) (g : Gh) (σ : St) (H S : Hp) : Prop where
  sub : Same S H
  hand : HandAt F.c g H S
  keep : ∀ b o, F.HE b = some o → F.c.ah ≠ some b → H b = some o
  stay : ∀ b, F.HE b ≠ none → F.SE b = none → S b = none
  slots : ∀ (i : Nat) (e : En), ρ[i]? = some e → ∃ so, σ[i]? = some so ∧ SlotOk F H S e so
  apart : ∀ (i j : Nat) (p : Addr) (xs ys : Option (List Int) × List D), ρ[i]? = some (.hold xs.1 xs.2) → ρ[j]? = some (.hold ys.1 ys.2) → σ[i]? = some (some (.ref p)) → σ[j]? = some (some (.ref p)) → i = j

section
variable {F : Fx} {ρ : List En} {g : Gh} {σ : St} {H S : Hp}

theorem Same.upd_new {H : Hp} {p : Addr} {o : HO} (hp : H p = none) : Same H (upd H p o) := fun b u e => by
  rw [upd_ne (ne_of_none e hp)]; exact e
theorem Same.upd_both {S H : Hp} (e : Same S H) (p : Addr) (o : HO) : Same (upd S p o) (upd H p o) := fun b u h => by
  by_cases hb : b = p
  · subst hb; rw [upd_same] at h ⊢; exact h
  · rw [upd_ne hb] at h ⊢; exact e b u h
theorem Rep.hand_some (R : Rep F ρ g σ H S) {a : Addr} (e : F.c.ah = some a) : S a = none ∧ H a ≠ none := by
  have h := R.hand
  unfold HandAt at h
  rw [e] at h
  obtain ⟨h1, q, h2, _⟩ := h
  exact ⟨h1, by rw [h2]; simp⟩
/-- a new address is none of those spoken of -/
theorem Rep.new_HE (R : Rep F ρ g σ H S) {p : Addr} (hp : H p = none) : F.HE p = none := by
  cases e : F.HE p with
  | none => rfl
  | some o =>
    by_cases h : F.c.ah = some p
    · exact absurd hp (R.hand_some h).2
    · rw [R.keep p o e h] at hp; cases hp
theorem Rep.new_ah (R : Rep F ρ g σ H S) {p : Addr} (hp : H p = none) : F.c.ah ≠ some p := fun h => (R.hand_some h).2 hp
theorem HandAt.up {c : DC} {g : Gh} {H S : Hp} {p : Addr} {o : HO} (h : HandAt c g H S) (sub : Same S H) (hp : H p = none) : HandAt c g (upd H p o) (upd S p o) := by
  unfold HandAt at h ⊢
  cases e : c.ah with
  | none => trivial
  | some a =>
    rw [e] at h
    obtain ⟨h1, q, h2, h3⟩ := h
    have ne : a ≠ p := ne_of_none h2 hp
    exact ⟨by rw [upd_ne ne]; exact h1, q, by rw [upd_ne ne]; exact h2, (Same.upd_new (sub.free hp)) _ _ h3⟩
theorem HandAt.up1 {c : DC} {g : Gh} {H S : Hp} {p : Addr} {o : HO} (h : HandAt c g H S) (hp : c.ah ≠ some p) : HandAt c g (upd H p o) S := by
  unfold HandAt at h ⊢
  cases e : c.ah with
  | none => trivial
  | some a =>
    rw [e] at h
    obtain ⟨h1, q, h2, h3⟩ := h
    have ne : a ≠ p := fun z => hp (by rw [e, z])
    exact ⟨h1, q, by rw [upd_ne ne]; exact h2, h3⟩
/-- what is made new stands for good -/
theorem Rep.up (R : Rep F ρ g σ H S) {p : Addr} (o : HO) (hp : H p = none) : Rep F ρ g σ (upd H p o) (upd S p o) where
  sub := Same.upd_both R.sub p o
  hand := R.hand.up R.sub hp
  keep := fun b u e h => by
    have := R.keep b u e h
    rw [upd_ne (ne_of_none this hp)]; exact this
  stay := fun b e h => by
    have ne : b ≠ p := fun z => e (by rw [z]; exact R.new_HE hp)
    rw [upd_ne ne]; exact R.stay b e h
  slots := fun i e h => by
    obtain ⟨so, h1, h2⟩ := R.slots i e h
    refine ⟨so, h1, ?_⟩
    have sm : Same S (upd S p o) := Same.upd_new (R.sub.free hp)
    cases e with
    | un => trivial
    | dt d => obtain ⟨v, e1, e2⟩ := h2; exact ⟨v, e1, e2.mono sm⟩
    | hold ks xs =>
      obtain ⟨q, vs, e1, e2, e3, e4, e5, e6⟩ := h2
      have ne : q ≠ p := ne_of_none e5 hp
      exact ⟨q, vs, e1, by rw [upd_ne ne]; exact e2, e3, e4, by rw [upd_ne ne]; exact e5, e6.mono sm⟩
  apart := R.apart
theorem Rep.tosame (R : Rep F ρ g σ H S) {p : Addr} (o : HO) (hp : H p = none) : Same S (upd S p o) := Same.upd_new (R.sub.free hp)
/-- the slots are forgotten -/
theorem Rep.bare (R : Rep F ρ g σ H S) : Rep F [] g [] H S :=
  ⟨R.sub, R.hand, R.keep, R.stay, fun i e h => by simp at h, fun i j p xs ys h => by simp at h⟩
theorem Rep.forget {ρ' : List En} {σ' : St} (R : Rep F ρ g σ H S) (h : ∀ (i : Nat) (e : En), ρ'[i]? = some e → ∃ so, σ'[i]? = some so ∧ SlotOk F H S e so)
    (ap : ∀ (i j : Nat) (p : Addr) (xs ys : Option (List Int) × List D), ρ'[i]? = some (.hold xs.1 xs.2) → ρ'[j]? = some (.hold ys.1 ys.2) → σ'[i]? = some (some (.ref p)) → σ'[j]? = some (some (.ref p)) → i = j) : Rep F ρ' g σ' H S :=
  ⟨R.sub, R.hand, R.keep, R.stay, h, ap⟩
theorem get_set {α : Type} {l : List α} {i j : Nat} {x y : α} (h : (l.set i x)[j]? = some y) : (i = j ∧ x = y) ∨ (i ≠ j ∧ l[j]? = some y) := by
  rw [List.getElem?_set] at h
  split at h
  · rename_i e
    split at h
    · exact .inl ⟨e, Option.some.inj h⟩
    · cases h
  · rename_i e; exact .inr ⟨e, h⟩
theorem set_get {α : Type} {l : List α} {i j : Nat} {x : α} (h : i ≠ j) : (l.set i x)[j]? = l[j]? := by
  rw [List.getElem?_set, if_neg h]
theorem set_at {α : Type} {l : List α} {i : Nat} {x y : α} (h : l[i]? = some y) : (l.set i x)[i]? = some x := by
  have := (List.getElem?_eq_some_iff.mp h).1
  rw [List.getElem?_set, if_pos rfl, if_pos this]
/-- a name gets a value that stands for good -/
theorem Rep.set (R : Rep F ρ g σ H S) (i : Nat) {v : V} {d : D} (hv : Dn F.c S v d) : Rep F (ρ.set i (.dt d)) g (σ.set i (some v)) H S := by
  refine R.forget (fun j e h => ?_) fun j k p xs ys h1 h2 h3 h4 => ?_
  · rcases get_set h with ⟨rfl, rfl⟩ | ⟨ne, h⟩
    · have hl : i < ρ.length := by
        have := (List.getElem?_eq_some_iff.mp h).1
        simpa using this
      obtain ⟨so, h1, _⟩ := R.slots i (ρ[i]) (List.getElem?_eq_getElem hl)
      exact ⟨some v, set_at h1, v, rfl, hv⟩
    · obtain ⟨so, h1, h2⟩ := R.slots j e h
      exact ⟨so, by rw [set_get ne]; exact h1, h2⟩
  · rcases get_set h1 with ⟨_, z⟩ | ⟨n1, h1⟩
    · cases z
    rcases get_set h2 with ⟨_, z⟩ | ⟨n2, h2⟩
    · cases z
    rw [set_get n1] at h3; rw [set_get n2] at h4
    exact R.apart j k p xs ys h1 h2 h3 h4
/-- a name gets a new list that it alone holds -/
theorem Rep.setHold (R : Rep F ρ g σ H S) (i : Nat) {p : Addr} {kx : Option (List Int)} {vs : List V} {xs : List D} (hp : H p = none) (hs : Dns F.c S vs xs) : Rep F (ρ.set i (.hold kx xs)) g (σ.set i (some (.ref p))) (upd H p (shO kx vs)) S := by
  refine ⟨fun b o e => by rw [upd_ne (ne_of_none (R.sub _ _ e) hp)]; exact R.sub _ _ e, R.hand.up1 (R.new_ah hp), fun b o e h => by rw [upd_ne (ne_of_none (R.keep b o e h) hp)]; exact R.keep b o e h, R.stay, fun j e h => ?_, fun j k q xs' ys' h1 h2 h3 h4 => ?_⟩
  · rcases get_set h with ⟨rfl, rfl⟩ | ⟨ne, h⟩
    · have hl : i < ρ.length := by
        have := (List.getElem?_eq_some_iff.mp h).1
        simpa using this
      obtain ⟨so, h1, _⟩ := R.slots i (ρ[i]) (List.getElem?_eq_getElem hl)
      exact ⟨some (.ref p), set_at h1, p, vs, rfl, R.sub.free hp, R.new_HE hp, R.new_ah hp, upd_same, hs⟩
    · obtain ⟨so, h1, h2⟩ := R.slots j e h
      refine ⟨so, by rw [set_get ne]; exact h1, ?_⟩
      cases e with
      | un => trivial
      | dt d => exact h2
      | hold ks zs =>
        obtain ⟨q, ws, e1, e2, e3, e4, e5, e6⟩ := h2
        exact ⟨q, ws, e1, e2, e3, e4, by rw [upd_ne (ne_of_none e5 hp)]; exact e5, e6⟩
  · have fresh : ∀ (m : Nat) (zs : Option (List Int) × List D), i ≠ m → ρ[m]? = some (.hold zs.1 zs.2) → σ[m]? = some (some (.ref p)) → False := fun m zs _ a b => by
      obtain ⟨so, c1, q, ws, c2, _, _, _, c5, _⟩ := R.slots m _ a
      rw [b] at c1; cases c1
      cases c2
      rw [hp] at c5; cases c5
    rcases get_set h1 with ⟨z1, _⟩ | ⟨n1, h1⟩
    · rcases get_set h2 with ⟨z2, _⟩ | ⟨n2, h2⟩
      · rw [← z1, ← z2]
      · rw [set_get n2] at h4
        subst z1
        rcases get_set h3 with ⟨_, z⟩ | ⟨n, _⟩
        · cases z; exact (fresh k _ n2 h2 h4).elim
        · exact absurd rfl n
    · rw [set_get n1] at h3
      rcases get_set h2 with ⟨z2, _⟩ | ⟨n2, h2⟩
      · subst z2
        rcases get_set h4 with ⟨_, z⟩ | ⟨n, _⟩
        · cases z; exact (fresh j _ n1 h1 h3).elim
        · exact absurd rfl n
      · rw [set_get n2] at h4
        exact R.apart j k q xs' ys' h1 h2 h3 h4
theorem Rep.setOwn (R : Rep F ρ g σ H S) (i : Nat) {p : Addr} {vs : List V} {xs : List D} (hp : H p = none) (hs : Dns F.c S vs xs) : Rep F (ρ.set i (.own xs)) g (σ.set i (some (.ref p))) (upd H p (.lst vs)) S := R.setHold (kx := none) i hp hs
/-- such a list is written -/
theorem Rep.writeHold (R : Rep F ρ g σ H S) {i : Nat} {p : Addr} {kx kz : Option (List Int)} {xs zs : List D} {ws : List V} (hi : ρ[i]? = some (.hold kx xs)) (hσ : σ[i]? = some (some (.ref p))) (hs : Dns F.c S ws zs) : Rep F (ρ.set i (.hold kz zs)) g σ (upd H p (shO kz ws)) S := by
  obtain ⟨so, e0, p', vs, e1, e2, e3, e4, e5, e6⟩ := R.slots i _ hi
  rw [hσ] at e0; cases e0; cases e1
  refine ⟨fun b o e => by rw [upd_ne (ne_of_none e e2)]; exact R.sub _ _ e, R.hand.up1 e4, fun b o e h => by rw [upd_ne (ne_of_none e e3)]; exact R.keep b o e h, R.stay, fun j e h => ?_, fun j k q xs' ys' h1 h2 h3 h4 => ?_⟩
  · rcases get_set h with ⟨rfl, rfl⟩ | ⟨ne, h⟩
    · exact ⟨_, hσ, p, ws, rfl, e2, e3, e4, upd_same, hs⟩
    · obtain ⟨so, h1, h2⟩ := R.slots j e h
      refine ⟨so, h1, ?_⟩
      cases e with
      | un => trivial
      | dt d => exact h2
      | hold ks ys =>
        obtain ⟨q, us, c1, c2, c3, c4, c5, c6⟩ := h2
        have nq : q ≠ p := fun z => by
          subst z; subst c1
          exact ne (R.apart i j q (kx, xs) (ks, ys) hi h hσ h1)
        exact ⟨q, us, c1, c2, c3, c4, by rw [upd_ne nq]; exact c5, c6⟩
  · have at_ : ∀ (m : Nat) (us : Option (List Int) × List D), (ρ.set i (.hold kz zs))[m]? = some (.hold us.1 us.2) → ∃ us' : Option (List Int) × List D, ρ[m]? = some (.hold us'.1 us'.2) := fun m us a => by
      rcases get_set a with ⟨z, _⟩ | ⟨_, a⟩
      · subst z; exact ⟨(kx, xs), hi⟩
      · exact ⟨us, a⟩
    obtain ⟨_, h1⟩ := at_ j _ h1
    obtain ⟨_, h2⟩ := at_ k _ h2
    exact R.apart j k q _ _ h1 h2 h3 h4
theorem Rep.writeOwn (R : Rep F ρ g σ H S) {i : Nat} {p : Addr} {xs zs : List D} {ws : List V} (hi : ρ[i]? = some (.own xs)) (hσ : σ[i]? = some (some (.ref p))) (hs : Dns F.c S ws zs) : Rep F (ρ.set i (.own zs)) g σ (upd H p (.lst ws)) S := R.writeHold (kz := none) hi hσ hs
/-- the list that a name alone holds stands for good from now on -/
theorem Rep.freeze (R : Rep F ρ g σ H S) {i : Nat} {xs : List D} (hi : ρ[i]? = some (.own xs)) : ∃ S', Same S S' ∧ Rep F (ρ.set i (.dt (.lst xs))) g σ H S' := by
  obtain ⟨so, e0, p, vs, e1, e2, e3, e4, e5, e6⟩ := R.slots i _ hi
  subst e1
  have sm : Same S (upd S p (.lst vs)) := Same.upd_new e2
  refine ⟨upd S p (.lst vs), sm, fun b o e => ?_, ?_, R.keep, fun b e h => ?_, fun j e h => ?_, fun j k q xs' ys' h1 h2 h3 h4 => ?_⟩
  · by_cases hb : b = p
    · subst hb; rw [upd_same] at e; cases e; exact e5
    · rw [upd_ne hb] at e; exact R.sub _ _ e
  · have h := R.hand
    unfold HandAt at h ⊢
    cases ea : F.c.ah with
    | none => trivial
    | some a =>
      rw [ea] at h
      obtain ⟨h1, q, h2, h3⟩ := h
      have ne : a ≠ p := fun z => e4 (by rw [ea, z])
      exact ⟨by rw [upd_ne ne]; exact h1, q, h2, sm _ _ h3⟩
  · have ne : b ≠ p := fun z => e (by rw [z]; exact e3)
    rw [upd_ne ne]; exact R.stay b e h
  · rcases get_set h with ⟨rfl, rfl⟩ | ⟨ne, h⟩
    · exact ⟨_, e0, _, rfl, .lst upd_same (e6.mono sm)⟩
    · obtain ⟨so, h1, h2⟩ := R.slots j e h
      refine ⟨so, h1, ?_⟩
      cases e with
      | un => trivial
      | dt d => obtain ⟨v, c1, c2⟩ := h2; exact ⟨v, c1, c2.mono sm⟩
      | hold ks ys =>
        obtain ⟨q, us, c1, c2, c3, c4, c5, c6⟩ := h2
        have nq : q ≠ p := fun z => by
          subst z; subst c1
          exact ne (R.apart i j q (none, xs) (ks, ys) hi h e0 h1)
        exact ⟨q, us, c1, by rw [upd_ne nq]; exact c2, c3, c4, c5, c6.mono sm⟩
  · rcases get_set h1 with ⟨_, z⟩ | ⟨n1, h1⟩
    · cases z
    rcases get_set h2 with ⟨_, z⟩ | ⟨n2, h2⟩
    · cases z
    exact R.apart j k q xs' ys' h1 h2 h3 h4
/-- behind a call -/
theorem Rep.back (R : Rep F ρ g σ H S) {g' : Gh} {H' S' : Hp} (sm : Same S S') (B : Rep ⟨F.c, H, S⟩ [] g' [] H' S') : Rep F ρ g' σ H' S' := by
  refine ⟨B.sub, B.hand, fun b o e h => B.keep b o (R.keep b o e h) h, fun b e h => ?_, fun i e h => ?_, R.apart⟩
  · by_cases ha : F.c.ah = some b
    · exact (B.hand_some ha).1
    · refine B.stay b ?_ (R.stay b e h)
      cases q : F.HE b with
      | none => exact absurd q e
      | some o => show H b ≠ none; rw [R.keep b o q ha]; simp
  · obtain ⟨so, h1, h2⟩ := R.slots i e h
    refine ⟨so, h1, ?_⟩
    cases e with
    | un => trivial
    | dt d => obtain ⟨v, c1, c2⟩ := h2; exact ⟨v, c1, c2.mono sm⟩
    | hold ks ys =>
      obtain ⟨q, us, c1, c2, c3, c4, c5, c6⟩ := h2
      refine ⟨q, us, c1, B.stay q (by show H q ≠ none; rw [c5]; simp) c2, c3, c4, B.keep q _ c5 c4, c6.mono sm⟩
end
end FD
set_option Elab.async false
set_option linter.all false
set_option maxRecDepth 100000
set_option maxHeartbeats 2000000
namespace FD
open PySem L2

inductive Out (α : Type) where
  | ok (a : α) (g : Gh)
  | ex (c : Str) (ks : List Str) (ds : List D) (g : Gh)
abbrev M (α : Type) := Option (Out α)
@[simp] def M.bd {α β : Type} (m : M α) (k : α → Gh → M β) : M β := match m with
  | none => none
  | some (.ok a g) => k a g
  | some (.ex c ks ds g) => some (.ex c ks ds g)
@[simp] def lift {α : Type} (o : Option α) (g : Gh) : M α := match o with
  | none => none
  | some a => some (.ok a g)

abbrev FE := List En → Gh → M D
abbrev FA := List En → Gh → M (List D)
abbrev FT := List En → Gh → M Bool
inductive Fl where
  | nx (ρ : List En) | rt (d : D) | bk (ρ : List En) | ct (ρ : List En)
abbrev FS := List En → Gh → M Fl

/-- how an error lies: its own dict's fields -/
def ExAt (c : DC) (S : Hp) (dd : Option Addr) (ks : List Str) (ds : List D) : Prop :=
  ∃ fs : List (Str × V), (match dd with | some d => S d = some (.xd fs) | none => fs = []) ∧ fs.map (·.1) = ks ∧ Dns c S (fs.map (·.2)) ds
def GotX (F : Fx) (S : Hp) (E : XK) (c : Str) (ks : List Str) (ds : List D) (g : Gh) : Prop :=
  ∀ A dd H' S', F.c.mg c = some (.ref A) → Same S S' → Rep F [] g [] H' S' → ExAt F.c S' dd ks ds → E (.ref A) dd H'
abbrev Rl (β α : Type) := DC → Hp → β → α → Prop
abbrev rB : Rl Bool Bool := fun _ _ b a => b = a
def Got {β α : Type} (rel : Rl β α) (F : Fx) (ρ : List En) (σ : St) (S : Hp) (E : XK) (Q : β → Hp → Prop) : M α → Prop
  | none => False
  | some (.ok a g) => ∀ b H' S', Same S S' → Rep F ρ g σ H' S' → rel F.c S' b a → Q b H'
  | some (.ex c ks ds g) => GotX F S E c ks ds g
theorem GotX.mono {F : Fx} {S S1 : Hp} {E : XK} {c ks ds g} (h : GotX F S E c ks ds g) (sm : Same S S1) : GotX F S1 E c ks ds g :=
  fun A dd H' S' m s R x => h A dd H' S' m (sm.trans s) R x
theorem Got.mono {β α : Type} {rel : Rl β α} {F : Fx} {ρ : List En} {σ : St} {S S1 : Hp} {E : XK} {Q : β → Hp → Prop} {m : M α} (h : Got rel F ρ σ S E Q m) (sm : Same S S1) : Got rel F ρ σ S1 E Q m := by
  cases m with
  | none => exact h
  | some o => cases o with
    | ok a g => exact fun b H' S' s R r => h b H' S' (sm.trans s) R r
    | ex c ks ds g => exact GotX.mono h sm

abbrev TX (β : Type) := St → Hp → (β → Hp → Prop) → Prop
/-- the reading t goes as the function f says -/
structure RG {β α : Type} (rel : Rl β α) (c : DC) (E : St → XK) (t : TX β) (f : List En → Gh → M α) : Prop where
  run : ∀ (F : Fx) (ρ : List En) (g : Gh) (σ : St) (H S : Hp) (Q : β → Hp → Prop), F.c = c → Rep F ρ g σ H S → Got rel F ρ σ S (E σ) Q (f ρ g) → t σ H Q
abbrev RE := @RG V D Dn
abbrev RA := @RG (List V) (List D) Dns
abbrev RT := @RG Bool Bool rB

/-- one after another -/
theorem RG.bind {β α β' α' : Type} {rel : Rl β α} {rel' : Rl β' α'} {c : DC} {E : St → XK} {ta : TX β} {fa : List En → Gh → M α} (ha : RG rel c E ta fa) {r : St → β → Hp → (β' → Hp → Prop) → Prop} {k : List En → α → Gh → M α'}
    (hk : ∀ F ρ g σ H S Q b a, F.c = c → Rep F ρ g σ H S → rel c S b a → Got rel' F ρ σ S (E σ) Q (k ρ a g) → r σ b H Q) : RG rel' c E (fun σ H Q => ta σ H fun b H1 => r σ b H1 Q) (fun ρ g => (fa ρ g).bd (k ρ)) := by
  refine ⟨fun F ρ g σ H S Q e R G => ha.run F ρ g σ H S _ e R ?_⟩
  cases h : fa ρ g with
  | none => simp only [M.bd, h] at G; exact G
  | some o => cases o with
    | ok a g1 =>
      simp only [M.bd, h] at G
      exact fun b H1 S1 sm R1 rl => hk F ρ g1 σ H1 S1 Q b a e R1 (e ▸ rl) (G.mono sm)
    | ex cc ks ds g1 => simp only [M.bd, h] at G; exact G
/-- the same at a place -/
theorem RG.step {β α β' α' : Type} {rel : Rl β α} {rel' : Rl β' α'} {c : DC} {E : St → XK} {t : TX β} {fa : List En → Gh → M α} (ha : RG rel c E t fa) {F : Fx} {ρ : List En} {g : Gh} {σ : St} {H S : Hp} {Q : β' → Hp → Prop} {k : α → Gh → M α'} {r : β → Hp → Prop}
    (e : F.c = c) (R : Rep F ρ g σ H S) (G : Got rel' F ρ σ S (E σ) Q ((fa ρ g).bd k)) (hk : ∀ H1 S1 g1 b a, Same S S1 → Rep F ρ g1 σ H1 S1 → rel c S1 b a → Got rel' F ρ σ S1 (E σ) Q (k a g1) → r b H1) : t σ H r := by
  refine ha.run F ρ g σ H S _ e R ?_
  cases h : fa ρ g with
  | none => simp only [M.bd, h] at G; exact G
  | some o => cases o with
    | ok a g1 =>
      simp only [M.bd, h] at G
      exact fun b H1 S1 sm R1 rl => hk H1 S1 g1 b a sm R1 (e ▸ rl) (G.mono sm)
    | ex cc ks ds g1 => simp only [M.bd, h] at G; exact G
/-- hand back what stands -/
theorem Got.ret {β α : Type} {rel : Rl β α} {F : Fx} {ρ : List En} {σ : St} {H S : Hp} {E : XK} {Q : β → Hp → Prop} {a : α} {g : Gh} {b : β} (G : Got rel F ρ σ S E Q (some (.ok a g))) (R : Rep F ρ g σ H S) (h : rel F.c S b a) : Q b H := G b H S (Same.refl S) R h
theorem Got.new {F : Fx} {ρ : List En} {σ : St} {H S : Hp} {E : XK} {Q : VK} {d : D} {g : Gh} {p : Addr} {o : HO} (G : Got Dn F ρ σ S E Q (some (.ok d g))) (R : Rep F ρ g σ H S) (hp : H p = none) (h : Dn F.c (upd S p o) (.ref p) d) : Q (.ref p) (upd H p o) :=
  G (.ref p) _ _ (R.tosame o hp) (R.up o hp) h

section
variable {X : Cx} {ah : Option Addr} {E : St → XK}
abbrev dc (X : Cx) (ah : Option Addr) : DC := ⟨X.K, X.mg, ah⟩
/-- an expression goes as f -/
def PF (X : Cx) (ah : Option Addr) (E : St → XK) (e : Expr) (f : FE) : Prop := ∃ t, PE X e t ∧ RE (dc X ah) E t f
def PFA (X : Cx) (ah : Option Addr) (E : St → XK) (es : List Expr) (f : FA) : Prop := ∃ t, PA X es t ∧ RA (dc X ah) E t f
def PFT (X : Cx) (ah : Option Addr) (E : St → XK) (e : Expr) (f : FT) : Prop := ∃ t, PT X e t ∧ RT (dc X ah) E t f
def PFW (X : Cx) (ah : Option Addr) (E : St → XK) (e : Expr) (f : FT) : Prop := ∃ t, PW X e t ∧ RT (dc X ah) E t f

/-! ### names and constants -/
@[simp] def cV (i : Nat) : FE := fun ρ g => match ρ[i]? with
  | some (.dt d) => some (.ok d g)
  | _ => none
@[simp] def cD (d : D) : FE := fun _ g => some (.ok d g)
theorem re_var (c : DC) (i : Nat) : RE c E (tVar i) (cV i) := by
  refine ⟨fun F ρ g σ H S Q e R G => ?_⟩
  simp only [cV] at G
  cases h : ρ[i]? with
  | none => rw [h] at G; exact G.elim
  | some en => cases en with
    | dt d =>
      rw [h] at G
      obtain ⟨so, h1, v, rfl, hv⟩ := R.slots i _ h
      exact ⟨v, h1, G.ret R hv⟩
    | un => rw [h] at G; exact G.elim
    | hold ks xs => rw [h] at G; exact G.elim
theorem pf_v (i : Nat) {x : Str} {pos : Pos} (hN : X.N[i]? = some x := by rfl) (hv : Vis X.env.scope x := by first | exact Or.inl rfl | exact Or.inr (Or.inl rfl) | exact Or.inr (Or.inr rfl)) (hd : (x == ("__debug__" : Str)) = false := by decide)
    (hcd : (x == ("__classdict__" : Str)) = false := by decide) : PF X ah E (.Name x pos) (cV i) := ⟨_, pe_var hN hv hd hcd, re_var _ i⟩
theorem re_c {c : DC} {v : V} {d : D} (h : ∀ S, Dn c S v d) : RE c E (tC v) (cD d) := ⟨fun F ρ g σ H S Q e R G => G.ret R (e ▸ h S)⟩
theorem pf_int {i j pos} : PF X ah E (.Constant (.int i) j pos) (cD (.int i)) := ⟨_, pe_int, re_c fun _ => .int i⟩
theorem pf_bl {b j pos} : PF X ah E (.Constant (.bool b) j pos) (cD (.bl b)) := ⟨_, pe_bl, re_c fun _ => .bl b⟩
theorem pf_non {j pos} : PF X ah E (.Constant .none j pos) (cD .non) := ⟨_, pe_non, re_c fun _ => .non⟩
theorem pf_str {x j pos} : PF X ah E (.Constant (.str x) j pos) (cD (.str x)) := ⟨_, pe_str, re_c fun _ => .str x⟩
/-- a module's constant -/
theorem pf_glob {x : Str} {v : V} {u : Value} {d : D} {pos : Pos} (hg : Gl X x) (hm : X.mg x = some u) (r : RelV v u) (h : ∀ S, Dn (dc X ah) S v d) (hd : (x == ("__debug__" : Str)) = false := by decide) : PF X ah E (.Name x pos) (cD d) :=
  ⟨_, pe_glob hg hm r hd, re_c h⟩

/-! ### arguments -/
@[simp] def cN : FA := fun _ g => some (.ok [] g)
@[simp] def cC (a : FE) (b : FA) : FA := fun ρ g => (a ρ g).bd fun x g1 => (b ρ g1).bd fun xs g2 => some (.ok (x :: xs) g2)
theorem pfa_nil : PFA X ah E [] cN := ⟨_, pa_nil, ⟨fun F ρ g σ H S Q e R G => G.ret (b := []) R .nil⟩⟩
theorem ra_cons {c : DC} {te : TE} {t : TA} {a : FE} {b : FA} (ha : RE c E te a) (hb : RA c E t b) : RA c E (tCons te t) (cC a b) := by
  refine RG.bind (r := fun σ x H1 Q => t σ H1 fun xs H2 => Q (x :: xs) H2) (k := fun ρ x g1 => (b ρ g1).bd fun xs g2 => some (.ok (x :: xs) g2)) ha fun F ρ g σ H S Q x d e R hx G => ?_
  refine hb.run F ρ g σ H S _ e R ?_
  cases h : b ρ g with
  | none => simp only [M.bd, h] at G; exact G
  | some o => cases o with
    | ex cc ks ds g1 => simp only [M.bd, h] at G; exact G
    | ok ds g1 =>
      simp only [M.bd, h] at G
      exact fun vs H1 S1 sm R1 hv => G (x :: vs) H1 S1 sm R1 (.cons (e ▸ (hx.mono sm)) hv)
theorem pfa_cons {e : Expr} {es : List Expr} {a : FE} {b : FA} (ha : PF X ah E e a) (hb : PFA X ah E es b) (hs : starEach (e :: es) X.env = (false, eval e X.env) :: starEach es X.env := by rfl) : PFA X ah E (e :: es) (cC a b) := by
  obtain ⟨t, p, r⟩ := ha
  obtain ⟨u, q, s⟩ := hb
  exact ⟨_, pa_cons p q hs, ra_cons r s⟩

/-! ### displays -/
@[simp] def cTup (a : FA) : FE := fun ρ g => (a ρ g).bd fun xs g1 => if xs.length ≤ 1000 then some (.ok (.tup xs) g1) else none
@[simp] def cLst (a : FA) : FE := fun ρ g => (a ρ g).bd fun xs g1 => if xs.length ≤ 1000 then some (.ok (.lst xs) g1) else none
theorem line_of {n : Nat} (h : n ≤ 1000) : n ≤ sizeLine := Nat.le_of_lt (small1000 h)
theorem pf_tup {es : List Expr} {a : FA} {x1 pos} (ha : PFA X ah E es a) : PF X ah E (.Tuple es x1 pos) (cTup a) := by
  obtain ⟨t, p, r⟩ := ha
  refine ⟨_, pe_tup p, ?_⟩
  refine RG.bind (r := fun σ (xs : List V) H1 (Q : VK) => xs.length ≤ sizeLine ∧ ∀ p, H1 p = none → Q (.ref p) (upd H1 p (.tup xs))) (k := fun ρ (xs : List D) g1 => if xs.length ≤ 1000 then some (.ok (D.tup xs) g1) else none) r fun F ρ g σ H S Q vs ds e R hx G => ?_
  split at G
  · rename_i hl
    refine ⟨by rw [hx.length]; exact line_of hl, fun p hp => G.new R hp ?_⟩
    exact .tup (SqT.of upd_same) (e ▸ (hx.mono (R.tosame _ hp)))
  · exact G.elim
theorem pf_lst {es : List Expr} {a : FA} {pos} (ha : PFA X ah E es a) : PF X ah E (.List es pos) (cLst a) := by
  obtain ⟨t, p, r⟩ := ha
  refine ⟨_, pe_lst p, ?_⟩
  refine RG.bind (r := fun σ (xs : List V) H1 (Q : VK) => xs.length ≤ sizeLine ∧ ∀ p, H1 p = none → Q (.ref p) (upd H1 p (.lst xs))) (k := fun ρ (xs : List D) g1 => if xs.length ≤ 1000 then some (.ok (D.lst xs) g1) else none) r fun F ρ g σ H S Q vs ds e R hx G => ?_
  split at G
  · rename_i hl
    refine ⟨by rw [hx.length]; exact line_of hl, fun p hp => G.new R hp ?_⟩
    exact .lst upd_same (e ▸ (hx.mono (R.tosame _ hp)))
  · exact G.elim
/-- {} -/
theorem pf_emp {pos} : PF X ah E (.Dict [] [] pos) (cD .emp) := ⟨_, pe_dnewK, ⟨fun F ρ g σ H S Q e R G => fun p hp => G.new R hp (.emp upd_same)⟩⟩

/-- {k: x}, x a name -/
@[simp] def c1E (a : FE) : FE := fun ρ g => (a ρ g).bd fun _ g1 => some (.ok .emp g1)
theorem pf_dict1 {k : Int} {x : Str} {kj : Nat} {kp vp pos : Pos} (i : Nat) (hN : X.N[i]? = some x := by rfl) (hv : Vis X.env.scope x := by first | exact Or.inl rfl | exact Or.inr (Or.inl rfl) | exact Or.inr (Or.inr rfl)) (hd : (x == ("__debug__" : Str)) = false := by decide)
    (hcd : (x == ("__classdict__" : Str)) = false := by decide) : PF X ah E (.Dict [some (.Constant (.int k) kj kp)] [.Name x vp] pos) (c1E (cV i)) := by
  refine ⟨_, pe_disp (pps_cons pe_int (pe_var hN hv hd hcd) pps_nil) rfl rfl (by simp) (by simp), ⟨fun F ρ g σ H S Q e R G => ?_⟩⟩
  simp only [c1E, cV] at G
  cases h : ρ[i]? with
  | none => rw [h] at G; exact G.elim
  | some en => cases en with
    | dt d =>
      rw [h] at G
      obtain ⟨so, h1, v, rfl, hv⟩ := R.slots i _ h
      refine fun p hp => ?_
      refine ⟨v, h1, upd_same, [(Sum.inl k, v)], rfl, by simp, ?_⟩
      rw [upd_upd]
      exact G.new R hp (.emp upd_same)
    | un => rw [h] at G; exact G.elim
    | hold ks xs => rw [h] at G; exact G.elim

/-! ### operators of two values -/
/-- the rule r holds where op tells the value -/
def OpS (c : DC) (r : R2) (op : D → D → Option D) : Prop :=
  ∀ (E : XK) F ρ g σ H S Q x y dx dy, F.c = c → Rep F ρ g σ H S → Dn c S x dx → Dn c S y dy → Got Dn F ρ σ S E Q (lift (op dx dy) g) → r x y H Q
@[simp] def cOp (op : D → D → Option D) (a b : FE) : FE := fun ρ g => (a ρ g).bd fun x g1 => (b ρ g1).bd fun y g2 => lift (op x y) g2
theorem re_op {c : DC} {r : R2} {op : D → D → Option D} {ta tb : TE} {a b : FE} (ho : OpS c r op) (ha : RE c E ta a) (hb : RE c E tb b) : RE c E (tOp r ta tb) (cOp op a b) := by
  refine RG.bind (r := fun σ x H1 Q => tb σ H1 fun y H2 => r x y H2 Q) (k := fun ρ x g1 => (b ρ g1).bd fun y g2 => lift (op x y) g2) ha fun F ρ g σ H S Q x d e R hx G => ?_
  refine hb.run F ρ g σ H S _ e R ?_
  cases h : b ρ g with
  | none => simp only [M.bd, h] at G; exact G
  | some o => cases o with
    | ex cc ks ds g1 => simp only [M.bd, h] at G; exact G
    | ok dy g1 =>
      simp only [M.bd, h] at G
      exact fun y H1 S1 sm R1 hv => ho (E σ) F ρ g1 σ H1 S1 Q x y d dy e R1 (hx.mono sm) (e ▸ hv) (Got.mono G sm)
theorem pf_bin {o : Operator} {r : R2} {op : D → D → Option D} {e1 e2 : Expr} {a b : FE} {pos} (hr : OpR X (binaryOp o) r) (ho : OpS (dc X ah) r op) (ha : PF X ah E e1 a) (hb : PF X ah E e2 b) : PF X ah E (.BinOp e1 o e2 pos) (cOp op a b) := by
  obtain ⟨t, p, r1⟩ := ha
  obtain ⟨u, q, r2⟩ := hb
  exact ⟨_, pe_op hr p q, re_op ho r1 r2⟩
theorem pf_cmp {o : CmpOp} {r : R2} {op : D → D → Option D} {e1 e2 : Expr} {a b : FE} {pos} (hr : OpR X (compareOp o) r) (ho : OpS (dc X ah) r op) (ha : PF X ah E e1 a) (hb : PF X ah E e2 b) (hm : behindInMarks o e2 = false) : PF X ah E (.Compare e1 [o] [e2] pos) (cOp op a b) := by
  obtain ⟨t, p, r1⟩ := ha
  obtain ⟨u, q, r2⟩ := hb
  exact ⟨_, pe_cmpR hr p q hm, re_op ho r1 r2⟩
theorem pf_ix {r : R2} {op : D → D → Option D} {e1 e2 : Expr} {a b : FE} {pos} (hr : IxR X r) (ho : OpS (dc X ah) r op) (ha : PF X ah E e1 a) (hb : PF X ah E e2 b) (hs : PlainIx e2) : PF X ah E (.Subscript e1 e2 pos) (cOp op a b) := by
  obtain ⟨t, p, r1⟩ := ha
  obtain ⟨u, q, r2⟩ := hb
  exact ⟨_, pe_ix hr p q hs, re_op ho r1 r2⟩

/-! ### tests -/
@[simp] def toB : D → Option Bool
  | .bl b => some b
  | _ => none
/-- an expression that is a flag, as a test -/
@[simp] def cT (a : FE) : FT := fun ρ g => (a ρ g).bd fun x g1 => lift (toB x) g1
theorem rt_of {c : DC} {t : TE} {a : FE} (ha : RE c E t a) : RT c E (tTest t) (cT a) := by
  refine RG.bind (r := fun σ x H1 (Q : Bool → Hp → Prop) => ∃ k, x = .bl k ∧ Q k H1) (k := fun ρ x g1 => lift (toB x) g1) ha fun F ρ g σ H S Q x d e R hx G => ?_
  cases hx <;> simp only [toB, lift] at G <;> first | exact G.elim | exact ⟨_, rfl, G.ret R rfl⟩
theorem pft_cmp {o : CmpOp} {r : R2} {op : D → D → Option D} {e1 e2 : Expr} {a b : FE} {pos} (hr : OpR X (compareOp o) r) (ho : OpS (dc X ah) r op) (ha : PF X ah E e1 a) (hb : PF X ah E e2 b) (hm : behindInMarks o e2 = false) : PFT X ah E (.Compare e1 [o] [e2] pos) (cT (cOp op a b)) := by
  obtain ⟨t, p, r1⟩ := ha
  obtain ⟨u, q, r2⟩ := hb
  exact ⟨_, pt_cmpR hr p q hm, rt_of (re_op ho r1 r2)⟩
theorem pft_val {e : Expr} {a : FE} (ha : PF X ah E e a) (he : ∀ whole, isTrue e X.env whole = (do let v ← whole; standAt e.pos; holding [v] (truthy v)) := by intro _; rfl) : PFT X ah E e (cT a) := by
  obtain ⟨t, p, r⟩ := ha
  exact ⟨_, pt_val p he, rt_of r⟩
@[simp] def cAnd (a b : FT) : FT := fun ρ g => (a ρ g).bd fun x g1 => if x = true then b ρ g1 else some (.ok false g1)
@[simp] def cOr (a b : FT) : FT := fun ρ g => (a ρ g).bd fun x g1 => if x = true then some (.ok true g1) else b ρ g1
@[simp] def cNot (a : FT) : FT := fun ρ g => (a ρ g).bd fun x g1 => some (.ok (!x) g1)
theorem pfw_and1 {e : Expr} {a : FT} {pos} (ha : PFT X ah E e a) : PFW X ah E (.BoolOp .And [e] pos) a := by
  obtain ⟨t, p, r⟩ := ha
  exact ⟨_, pw_and1 p, r⟩
theorem pfw_or1 {e : Expr} {a : FT} {pos} (ha : PFT X ah E e a) : PFW X ah E (.BoolOp .Or [e] pos) a := by
  obtain ⟨t, p, r⟩ := ha
  exact ⟨_, pw_or1 p, r⟩
theorem pfw_and {e b : Expr} {rest : List Expr} {f k : FT} {pos} (ha : PFT X ah E e f) (hb : PFW X ah E (.BoolOp .And (b :: rest) pos) k) : PFW X ah E (.BoolOp .And (e :: b :: rest) pos) (cAnd f k) := by
  obtain ⟨t, p, r⟩ := ha
  obtain ⟨u, q, s⟩ := hb
  refine ⟨_, pw_and p q, ?_⟩
  refine RG.bind (r := fun σ (x : Bool) H1 Q => if x = true then u σ H1 Q else Q false H1) (k := fun ρ (x : Bool) g1 => if x = true then k ρ g1 else some (.ok false g1)) r fun F ρ g σ H S Q x d e R hx G => ?_
  cases hx
  cases x with
  | true => exact s.run F ρ g σ H S Q e R G
  | false => exact G.ret R rfl
theorem pfw_or {e b : Expr} {rest : List Expr} {f k : FT} {pos} (ha : PFT X ah E e f) (hb : PFW X ah E (.BoolOp .Or (b :: rest) pos) k) : PFW X ah E (.BoolOp .Or (e :: b :: rest) pos) (cOr f k) := by
  obtain ⟨t, p, r⟩ := ha
  obtain ⟨u, q, s⟩ := hb
  refine ⟨_, pw_or p q, ?_⟩
  refine RG.bind (r := fun σ (x : Bool) H1 Q => if x = true then Q true H1 else u σ H1 Q) (k := fun ρ (x : Bool) g1 => if x = true then some (.ok true g1) else k ρ g1) r fun F ρ g σ H S Q x d e R hx G => ?_
  cases hx
  cases x with
  | true => exact G.ret R rfl
  | false => exact s.run F ρ g σ H S Q e R G
theorem pft_w {e : Expr} {f : FT} (h : PFW X ah E e f) : PFT X ah E e f := by
  obtain ⟨t, p, r⟩ := h
  exact ⟨_, p.pt, r⟩
theorem pft_not {e : Expr} {f : FT} {pos} (ha : PFT X ah E e f) : PFT X ah E (.UnaryOp .Not e pos) (cNot f) := by
  obtain ⟨t, p, r⟩ := ha
  refine ⟨_, pt_not p, ?_⟩
  refine RG.bind (r := fun σ x H1 (Q : Bool → Hp → Prop) => Q (!x) H1) (k := fun ρ x g1 => some (.ok (!x) g1)) r fun F ρ g σ H S Q x d e R hx G => ?_
  cases hx
  exact G.ret R rfl
/-! as values -/
@[simp] def cAndV (a b : FE) : FE := fun ρ g => (a ρ g).bd fun x g1 => match x with
  | .bl true => b ρ g1
  | .bl false => some (.ok (.bl false) g1)
  | _ => none
@[simp] def cOrV (a b : FE) : FE := fun ρ g => (a ρ g).bd fun x g1 => match x with
  | .bl false => b ρ g1
  | .bl true => some (.ok (.bl true) g1)
  | _ => none
@[simp] def nB : D → Option D
  | .bl b => some (.bl (!b))
  | _ => none
@[simp] def c1 (op : D → Option D) (a : FE) : FE := fun ρ g => (a ρ g).bd fun x g1 => lift (op x) g1
theorem pf_one {e : Expr} {op} {a : FE} {pos} (ha : PF X ah E e a) : PF X ah E (.BoolOp op [e] pos) a := by
  obtain ⟨t, p, r⟩ := ha
  exact ⟨_, pe_one p, r⟩
theorem pf_and {e b : Expr} {rest : List Expr} {f k : FE} {pos} (ha : PF X ah E e f) (hb : PF X ah E (.BoolOp .And (b :: rest) pos) k) : PF X ah E (.BoolOp .And (e :: b :: rest) pos) (cAndV f k) := by
  obtain ⟨t, p, r⟩ := ha
  obtain ⟨u, q, s⟩ := hb
  refine ⟨_, pe_and p q, ?_⟩
  refine RG.bind (r := fun σ x H1 (Q : VK) => ∃ c, x = .bl c ∧ if c = true then u σ H1 Q else Q (.bl false) H1) (k := fun ρ x g1 => match x with
  | .bl true => k ρ g1
  | .bl false => some (.ok (.bl false) g1)
  | _ => none) r fun F ρ g σ H S Q x d e R hx G => ?_
  cases hx <;> first | exact G.elim | skip
  rename_i b
  cases b with
  | true => exact ⟨true, rfl, s.run F ρ g σ H S Q e R G⟩
  | false => exact ⟨false, rfl, G.ret R (.bl false)⟩
theorem pf_or {e b : Expr} {rest : List Expr} {f k : FE} {pos} (ha : PF X ah E e f) (hb : PF X ah E (.BoolOp .Or (b :: rest) pos) k) : PF X ah E (.BoolOp .Or (e :: b :: rest) pos) (cOrV f k) := by
  obtain ⟨t, p, r⟩ := ha
  obtain ⟨u, q, s⟩ := hb
  refine ⟨_, pe_or p q, ?_⟩
  refine RG.bind (r := fun σ x H1 (Q : VK) => ∃ c, x = .bl c ∧ if c = true then Q (.bl true) H1 else u σ H1 Q) (k := fun ρ x g1 => match x with
  | .bl false => k ρ g1
  | .bl true => some (.ok (.bl true) g1)
  | _ => none) r fun F ρ g σ H S Q x d e R hx G => ?_
  cases hx <;> first | exact G.elim | skip
  rename_i b
  cases b with
  | false => exact ⟨false, rfl, s.run F ρ g σ H S Q e R G⟩
  | true => exact ⟨true, rfl, G.ret R (.bl true)⟩
theorem pf_not {e : Expr} {f : FE} {pos} (ha : PF X ah E e f) : PF X ah E (.UnaryOp .Not e pos) (c1 nB f) := by
  obtain ⟨t, p, r⟩ := ha
  refine ⟨_, pe_not p, ?_⟩
  refine RG.bind (r := fun σ x H1 (Q : VK) => ∃ c, x = .bl c ∧ Q (.bl (!c)) H1) (k := fun ρ x g1 => lift (nB x) g1) r fun F ρ g σ H S Q x d e R hx G => ?_
  cases hx <;> simp only [nB, lift] at G <;> first | exact G.elim | exact ⟨_, rfl, G.ret R (.bl _)⟩
@[simp] def cIfE (c : FT) (a b : FE) : FE := fun ρ g => (c ρ g).bd fun x g1 => if x = true then a ρ g1 else b ρ g1
theorem pf_ifE {c a b : Expr} {fc : FT} {fa fb : FE} {pos} (hc : PFT X ah E c fc) (ha : PF X ah E a fa) (hb : PF X ah E b fb) : PF X ah E (.IfExp c a b pos) (cIfE fc fa fb) := by
  obtain ⟨t, p, r⟩ := hc
  obtain ⟨u, q, s⟩ := ha
  obtain ⟨v, q', s'⟩ := hb
  refine ⟨_, pe_ifExp p q q', ?_⟩
  refine RG.bind (r := fun σ (x : Bool) H1 Q => if x = true then u σ H1 Q else v σ H1 Q) (k := fun ρ (x : Bool) g1 => if x = true then fa ρ g1 else fb ρ g1) r fun F ρ g σ H S Q x d e R hx G => ?_
  cases hx
  cases x with
  | true => exact s.run F ρ g σ H S Q e R G
  | false => exact s'.run F ρ g σ H S Q e R G

/-! ### statements -/
end
section
variable {X : Cx} {ah : Option Addr} {E : XK}
def GotS (F : Fx) (S : Hp) (E : XK) (Z : Ends) : M Fl → Prop
  | none => False
  | some (.ok (.nx ρ) g) => ∀ σ' H' S', Same S S' → Rep F ρ g σ' H' S' → Z.nx σ' H'
  | some (.ok (.bk ρ) g) => ∀ σ' H' S', Same S S' → Rep F ρ g σ' H' S' → Z.bk σ' H'
  | some (.ok (.ct ρ) g) => ∀ σ' H' S', Same S S' → Rep F ρ g σ' H' S' → Z.ct σ' H'
  | some (.ok (.rt d) g) => ∀ v H' S', Same S S' → Rep F [] g [] H' S' → Dn F.c S' v d → Z.rt v H'
  | some (.ex c ks ds g) => GotX F S E c ks ds g
theorem GotS.mono {F : Fx} {S S1 : Hp} {E : XK} {Z : Ends} {m : M Fl} (h : GotS F S E Z m) (sm : Same S S1) : GotS F S1 E Z m := by
  cases m with
  | none => exact h
  | some o => cases o with
    | ok a g => cases a with
      | nx ρ => exact fun b H' S' s R => h b H' S' (sm.trans s) R
      | bk ρ => exact fun b H' S' s R => h b H' S' (sm.trans s) R
      | ct ρ => exact fun b H' S' s R => h b H' S' (sm.trans s) R
      | rt d => exact fun b H' S' s R r => h b H' S' (sm.trans s) R r
    | ex c ks ds g => exact GotX.mono h sm
structure RS (c : DC) (E : XK) (t : TS) (f : FS) : Prop where
  run : ∀ (F : Fx) (ρ : List En) (g : Gh) (σ : St) (H S : Hp) (Z : Ends), F.c = c → Rep F ρ g σ H S → GotS F S E Z (f ρ g) → t Z σ H
def PFS (X : Cx) (ah : Option Addr) (E : XK) (s : Stmt) (f : FS) : Prop := ∃ t, PS X s t ∧ RS (dc X ah) E t f
def PFSs (X : Cx) (ah : Option Addr) (E : XK) (s : List Stmt) (f : FS) : Prop := ∃ t, PSs X s t ∧ RS (dc X ah) E t f
theorem RG.stepS {β α : Type} {rel : Rl β α} {c : DC} {E : XK} {t : TX β} {fa : List En → Gh → M α} (ha : RG rel c (fun _ => E) t fa) {F : Fx} {ρ : List En} {g : Gh} {σ : St} {H S : Hp} {Z : Ends} {k : α → Gh → M Fl} {r : β → Hp → Prop}
    (e : F.c = c) (R : Rep F ρ g σ H S) (G : GotS F S E Z ((fa ρ g).bd k)) (hk : ∀ H1 S1 g1 b a, Same S S1 → Rep F ρ g1 σ H1 S1 → rel c S1 b a → GotS F S1 E Z (k a g1) → r b H1) : t σ H r := by
  refine ha.run F ρ g σ H S _ e R ?_
  cases h : fa ρ g with
  | none => simp only [M.bd, h] at G; exact G
  | some o => cases o with
    | ok a g1 =>
      simp only [M.bd, h] at G
      exact fun b H1 S1 sm R1 rl => hk H1 S1 g1 b a sm R1 (e ▸ rl) (G.mono sm)
    | ex cc ks ds g1 => simp only [M.bd, h] at G; exact G
/-- an expression, then a statement's rest -/
theorem RS.bind {β α : Type} {rel : Rl β α} {c : DC} {ta : TX β} {fa : List En → Gh → M α} (ha : RG rel c (fun _ => E) ta fa) {r : Ends → St → β → Hp → Prop} {k : List En → α → Gh → M Fl}
    (hk : ∀ F ρ g σ H S Z b a, F.c = c → Rep F ρ g σ H S → rel c S b a → GotS F S E Z (k ρ a g) → r Z σ b H) : RS c E (fun Z σ H => ta σ H fun b H1 => r Z σ b H1) (fun ρ g => (fa ρ g).bd (k ρ)) := by
  refine ⟨fun F ρ g σ H S Z e R G => ha.run F ρ g σ H S _ e R ?_⟩
  cases h : fa ρ g with
  | none => simp only [M.bd, h] at G; exact G
  | some o => cases o with
    | ok a g1 =>
      simp only [M.bd, h] at G
      exact fun b H1 S1 sm R1 rl => hk F ρ g1 σ H1 S1 Z b a e R1 (e ▸ rl) (G.mono sm)
    | ex cc ks ds g1 => simp only [M.bd, h] at G; exact G
@[simp] def sNx : FS := fun ρ g => some (.ok (.nx ρ) g)
@[simp] def sBk : FS := fun ρ g => some (.ok (.bk ρ) g)
@[simp] def sCt : FS := fun ρ g => some (.ok (.ct ρ) g)
def sSeq (a b : FS) : FS := fun ρ g => match a ρ g with
  | none => none
  | some (.ok (.nx ρ1) g1) => b ρ1 g1
  | some (.ok (.bk ρ1) g1) => some (.ok (.bk ρ1) g1)
  | some (.ok (.ct ρ1) g1) => some (.ok (.ct ρ1) g1)
  | some (.ok (.rt d) g1) => some (.ok (.rt d) g1)
  | some (.ex c ks ds g1) => some (.ex c ks ds g1)
theorem rs_nx {c : DC} : RS c E tNext sNx := ⟨fun F ρ g σ H S Z e R G => G σ H S (Same.refl S) R⟩
theorem pfss_nil : PFSs X ah E [] sNx := ⟨_, pss_nil, rs_nx⟩
theorem rs_seq {c : DC} {t u : TS} {a b : FS} (ha : RS c E t a) (hb : RS c E u b) : RS c E (tSeq t u) (sSeq a b) := by
  refine ⟨fun F ρ g σ H S Z e R G => ha.run F ρ g σ H S _ e R ?_⟩
  unfold sSeq at G
  cases h : a ρ g with
  | none => rw [h] at G; exact G
  | some o => cases o with
    | ok f g1 => cases f with
      | nx ρ1 => rw [h] at G; exact fun σ' H' S' sm R' => hb.run F ρ1 g1 σ' H' S' Z e R' (G.mono sm)
      | bk ρ1 => rw [h] at G; exact G
      | ct ρ1 => rw [h] at G; exact G
      | rt d => rw [h] at G; exact G
    | ex cc ks ds g1 => rw [h] at G; exact G
theorem pfss_cons {s : Stmt} {rest : List Stmt} {a b : FS} (ha : PFS X ah E s a) (hb : PFSs X ah E rest b) : PFSs X ah E (s :: rest) (sSeq a b) := by
  obtain ⟨t, p, r⟩ := ha
  obtain ⟨u, q, s⟩ := hb
  exact ⟨_, pss_cons p q, rs_seq r s⟩
theorem pfss_one {s : Stmt} {a : FS} (ha : PFS X ah E s a) : PFSs X ah E [s] a := by
  obtain ⟨t, p, r⟩ := ha
  exact ⟨_, pss_one p, r⟩
theorem pfs_pass {pos} : PFS X ah E (.Pass pos) sNx := ⟨_, ps_pass, rs_nx⟩
theorem pfs_doc {x j pos pos'} : PFS X ah E (.Expr (.Constant (.str x) j pos) pos') sNx := ⟨_, ps_doc, rs_nx⟩
theorem pfs_break {pos} : PFS X ah E (.Break pos) sBk := ⟨_, ps_break, ⟨fun F ρ g σ H S Z e R G => G σ H S (Same.refl S) R⟩⟩
theorem pfs_continue {pos} : PFS X ah E (.Continue pos) sCt := ⟨_, ps_continue, ⟨fun F ρ g σ H S Z e R G => G σ H S (Same.refl S) R⟩⟩
@[simp] def sRet (a : FE) : FS := fun ρ g => (a ρ g).bd fun x g1 => some (.ok (.rt x) g1)
theorem pfs_ret {e : Expr} {a : FE} {pos} (ha : PF X ah (fun _ => E) e a) : PFS X ah E (.Return (some e) pos) (sRet a) := by
  obtain ⟨t, p, r⟩ := ha
  refine ⟨_, ps_ret p, ?_⟩
  exact RS.bind (r := fun Z σ x H1 => Z.rt x H1) (k := fun ρ x g1 => some (.ok (.rt x) g1)) r fun F ρ g σ H S Z x d e R hx G => G x H S (Same.refl S) R.bare (e ▸ hx)
@[simp] def sIf (c : FT) (a b : FS) : FS := fun ρ g => (c ρ g).bd fun x g1 => if x = true then a ρ g1 else b ρ g1
theorem pfs_if {c : Expr} {a b : List Stmt} {fc : FT} {fa fb : FS} {pos} (hc : PFT X ah (fun _ => E) c fc) (ha : PFSs X ah E a fa) (hb : PFSs X ah E b fb) : PFS X ah E (.If c a b pos) (sIf fc fa fb) := by
  obtain ⟨t, p, r⟩ := hc
  obtain ⟨u, q, s⟩ := ha
  obtain ⟨v, q', s'⟩ := hb
  refine ⟨_, ps_if p q q', ?_⟩
  refine RS.bind (r := fun Z σ x H1 => if x = true then u Z σ H1 else v Z σ H1) (k := fun ρ (x : Bool) g1 => if x = true then fa ρ g1 else fb ρ g1) r fun F ρ g σ H S Z x d e R hx G => ?_
  cases hx
  cases x with
  | true => exact s.run F ρ g σ H S Z e R G
  | false => exact s'.run F ρ g σ H S Z e R G
/-- an expression whose value is dropped -/
@[simp] def sDrop (a : FE) : FS := fun ρ g => (a ρ g).bd fun _ g1 => some (.ok (.nx ρ) g1)
theorem pfs_expr {e : Expr} {a : FE} {pos} (ha : PF X ah (fun _ => E) e a) (hs : swapsWith e none pos.line X.env = pure false := by rfl) : PFS X ah E (.Expr e pos) (sDrop a) := by
  obtain ⟨t, p, r⟩ := ha
  refine ⟨_, ps_expr p hs, ?_⟩
  exact RS.bind (r := fun Z σ x H1 => Z.nx σ H1) (k := fun ρ x g1 => some (.ok (.nx ρ) g1)) r fun F ρ g σ H S Z x d e R hx G => G σ H S (Same.refl S) R

/-! ### targets -/
abbrev FG := D → List En → Option (List En)
structure RTg (c : DC) (g : TG) (f : FG) : Prop where
  run : ∀ (F : Fx) (ρ : List En) (gh : Gh) (σ : St) (H S : Hp) (v : V) (d : D) (Q : St → Hp → Prop), F.c = c → Rep F ρ gh σ H S → Dn c S v d →
    (match f d ρ with | none => False | some ρ' => ∀ σ', Rep F ρ' gh σ' H S → Q σ' H) → g v σ H Q
structure RTgs (c : DC) (g : TGs) (f : List D → List En → Option (List En)) : Prop where
  run : ∀ (F : Fx) (ρ : List En) (gh : Gh) (σ : St) (H S : Hp) (vs : List V) (ds : List D) (Q : St → Hp → Prop), F.c = c → Rep F ρ gh σ H S → Dns c S vs ds →
    (match f ds ρ with | none => False | some ρ' => ∀ σ', Rep F ρ' gh σ' H S → Q σ' H) → g vs σ H Q
/-- a target touches these slots alone -/
def TGw (t : TG) (vs : List Nat) : Prop := ∀ x σ H Q, t x σ H Q → t x σ H fun σ2 H2 => Q σ2 H2 ∧ wipe σ2 vs = wipe σ vs
def TGsw (t : TGs) (vs : List Nat) : Prop := ∀ x σ H Q, t x σ H Q → t x σ H fun σ2 H2 => Q σ2 H2 ∧ wipe σ2 vs = wipe σ vs
structure TGm (t : TG) : Prop where
  mono : ∀ x σ H (Q Q' : St → Hp → Prop), (∀ σ2 H2, Q σ2 H2 → Q' σ2 H2) → t x σ H Q → t x σ H Q'
structure TGsm (t : TGs) : Prop where
  mono : ∀ x σ H (Q Q' : St → Hp → Prop), (∀ σ2 H2, Q σ2 H2 → Q' σ2 H2) → t x σ H Q → t x σ H Q'
def PFG (X : Cx) (ah : Option Addr) (e : Expr) (f : FG) (vs : List Nat) : Prop := ∃ t, PG X e t ∧ RTg (dc X ah) t f ∧ TGw t vs ∧ TGm t
def PFGs (X : Cx) (ah : Option Addr) (es : List Expr) (f : List D → List En → Option (List En)) (vs : List Nat) : Prop := ∃ t, PGs X es t ∧ RTgs (dc X ah) t f ∧ TGsw t vs ∧ TGsm t
theorem wipe_get (σ : St) (i : Nat) : ∀ vs : List Nat, (wipe σ vs)[i]? = if i ∈ vs then (if i < σ.length then some none else none) else σ[i]?
  | [] => by simp [wipe]
  | v :: vs => by
    unfold wipe
    rw [List.getElem?_set, wipe_length, wipe_get σ i vs]
    by_cases h : v = i
    · subst h; simp
    · have h' : ¬ i = v := fun e => h e.symm
      simp [h, h']
theorem wipe_set {σ : St} {i : Nat} {x : Option V} {vs : List Nat} (h : i ∈ vs) : wipe (σ.set i x) vs = wipe σ vs := by
  apply List.ext_getElem?
  intro j
  rw [wipe_get, wipe_get, List.length_set]
  split
  · rfl
  · rename_i hj
    rw [List.getElem?_set_ne (fun (e : i = j) => hj (e ▸ h))]
theorem wipe_more {σ τ : St} {vs ws : List Nat} (h : wipe σ vs = wipe τ vs) (hs : ∀ i ∈ vs, i ∈ ws) : wipe σ ws = wipe τ ws := by
  have hl : σ.length = τ.length := by have := congrArg List.length h; rwa [wipe_length, wipe_length] at this
  apply List.ext_getElem?
  intro j
  have := congrArg (fun l => l[j]?) h
  simp only [wipe_get] at this
  rw [wipe_get, wipe_get, hl]
  split
  · rfl
  · rename_i hj
    have hj' : j ∉ vs := fun e => hj (hs j e)
    rw [if_neg hj', if_neg hj'] at this
    exact this
@[simp] def gN (i : Nat) : FG := fun d ρ => some (ρ.set i (.dt d))
theorem rt_name {c : DC} (i : Nat) : RTg c (gName i) (gN i) := ⟨fun F ρ gh σ H S v d Q e R hv G => G _ (R.set i (e ▸ hv))⟩
theorem pfg_n (i : Nat) {x : Str} {pos : Pos} (hN : X.N.Nodup) (hi : X.N[i]? = some x := by rfl) (hx : Loc X.env.scope x := by first | exact Or.inl rfl | exact Or.inr rfl) (hf : X.fn x = true ∨ X.env.scope.names.lookup x = some .local := by first | exact .inl rfl | exact .inr rfl) : PFG X ah (.Name x pos) (gN i) [i] :=
  ⟨_, pg_name hN hi hx hf, rt_name i, fun x σ H Q h => ⟨h, wipe_set List.mem_cons_self⟩, ⟨fun x σ H Q Q' hq h => hq _ _ h⟩⟩
@[simp] def gsN : List D → List En → Option (List En) := fun ds ρ => match ds with
  | [] => some ρ
  | _ => none
@[simp] def gsC (a : FG) (b : List D → List En → Option (List En)) : List D → List En → Option (List En) := fun ds ρ => match ds with
  | [] => none
  | d :: r => (a d ρ).bind (b r)
theorem pfgs_nil : PFGs X ah [] gsN [] := by
  refine ⟨_, pgs_nil, ⟨fun F ρ gh σ H S vs ds Q e R hv G => ?_⟩, fun x σ H Q h => ⟨h.1, h.2, rfl⟩, ⟨fun x σ H Q Q' hq h => ⟨h.1, hq _ _ h.2⟩⟩⟩
  cases hv with
  | nil => exact ⟨rfl, G σ R⟩
  | cons _ _ => exact G.elim
theorem pfgs_cons {e : Expr} {es : List Expr} {a : FG} {b : List D → List En → Option (List En)} {va vb : List Nat} (ha : PFG X ah e a va) (hb : PFGs X ah es b vb) (hs : (assignEach (e :: es) X.env).map (·.2) = assign e X.env :: (assignEach es X.env).map (·.2) := by rfl) : PFGs X ah (e :: es) (gsC a b) (va ++ vb) := by
  obtain ⟨t, p, r, w, m⟩ := ha
  obtain ⟨u, q, s, w', m'⟩ := hb
  refine ⟨_, pgs_cons p q hs, ⟨fun F ρ gh σ H S vs ds Q e R hv G => ?_⟩, fun x σ H Q h => ?_, ⟨fun x σ H Q Q' hq h => ?_⟩⟩
  rotate_left
  · obtain ⟨v, rr, e1, h⟩ := h
    refine ⟨v, rr, e1, m.mono _ _ _ _ _ (fun σ1 H1 k => ?_) (w _ _ _ _ h)⟩
    obtain ⟨k1, k2⟩ := k
    refine m'.mono _ _ _ _ _ (fun σ2 H2 k3 => ⟨k3.1, ?_⟩) (w' _ _ _ _ k1)
    exact (wipe_more k3.2 fun i hi => List.mem_append_right _ hi).trans (wipe_more k2 fun i hi => List.mem_append_left _ hi)
  · obtain ⟨v, rr, e1, h⟩ := h
    exact ⟨v, rr, e1, m.mono _ _ _ _ _ (fun σ1 H1 k => m'.mono _ _ _ _ _ hq k) h⟩
  cases hv with
  | nil => exact G.elim
  | cons h hs =>
    rename_i v d vs ds
    refine ⟨v, vs, rfl, r.run F ρ gh σ H S v d _ e R h ?_⟩
    simp only [gsC] at G
    cases ea : a d ρ with
    | none => rw [ea] at G; exact G
    | some ρ1 =>
      rw [ea] at G
      exact fun σ1 R1 => s.run F ρ1 gh σ1 H S vs ds Q e R1 hs G
@[simp] def gT (n : Nat) (f : List D → List En → Option (List En)) : FG := fun d ρ => match d with
  | .tup ds => if ds.length = n then f ds ρ else none
  | _ => none
theorem pfg_tup {es : List Expr} {k : Nat} {n : Nat} {f : List D → List En → Option (List En)} {pos} {vs : List Nat} (hc : X.calm = true) (h : PFGs X ah es f vs)
    (hn : (assignEach es X.env).length = n := by rfl) (hst : (assignEach es X.env).findIdx? (·.1) = none := by rfl) : PFG X ah (.Tuple es k pos) (gT n f) vs := by
  obtain ⟨t, p, r, w, m⟩ := h
  refine ⟨_, pg_tup hc p hn hst, ⟨fun F ρ gh σ H S v d Q e R hv G => ?_⟩, fun x σ H Q h => ?_, ⟨fun x σ H Q Q' hq h => ?_⟩⟩
  rotate_left
  · obtain ⟨a, xs, e1, h1, h2, h3⟩ := h
    exact ⟨a, xs, e1, h1, h2, w _ _ _ _ h3⟩
  · obtain ⟨a, xs, e1, h1, h2, h3⟩ := h
    exact ⟨a, xs, e1, h1, h2, m.mono _ _ _ _ _ hq h3⟩
  cases hv with
  | tup hs hd =>
    rename_i a vs ds
    simp only [gT] at G
    split at G
    · exact G.elim
    · rename_i ρ' hl
      split at hl
      · rename_i hl'
        refine ⟨a, vs, rfl, Same.tup R.sub hs, by rw [hd.length]; exact hl', r.run F ρ gh σ H S vs ds Q e R hd ?_⟩
        rw [hl]; exact G
      · cases hl
  | _ => exact G.elim
@[simp] def sAsg (a : FE) (f : FG) : FS := fun ρ g => (a ρ g).bd fun x g1 => match f x ρ with
  | none => none
  | some ρ' => some (.ok (.nx ρ') g1)
theorem rs_asg {c : DC} {te : TE} {a : FE} {tg : TG} {f : FG} (ha : RE c (fun _ => E) te a) (hg : RTg c tg f) : RS c E (tAsg te tg) (sAsg a f) := by
  refine RS.bind (r := fun Z σ x H1 => tg x σ H1 Z.nx) (k := fun ρ x g1 => match f x ρ with | none => none | some ρ' => some (.ok (.nx ρ') g1)) ha fun F ρ g σ H S Z x d e R hx G => ?_
  refine hg.run F ρ g σ H S x d _ e R hx ?_
  cases h : f d ρ with
  | none => simp only [h] at G; exact G
  | some ρ' => simp only [h] at G; exact fun σ' R' => G σ' H S (Same.refl S) R'
theorem pfs_asg {tg e : Expr} {a : FE} {f : FG} {pos} {vs : List Nat} (ha : PF X ah (fun _ => E) e a) (hg : PFG X ah tg f vs) (hs : swapsWithSole [tg] e pos.line X.env = pure false := by rfl) (hw : swappedStores [tg] e X.env = pure none := by rfl)
    (h1 : (assignEach [tg] X.env).map (·.2) = [assign tg X.env] := by rfl) : PFS X ah E (.Assign [tg] e pos) (sAsg a f) := by
  obtain ⟨t, p, r⟩ := ha
  obtain ⟨u, q, s, _⟩ := hg
  exact ⟨_, ps_asg p q hs hw h1, rs_asg r s⟩
theorem pfs_set (i : Nat) {x : Str} {e : Expr} {a : FE} {pos' pos : Pos} (hN : X.N.Nodup) (ha : PF X ah (fun _ => E) e a) (hi : X.N[i]? = some x := by rfl) (hx : Loc X.env.scope x := by first | exact Or.inl rfl | exact Or.inr rfl) (hs : swapsWith e (some (.Name x pos')) pos.line X.env = pure false := by rfl)
    (hf : X.fn x = true ∨ X.env.scope.names.lookup x = some .local := by first | exact .inl rfl | exact .inr rfl) : PFS X ah E (.Assign [.Name x pos'] e pos) (sAsg a (gN i)) := by
  obtain ⟨t, p, r⟩ := ha
  exact ⟨_, ps_set hN hi hx p hs hf, rs_asg r (rt_name i)⟩
end
end FD
set_option Elab.async false
set_option linter.all false
set_option maxRecDepth 100000
set_option maxHeartbeats 2000000
namespace FD
open PySem L2

/-! ### data without things of the package -/
mutual
def D.py : D → Option PyData
  | .non => some .none
  | .bl b => some (.bool b)
  | .int i => some (.int i)
  | .str x => some (.str x)
  | .tup xs => (D.pys xs).map .tuple
  | .lst xs => (D.pys xs).map .list
  | _ => none
def D.pys : List D → Option (List PyData)
  | [] => some []
  | d :: ds => match D.py d, D.pys ds with
    | some p, some ps => some (p :: ps)
    | _, _ => none
end
mutual
theorem Dn.py {c : DC} {S : Hp} : ∀ {v : V} {d : D} {p : PyData}, Dn c S v d → d.py = some p → Dp c.K S v p
  | _, _, _, .non, e => by simp [D.py] at e; subst e; exact .non
  | _, _, _, .bl b, e => by simp [D.py] at e; subst e; exact .bl b
  | _, _, _, .int b, e => by simp [D.py] at e; subst e; exact .int b
  | _, _, _, .str b, e => by simp [D.py] at e; subst e; exact .str b
  | _, _, _, .tup h hs, e => by
    simp only [D.py, Option.map_eq_some_iff] at e
    obtain ⟨ps, e1, rfl⟩ := e
    exact .tup h (Dns.pys hs e1)
  | _, _, _, .lst h hs, e => by
    simp only [D.py, Option.map_eq_some_iff] at e
    obtain ⟨ps, e1, rfl⟩ := e
    exact .lst (SqL.of h) (Dns.pys hs e1)
  | _, _, _, .emp _, e => by simp [D.py] at e
  | _, _, _, .obj _ _ _ _, e => by simp [D.py] at e
  | _, _, _, .hnd _, e => by simp [D.py] at e
  | _, _, _, .rng _, e => by simp [D.py] at e
  | _, _, _, .scr _, e => by simp [D.py] at e
theorem Dns.pys {c : DC} {S : Hp} : ∀ {vs : List V} {ds : List D} {ps : List PyData}, Dns c S vs ds → D.pys ds = some ps → DpAll c.K S vs ps
  | _, _, _, .nil, e => by simp [D.pys] at e; subst e; exact .nil
  | _, _, _, .cons h hs, e => by
    simp only [D.pys] at e
    split at e
    · rename_i p ps e1 e2
      cases e
      exact .cons (Dn.py h e1) (Dns.pys hs e2)
    · cases e
end
def toV : D → V
  | .non => .non
  | .bl b => .bl b
  | .int i => .int i
  | .str x => .str x
  | _ => .ref 0
def flatD : D → Bool
  | .non => true
  | .bl _ => true
  | .int _ => true
  | .str _ => true
  | _ => false
theorem Dn.flat {c : DC} {S : Hp} {v : V} {d : D} (h : Dn c S v d) (f : flatD d = true) : v = toV d ∧ flatV v = true := by
  cases h <;> first | exact ⟨rfl, rfl⟩ | simp [flatD] at f
theorem Dns.flat {c : DC} {S : Hp} : ∀ {vs : List V} {ds : List D}, Dns c S vs ds → ds.all flatD = true → vs = ds.map toV ∧ vs.all flatV = true
  | _, _, .nil, _ => ⟨rfl, rfl⟩
  | _, _, .cons h hs, f => by
    simp only [List.all_cons, Bool.and_eq_true] at f
    obtain ⟨e1, e2⟩ := Dn.flat h f.1
    obtain ⟨e3, e4⟩ := Dns.flat hs f.2
    exact ⟨by rw [e1, e3]; rfl, by simp [e2, e4]⟩

section
variable {c : DC}
/-! ### the operators -/
def R2.or (r r' : R2) : R2 := fun x y H Q => r x y H Q ∨ r' x y H Q
theorem OpR.or {X : Cx} {f : Value → Value → Sem Value} {r r' : R2} (h : OpR X f r) (h' : OpR X f r') : OpR X f (R2.or r r') := by
  intro pins s σ H x y v u Q I rx ry q
  rcases q with q | q
  · exact h pins s σ H x y v u Q I rx ry q
  · exact h' pins s σ H x y v u Q I rx ry q
def addD : D → D → Option D
  | .int i, .int j => some (.int (i + j))
  | .tup xs, .tup ys => if xs.length + ys.length ≤ 1000 then some (.tup (xs ++ ys)) else none
  | .lst xs, .lst ys => if xs.length + ys.length ≤ 1000 then some (.lst (xs ++ ys)) else none
  | _, _ => none
abbrev rAddD (K : PySem.W.Frag) : R2 := R2.or (rI0 fun i j => .int (i + j)) (R2.or (rCatA K) rCat)
theorem op_addD {X : Cx} : OpR X (binaryOp .Add) (rAddD X.K) := OpR.or op_add (OpR.or op_catA op_cat)
theorem os_add : OpS c (rAddD c.K) addD := by
  intro E F ρ g σ H S Q x y dx dy e R hx hy G
  subst e
  cases hx with
  | int i => cases hy <;> simp only [addD, lift] at G <;> first | exact G.elim | exact .inl ⟨_, _, rfl, rfl, G.ret R (.int _)⟩
  | tup h hs =>
    cases hy <;> simp only [addD, lift] at G <;> try exact G.elim
    rename_i a vs ds b ws es k ks
    by_cases hl : ds.length + es.length ≤ 1000
    · rw [if_pos hl] at G
      have l1 := hs.length
      have l2 := ks.length
      refine .inr (.inl ⟨a, b, vs, ws, rfl, rfl, Same.tup R.sub h, Same.tup R.sub k, line_of (by omega), fun z => ?_, fun _ z => ?_, fun _ _ p hp => ?_⟩)
      · subst z
        have : ds = [] := by cases hs; rfl
        subst this
        exact G.ret R (.tup k ks)
      · subst z
        have : es = [] := by cases ks; rfl
        subst this
        rw [List.append_nil] at G
        exact G.ret R (.tup h hs)
      · exact G.new R hp (.tup (SqT.of upd_same) ((hs.append ks).mono (R.tosame _ hp)))
    · rw [if_neg hl] at G; exact G.elim
  | lst h hs =>
    cases hy <;> simp only [addD, lift] at G <;> try exact G.elim
    rename_i a vs ds b ws es k ks
    by_cases hl : ds.length + es.length ≤ 1000
    · rw [if_pos hl] at G
      have l1 := hs.length
      have l2 := ks.length
      exact .inr (.inr ⟨a, b, vs, ws, rfl, rfl, R.sub _ _ h, R.sub _ _ k, line_of (by omega), fun p hp => G.new R hp (.lst upd_same ((hs.append ks).mono (R.tosame _ hp)))⟩)
    · rw [if_neg hl] at G; exact G.elim
  | _ => simp only [addD, lift] at G; exact G.elim
/-- two ints -/
def intD (f : Int → Int → Option D) : D → D → Option D
  | .int i, .int j => f i j
  | _, _ => none
theorem os_int {r : R2} {f : Int → Int → Option D} (h : ∀ i j d, f i j = some d → ∃ v, (∀ S, Dn c S v d) ∧ ∀ H (Q : VK), Q v H → r (.int i) (.int j) H Q) : OpS c r (intD f) := by
  intro E F ρ g σ H S Q x y dx dy e R hx hy G
  subst e
  cases hx with
  | int i =>
    cases hy <;> simp only [intD, lift] at G <;> try exact G.elim
    rename_i j
    cases q : f i j with
    | none => rw [q] at G; exact G.elim
    | some d =>
      rw [q] at G
      obtain ⟨v, hv, hr⟩ := h i j d q
      exact hr H Q (G.ret R (hv S))
  | _ => simp only [intD, lift] at G; exact G.elim
def subD : D → D → Option D := intD fun i j => some (.int (i - j))
theorem os_sub : OpS c (rI0 fun i j => .int (i - j)) subD := os_int fun i j d e => by cases e; exact ⟨_, fun S => .int _, fun H Q q => ⟨i, j, rfl, rfl, q⟩⟩
abbrev small64 (i : Int) : Prop := -(2 ^ 64) < i ∧ i < 2 ^ 64
def mulD : D → D → Option D
  | .int i, .int j => if small64 i ∨ small64 j then some (.int (i * j)) else none
  | .tup xs, .int k => if xs ≠ [] ∧ 2 ≤ k ∧ k ≤ 1000 ∧ xs.length ≤ 1000 ∧ xs.length * k.toNat ≤ 1000 then some (.tup (List.replicate k.toNat xs).flatten) else none
  | .lst xs, .int k => if -(2 ^ 63) ≤ k ∧ k < 2 ^ 63 ∧ xs.length * k.toNat ≤ 1000 then some (.lst (List.replicate k.toNat xs).flatten) else none
  | _, _ => none
def modD : D → D → Option D := intD fun i j => if j ≠ 0 then some (.int (i.fmod j)) else none
def divD : D → D → Option D := intD fun i j => if j ≠ 0 ∧ j.natAbs < 1073741824 then some (.int (i.fdiv j)) else none
def powD : D → D → Option D := intD fun i j => if 0 ≤ j ∧ j ≤ 1000000 ∧ i.natAbs < 2 ^ 64 then some (.int (i ^ j.toNat)) else none
theorem os_mod : OpS c (rI (fun i j => j ≠ 0) fun i j => .int (i.fmod j)) modD := os_int fun i j d e => by
  split at e
  · rename_i h; cases e; exact ⟨_, fun S => .int _, fun H Q q => ⟨i, j, rfl, rfl, h, q⟩⟩
  · cases e
theorem os_div : OpS c (rI CDivN fun i j => .int (i.fdiv j)) divD := os_int fun i j d e => by
  split at e
  · rename_i h; cases e; exact ⟨_, fun S => .int _, fun H Q q => ⟨i, j, rfl, rfl, h, q⟩⟩
  · cases e
theorem os_pow : OpS c (rI CPow fun i j => .int (i ^ j.toNat)) powD := os_int fun i j d e => by
  split at e
  · rename_i h; cases e; exact ⟨_, fun S => .int _, fun H Q q => ⟨i, j, rfl, rfl, h, q⟩⟩
  · cases e
def ltD : D → D → Option D := intD fun i j => some (.bl (decide (i < j)))
def leD : D → D → Option D := intD fun i j => some (.bl (decide (i ≤ j)))
def gtD : D → D → Option D := intD fun i j => some (.bl (decide (j < i)))
def geD : D → D → Option D := intD fun i j => some (.bl (decide (j ≤ i)))
theorem os_lt : OpS c (rI0 fun i j => .bl (decide (i < j))) ltD := os_int fun i j d e => by cases e; exact ⟨_, fun S => .bl _, fun H Q q => ⟨i, j, rfl, rfl, q⟩⟩
theorem os_le : OpS c (rI0 fun i j => .bl (decide (i ≤ j))) leD := os_int fun i j d e => by cases e; exact ⟨_, fun S => .bl _, fun H Q q => ⟨i, j, rfl, rfl, q⟩⟩
theorem os_gt : OpS c (rI0 fun i j => .bl (decide (j < i))) gtD := os_int fun i j d e => by cases e; exact ⟨_, fun S => .bl _, fun H Q q => ⟨i, j, rfl, rfl, q⟩⟩
theorem os_ge : OpS c (rI0 fun i j => .bl (decide (j ≤ i))) geD := os_int fun i j d e => by cases e; exact ⟨_, fun S => .bl _, fun H Q q => ⟨i, j, rfl, rfl, q⟩⟩
/-- == of data -/
def eqB (a b : D) : Option Bool := match a.py, b.py with
  | some p, some q => if SeqAt.shaped p = true ∧ SeqAt.shaped q = true then some (PyData.eqv p q) else none
  | _, _ => none
def eqD (a b : D) : Option D := (eqB a b).map .bl
def neD (a b : D) : Option D := (eqB a b).map fun k => .bl (!k)
theorem eqB_some {a b : D} {k : Bool} (h : eqB a b = some k) : ∃ p q, a.py = some p ∧ b.py = some q ∧ SeqAt.shaped p = true ∧ SeqAt.shaped q = true ∧ k = PyData.eqv p q := by
  unfold eqB at h
  split at h
  · rename_i p q e1 e2
    split at h
    · rename_i hs; cases h; exact ⟨p, q, e1, e2, hs.1, hs.2, rfl⟩
    · cases h
  · cases h
theorem Dp.mono {K : PySem.W.Frag} {S H : Hp} (sm : Same S H) : ∀ {v : V} {p : PyData}, Dp K S v p → Dp K H v p := by
  intro v p h
  induction h using Dp.rec (motive_2 := fun vs ps _ => DpAll K H vs ps) with
  | non => exact .non
  | bl b => exact .bl b
  | int i => exact .int i
  | str x => exact .str x
  | lst h _ ih => exact .lst (sm.seq h) ih
  | tup h _ ih => exact .tup (Same.tup sm h) ih
  | nil => exact .nil
  | cons _ _ ih1 ih2 => exact .cons ih1 ih2
theorem os_eq : OpS c (rEqD c.K) eqD := by
  intro E F ρ g σ H S Q x y dx dy e R hx hy G
  subst e
  cases h : eqB dx dy with
  | none => simp only [eqD, h, Option.map_none, lift] at G; exact G.elim
  | some k =>
    simp only [eqD, h, Option.map_some, lift] at G
    obtain ⟨p, q, e1, e2, s1, s2, rfl⟩ := eqB_some h
    exact ⟨p, q, Dp.mono R.sub (hx.py e1), Dp.mono R.sub (hy.py e2), s1, s2, G.ret R (.bl _)⟩
theorem os_ne : OpS c (rNeD c.K) neD := by
  intro E F ρ g σ H S Q x y dx dy e R hx hy G
  subst e
  cases h : eqB dx dy with
  | none => simp only [neD, h, Option.map_none, lift] at G; exact G.elim
  | some k =>
    simp only [neD, h, Option.map_some, lift] at G
    obtain ⟨p, q, e1, e2, s1, s2, rfl⟩ := eqB_some h
    exact ⟨p, q, Dp.mono R.sub (hx.py e1), Dp.mono R.sub (hy.py e2), s1, s2, G.ret R (.bl _)⟩
/-! is None, is True, is False -/
def isNonB : D → Bool
  | .non => true
  | _ => false
def isND : D → D → Option D
  | d, .non => some (.bl (isNonB d))
  | _, _ => none
def notND : D → D → Option D
  | d, .non => some (.bl (!isNonB d))
  | _, _ => none
theorem Dn.non_iff {S : Hp} {v : V} {d : D} (h : Dn c S v d) : decide (v = .non) = isNonB d := by cases h <;> simp [isNonB]
theorem os_isN : OpS c (fun x y H Q => y = .non ∧ Q (.bl (decide (x = .non))) H) isND := by
  intro E F ρ g σ H S Q x y dx dy e R hx hy G
  cases hy <;> simp only [isND, lift] at G <;> first | exact G.elim | skip
  exact ⟨rfl, by rw [hx.non_iff]; exact G.ret R (.bl _)⟩
theorem os_notN : OpS c (fun x y H Q => y = .non ∧ Q (.bl (!decide (x = .non))) H) notND := by
  intro E F ρ g σ H S Q x y dx dy e R hx hy G
  cases hy <;> simp only [notND, lift] at G <;> first | exact G.elim | skip
  exact ⟨rfl, by rw [hx.non_iff]; exact G.ret R (.bl _)⟩
/-! in, not in -/
def inB (x y : D) : Option Bool := match y with
  | .tup ys => if flatD x = true ∧ ys.all flatD = true then some (inV (toV x) (ys.map toV)) else none
  | .lst ys => if flatD x = true ∧ ys.all flatD = true then some (inV (toV x) (ys.map toV)) else none
  | _ => none
def inD (x y : D) : Option D := (inB x y).map .bl
def notInD (x y : D) : Option D := (inB x y).map fun k => .bl (!k)
theorem inB_some {F : Fx} {ρ g σ H S} {x y : V} {dx dy : D} {k : Bool} (R : Rep F ρ g σ H S) (hx : Dn F.c S x dx) (hy : Dn F.c S y dy) (h : inB dx dy = some k) :
    ∃ p xs, y = .ref p ∧ (SqL F.c.K H p xs ∨ SqT F.c.K H p xs) ∧ flatV x = true ∧ xs.all flatV = true ∧ k = inV x xs := by
  cases hy with
  | tup ht hs =>
    simp only [inB] at h
    split at h
    · rename_i hf
      cases h
      obtain ⟨e1, e2⟩ := hx.flat hf.1
      obtain ⟨e3, e4⟩ := hs.flat hf.2
      exact ⟨_, _, rfl, .inr (Same.tup R.sub ht), e2, e4, by rw [e1, e3]⟩
    · cases h
  | lst ht hs =>
    simp only [inB] at h
    split at h
    · rename_i hf
      cases h
      obtain ⟨e1, e2⟩ := hx.flat hf.1
      obtain ⟨e3, e4⟩ := hs.flat hf.2
      exact ⟨_, _, rfl, .inl (SqL.of (R.sub _ _ ht)), e2, e4, by rw [e1, e3]⟩
    · cases h
  | _ => simp [inB] at h
theorem os_in : OpS c (rIn c.K false) inD := by
  intro E F ρ g σ H S Q x y dx dy e R hx hy G
  subst e
  cases h : inB dx dy with
  | none => simp only [inD, h, Option.map_none, lift] at G; exact G.elim
  | some k =>
    simp only [inD, h, Option.map_some, lift] at G
    obtain ⟨p, xs, rfl, e1, e2, e3, rfl⟩ := inB_some R hx hy h
    exact ⟨p, xs, rfl, e1, e2, e3, G.ret R (.bl _)⟩
theorem os_notIn : OpS c (rIn c.K true) notInD := by
  intro E F ρ g σ H S Q x y dx dy e R hx hy G
  subst e
  cases h : inB dx dy with
  | none => simp only [notInD, h, Option.map_none, lift] at G; exact G.elim
  | some k =>
    simp only [notInD, h, Option.map_some, lift] at G
    obtain ⟨p, xs, rfl, e1, e2, e3, rfl⟩ := inB_some R hx hy h
    exact ⟨p, xs, rfl, e1, e2, e3, G.ret R (.bl _)⟩
/-! subscripts -/
theorem atI_map {vs : List V} {ds : List D} {S : Hp} (h : Dns c S vs ds) {i : Int} {d : D} (e : atI ds i = some d) : ∃ v, atI vs i = some v ∧ Dn c S v d := by
  unfold atI at e ⊢
  rw [h.length]
  cases q : ixN ds.length i with
  | none => rw [q] at e; cases e
  | some j =>
    rw [q] at e
    exact h.get e
def ixD : D → D → Option D
  | .tup xs, .int i => atI xs i
  | .lst xs, .int i => atI xs i
  | _, _ => none
abbrev rIxD (K : PySem.W.Frag) : R2 := fun x y H Q => rIxL K x y H Q ∨ rIxT K x y H Q
theorem ix_D {X : Cx} : IxR X (rIxD X.K) := ix_list.or ix_tup
theorem os_ix : OpS c (rIxD c.K) ixD := by
  intro E F ρ g σ H S Q x y dx dy e R hx hy G
  subst e
  cases hy with
  | int i =>
    cases hx <;> simp only [ixD, lift] at G <;> try exact G.elim
    · rename_i a vs ds h hs
      cases q : atI ds i with
      | none => rw [q] at G; exact G.elim
      | some d =>
        rw [q] at G
        obtain ⟨v, h1, h2⟩ := atI_map hs q
        exact .inr ⟨a, vs, i, v, rfl, rfl, Same.tup R.sub h, h1, G.ret R h2⟩
    · rename_i a vs ds h hs
      cases q : atI ds i with
      | none => rw [q] at G; exact G.elim
      | some d =>
        rw [q] at G
        obtain ⟨v, h1, h2⟩ := atI_map hs q
        exact .inl ⟨a, vs, i, v, rfl, rfl, SqL.of (R.sub _ _ h), h1, G.ret R h2⟩
  | _ => cases dx <;> simp only [ixD, lift] at G <;> exact G.elim
end

/-! ### slices -/
section
variable {X : Cx} {ah : Option Addr} {E : St → XK} {c : DC}
abbrev FO := List En → Gh → M (Option Int)
abbrev rO : Rl (Option Int) (Option Int) := fun _ _ b a => b = a
def PFO (X : Cx) (ah : Option Addr) (E : St → XK) (e : Option Expr) (f : FO) : Prop := ∃ t, PO X e t ∧ @RG (Option Int) (Option Int) rO (dc X ah) E t f
@[simp] def oN : FO := fun _ g => some (.ok none g)
@[simp] def toI : D → Option Int
  | .int i => some i
  | _ => none
@[simp] def oS (a : FE) : FO := fun ρ g => (a ρ g).bd fun x g1 => match toI x with
  | some i => some (.ok (some i) g1)
  | none => none
theorem pfo_none : PFO X ah E none oN := ⟨_, po_none, ⟨fun F ρ g σ H S Q e R G => G.ret (b := none) R rfl⟩⟩
theorem pfo_some {e : Expr} {a : FE} (ha : PF X ah E e a) : PFO X ah E (some e) (oS a) := by
  obtain ⟨t, p, r⟩ := ha
  refine ⟨_, po_some p, ?_⟩
  refine RG.bind (r := fun σ x H1 (Q : Option Int → Hp → Prop) => ∃ i, x = .int i ∧ Q (some i) H1) (k := fun ρ x g1 => match toI x with
  | some i => some (.ok (some i) g1)
  | none => none) r fun F ρ g σ H S Q x d e R hx G => ?_
  cases hx <;> simp only [toI] at G <;> first | exact G.elim | exact ⟨_, rfl, G.ret R rfl⟩
def cutD (xs : List D) (lo hi : Option Int) : List D := (xs.drop (HT.sIx xs.length 0 lo)).take (HT.sIx xs.length xs.length hi - HT.sIx xs.length 0 lo)
theorem Dns.ints {c : DC} {S : Hp} : ∀ ns : List Int, Dns c S (ns.map V.int) (ns.map D.int)
  | [] => .nil
  | n :: ns => .cons (.int n) (Dns.ints ns)
theorem Dns.cut {S : Hp} {vs : List V} {ds : List D} (h : Dns c S vs ds) (lo hi : Option Int) : Dns c S (cutV vs lo hi) (cutD ds lo hi) := by
  unfold cutV cutD
  rw [h.length]
  exact (h.drop _).take _
def slD (x : D) (lo hi : Option Int) : Option D := match x with
  | .tup xs => some (.tup (cutD xs lo hi))
  | .lst xs => some (.lst (cutD xs lo hi))
  | .scr ns => some (.lst (cutD (ns.map .int) lo hi))
  | _ => none
@[simp] def cSl (a : FE) (lo hi : FO) : FE := fun ρ g => (a ρ g).bd fun x g1 => (lo ρ g1).bd fun l g2 => (hi ρ g2).bd fun h g3 => lift (slD x l h) g3
theorem cutD_whole {xs : List D} {lo hi : Option Int} (h : HT.sIx xs.length 0 lo = 0 ∧ HT.sIx xs.length xs.length hi = xs.length) : cutD xs lo hi = xs := by
  unfold cutD
  rw [h.1, h.2]
  simp
theorem pf_sl {e : Expr} {lo hi : Option Expr} {a : FE} {l h : FO} {p2 pos : Pos} (ha : PF X ah E e a) (hl : PFO X ah E lo l) (hh : PFO X ah E hi h) : PF X ah E (.Subscript e (.Slice lo hi none p2) pos) (cSl a l h) := by
  obtain ⟨t, p, r⟩ := ha
  obtain ⟨tl, q, r2⟩ := hl
  obtain ⟨th, q', r3⟩ := hh
  refine ⟨_, pe_slice (SlR.or sl_tupA sl_list) p q q', ?_⟩
  refine RG.bind (r := fun σ x H1 (Q : VK) => tl σ H1 fun l' H2 => th σ H2 fun u H3 => (rSlA X.K x l' u H3 Q ∨ rSlL X.K x l' u H3 Q)) (k := fun ρ x g1 => (l ρ g1).bd fun l g2 => (h ρ g2).bd fun h g3 => lift (slD x l h) g3) r fun F ρ g σ H S Q x d e R hx G => ?_
  refine r2.step e R G fun H1 S1 g1 lo' l' sm R1 hlo G => ?_
  cases hlo
  refine r3.step e R1 G fun H2 S2 g2 hi' h' sm2 R2 hhi G => ?_
  cases hhi
  have hx := hx.mono (sm.trans sm2)
  have eK : F.c.K = X.K := by rw [e]
  cases hx with
  | tup h1 hs =>
    simp only [slD, lift] at G
    refine .inl ⟨_, _, rfl, Same.tup R2.sub h1, fun z => ?_, fun _ p hp => ?_⟩
    · rw [hs.length] at z
      rw [cutD_whole z] at G
      exact G.ret R2 (e ▸ .tup h1 hs)
    · exact G.new R2 hp (e ▸ .tup (SqT.of upd_same) ((hs.cut _ _).mono (R2.tosame _ hp)))
  | lst h1 hs =>
    simp only [slD, lift] at G
    exact .inr ⟨_, _, rfl, SqL.of (R2.sub _ _ h1), fun p hp => G.new R2 hp (e ▸ .lst upd_same ((hs.cut _ _).mono (R2.tosame _ hp)))⟩
  | @scr a ns h1 =>
    simp only [slD, lift] at G
    have h2 := Same.sql R2.sub h1

    exact .inr ⟨_, _, rfl, h2, fun p hp => G.new R2 hp (Dn.lst upd_same ((Dns.ints ns).cut _ _))⟩
  | _ => simp only [slD, lift] at G; exact G.elim
end
end FD
set_option Elab.async false
set_option linter.all false
set_option maxRecDepth 100000
set_option maxHeartbeats 2000000
namespace FD
open PySem L2

/-! ### what is walked -/
structure WalkOf (c : DC) (J : It) (ds : List D) (S : Hp) : Prop where
  stop : ∀ F ρ g σ H S1, F.c = c → Same S S1 → Rep F ρ g σ H S1 → J.stop ds.length H
  go : ∀ F ρ g σ H S1 i d, F.c = c → Same S S1 → Rep F ρ g σ H S1 → ds[i]? = some d → J.go i H ∧ ∀ x H', J.yld i H x H' → ∃ S', Same S1 S' ∧ Rep F ρ g σ H' S' ∧ Dn c S' x d
abbrev rI : Rl It (List D) := fun c S J ds => WalkOf c J ds S
abbrev FI := List En → Gh → M (List D)
section
variable {X : Cx} {ah : Option Addr} {E : St → XK} {c : DC}
def PFI (X : Cx) (ah : Option Addr) (E : St → XK) (tg iter : Expr) (f : FI) : Prop := ∃ wi, PI X tg iter wi ∧ @RG It (List D) rI (dc X ah) E wi f

def iSeq (K : PySem.W.Frag) (tl : TE) : TI := fun σ H R => tl σ H fun x H1 => ∃ a, x = .ref a ∧ (((∃ xs, SqL K H1 a xs) ∧ R (Itl K a) H1) ∨ ((∃ xs, SqT K H1 a xs) ∧ R (Itt K a) H1))
theorem pi_seq {tg l : Expr} {tl : TE} (hl : PE X l tl) : PI X tg l (iSeq X.K tl) := by
  refine ⟨fun pins s σ H R I h => ?_⟩
  refine thn (hl.run pins s σ H _ I h) fun v s1 ⟨x, H1, I1, r1, q1⟩ => ?_
  obtain ⟨a, e, q⟩ := q1
  subst e
  cases r1
  rcases q with ⟨⟨xs, hq⟩, q⟩ | ⟨⟨xs, hq⟩, q⟩
  · obtain ⟨its, rv, p, hz⟩ := I1.list hq
    refine wpAny_pyIter_list p.isList ?_
    refine ⟨s1.heap.objs.size, [s1.heap.objs.size], _, _, H1, rfl, I1.kept (t' := s1.toks) fun b o e => Heap.get?_push_of_some _ e, turn_list a _, ⟨_, Heap.get?_push_size _ rfl, rfl, rfl⟩, fun b hb => ?_, q⟩
    have e : b = s1.heap.objs.size := by simpa using hb
    subst e
    exact I1.fpOk (Nat.le_refl _) (I1.hok.fresh (Nat.le_refl _))
  · obtain ⟨its, rv, p, hz⟩ := I1.tuple hq
    refine wpAny_pyIter_tuple (show s1.heap.IsTuple a its.toArray from p) ?_
    refine ⟨s1.heap.objs.size, [s1.heap.objs.size], _, _, H1, rfl, I1.kept (t' := s1.toks) fun b o e => Heap.get?_push_of_some _ e, turn_tuple a _, ⟨_, Heap.get?_push_size _ rfl, rfl, rfl⟩, fun b hb => ?_, q⟩
    have e : b = s1.heap.objs.size := by simpa using hb
    subst e
    exact I1.fpOk (Nat.le_refl _) (I1.hok.fresh (Nat.le_refl _))
def seqOf : D → Option (List D)
  | .tup ds => some ds
  | .lst ds => some ds
  | _ => none
@[simp] def iS (a : FE) : FI := fun ρ g => (a ρ g).bd fun x g1 => lift (seqOf x) g1
/-- a list, a tuple: one tracked or written list has one content -/
theorem walk_tup {S : Hp} {a : Addr} {vs : List V} {ds : List D} (h : SqT c.K S a vs) (hs : Dns c S vs ds) : WalkOf c (Itt c.K a) ds S where
  stop := fun F ρ g σ H S1 e sm R => ⟨vs, Same.tup R.sub (Same.tup sm h), by rw [hs.length]; exact Nat.le_refl _⟩
  go := fun F ρ g σ H S1 i d e sm R hd => by
    obtain ⟨v, hv, hn⟩ := hs.get hd
    have hT : SqT c.K H a vs := Same.tup R.sub (Same.tup sm h)
    refine ⟨⟨vs, v, hT, hv⟩, fun x H' y => ?_⟩
    obtain ⟨e1, y⟩ := y
    subst e1
    have : vs[i]? = some x := y vs hT
    rw [hv] at this; cases this
    exact ⟨S1, Same.refl _, R, hn.mono sm⟩
theorem walk_lst {S : Hp} {a : Addr} {vs : List V} {ds : List D} (h : S a = some (.lst vs)) (hs : Dns c S vs ds) : WalkOf c (Itl c.K a) ds S where
  stop := fun F ρ g σ H S1 e sm R => ⟨vs, SqL.of (R.sub _ _ (sm _ _ h)), by rw [hs.length]; exact Nat.le_refl _⟩
  go := fun F ρ g σ H S1 i d e sm R hd => by
    obtain ⟨v, hv, hn⟩ := hs.get hd
    have hT : SqL c.K H a vs := SqL.of (R.sub _ _ (sm _ _ h))
    refine ⟨⟨vs, v, hT, hv⟩, fun x H' y => ?_⟩
    obtain ⟨e1, y⟩ := y
    subst e1
    have : vs[i]? = some x := y vs hT
    rw [hv] at this; cases this
    exact ⟨S1, Same.refl _, R, hn.mono sm⟩
theorem pfi_seq {tg e : Expr} {a : FE} (ha : PF X ah E e a) : PFI X ah E tg e (iS a) := by
  obtain ⟨t, p, r⟩ := ha
  refine ⟨_, pi_seq p, ?_⟩
  refine RG.bind (r := fun σ x H1 (R : It → Hp → Prop) => ∃ a, x = .ref a ∧ (((∃ xs, SqL X.K H1 a xs) ∧ R (Itl X.K a) H1) ∨ ((∃ xs, SqT X.K H1 a xs) ∧ R (Itt X.K a) H1))) (k := fun ρ x g1 => lift (seqOf x) g1) r fun F ρ g σ H S Q x d e R hx G => ?_
  cases hx with
  | tup h hs =>
    refine ⟨_, rfl, .inr ⟨⟨_, Same.tup R.sub h⟩, G.ret R ?_⟩⟩
    show WalkOf F.c _ _ _
    rw [e]
    exact walk_tup h hs
  | lst h hs =>
    refine ⟨_, rfl, .inl ⟨⟨_, SqL.of (R.sub _ _ h)⟩, G.ret R ?_⟩⟩
    show WalkOf F.c _ _ _
    rw [e]
    exact walk_lst h hs
  | _ => simp only [seqOf, lift] at G; exact G.elim
/-- range(n), range(a, b) -/
def rngD (lo : Int) (n : Nat) : List D := (List.range n).map fun (k : Nat) => D.int (lo + (k : Int))
theorem walk_rng {S : Hp} (lo : Int) (n : Nat) : WalkOf c (Itr lo n) (rngD lo n) S where
  stop := fun F ρ g σ H S1 e sm R => by show n ≤ (rngD lo n).length; simp [rngD]
  go := fun F ρ g σ H S1 i d e sm R hd => by
    have hi : i < n := by
      have := (List.getElem?_eq_some_iff.mp hd).1
      simpa [rngD] using this
    have hd' : d = .int (lo + i) := by
      simp [rngD, hi] at hd
      exact hd.symm
    subst hd'
    refine ⟨hi, fun x H' y => ?_⟩
    obtain ⟨e1, rfl⟩ := y
    subst e1
    exact ⟨S1, Same.refl _, R, .int _⟩
/-- a test that is never reckoned -/
noncomputable def ck (p : Prop) : Bool := @decide p (Classical.propDecidable p)
theorem ck_of {p : Prop} (h : p) : ck p = true := @decide_eq_true p (Classical.propDecidable p) h
theorem of_ck {p : Prop} (h : ck p = true) : p := @of_decide_eq_true p (Classical.propDecidable p) h
noncomputable def rng1 : List D → Option (List D)
  | [.int j] => if ck (-(2 ^ 62) ≤ j ∧ j < 2 ^ 62) = true then some (rngD 0 j.toNat) else none
  | _ => none
noncomputable def rng2 : List D → Option (List D)
  | [.int i, .int j] => if ck (-(2 ^ 62) ≤ i ∧ i < 2 ^ 62 ∧ -(2 ^ 62) ≤ j ∧ j < 2 ^ 62) = true then some (rngD i (j - i).toNat) else none
  | _ => none
@[simp] noncomputable def iR1 (a : FA) : FI := fun ρ g => (a ρ g).bd fun xs g1 => lift (rng1 xs) g1
@[simp] noncomputable def iR2 (a : FA) : FI := fun ρ g => (a ρ g).bd fun xs g1 => lift (rng2 xs) g1
theorem Dns.one {c : DC} {S : Hp} {vs : List V} {d : D} (h : Dns c S vs [d]) : ∃ v, vs = [v] ∧ Dn c S v d := by
  cases h with | cons h hs => cases hs; exact ⟨_, rfl, h⟩
theorem Dns.two {c : DC} {S : Hp} {vs : List V} {d e : D} (h : Dns c S vs [d, e]) : ∃ v w, vs = [v, w] ∧ Dn c S v d ∧ Dn c S w e := by
  cases h with | cons h hs => cases hs with | cons k ks => cases ks; exact ⟨_, _, rfl, h, k⟩
theorem Dns.three {c : DC} {S : Hp} {vs : List V} {d e f : D} (h : Dns c S vs [d, e, f]) : ∃ v w u, vs = [v, w, u] ∧ Dn c S v d ∧ Dn c S w e ∧ Dn c S u f := by
  cases h with | cons h hs => obtain ⟨w, u, rfl, h1, h2⟩ := hs.two; exact ⟨_, _, _, rfl, h, h1, h2⟩
theorem Dn.intE {c : DC} {S : Hp} {v : V} {i : Int} (h : Dn c S v (.int i)) : v = .int i := by cases h; rfl
theorem Dn.blE {c : DC} {S : Hp} {v : V} {i : Bool} (h : Dn c S v (.bl i)) : v = .bl i := by cases h; rfl
theorem Dn.strE {c : DC} {S : Hp} {v : V} {i : Str} (h : Dn c S v (.str i)) : v = .str i := by cases h; rfl
theorem pfi_rng1 {tg a : Expr} {f : FA} {p pos : Pos} (hm : X.mg "range" = none) (ha : PFA X ah E [a] f) (hg : Gl X "range" := by rfl) (hs : starEach [a] X.env = [(false, eval a X.env)] := by rfl) : PFI X ah E tg (.Call (.Name "range" p) [a] [] pos) (iR1 f) := by
  obtain ⟨t, q, r⟩ := ha
  refine ⟨_, pi_range1 hg hm q hs, ?_⟩
  refine RG.bind (r := fun σ vs H1 (R : It → Hp → Prop) => ∃ j : Int, vs = [.int j] ∧ -(2 ^ 62) ≤ j ∧ j < 2 ^ 62 ∧ R (Itr 0 j.toNat) H1) (k := fun ρ xs g1 => lift (rng1 xs) g1) r fun F ρ g σ H S Q x d e R hx G => ?_
  unfold rng1 at G
  split at G
  · rename_i j
    obtain ⟨v, rfl, hv⟩ := hx.one
    cases hv.intE
    by_cases hb : ck (-(2 ^ 62) ≤ j ∧ j < 2 ^ 62) = true
    · rw [if_pos hb] at G
      have hb := of_ck hb
      exact ⟨j, rfl, hb.1, hb.2, G.ret R (walk_rng 0 j.toNat)⟩
    · rw [if_neg hb] at G; exact G.elim
  · exact G.elim
theorem pfi_rng2 {tg a b : Expr} {f : FA} {p pos : Pos} (hm : X.mg "range" = none) (ha : PFA X ah E [a, b] f) (hg : Gl X "range" := by rfl) (hs : starEach [a, b] X.env = [(false, eval a X.env), (false, eval b X.env)] := by rfl) (hs2 : starEach [b] X.env = [(false, eval b X.env)] := by rfl) : PFI X ah E tg (.Call (.Name "range" p) [a, b] [] pos) (iR2 f) := by
  obtain ⟨t, q, r⟩ := ha
  refine ⟨_, pi_range2 hg hm q hs hs2, ?_⟩
  refine RG.bind (r := fun σ vs H1 (R : It → Hp → Prop) => ∃ i j : Int, vs = [.int i, .int j] ∧ (-(2 ^ 62) ≤ i ∧ i < 2 ^ 62 ∧ -(2 ^ 62) ≤ j ∧ j < 2 ^ 62) ∧ R (Itr i (j - i).toNat) H1) (k := fun ρ xs g1 => lift (rng2 xs) g1) r fun F ρ g σ H S Q x d e R hx G => ?_
  unfold rng2 at G
  split at G
  · rename_i i j
    obtain ⟨v, w, rfl, hv, hw⟩ := hx.two
    cases hv.intE
    cases hw.intE
    by_cases hb : ck (-(2 ^ 62) ≤ i ∧ i < 2 ^ 62 ∧ -(2 ^ 62) ≤ j ∧ j < 2 ^ 62) = true
    · rw [if_pos hb] at G
      have hb := of_ck hb
      exact ⟨i, j, rfl, hb, G.ret R (walk_rng i _)⟩
    · rw [if_neg hb] at G; exact G.elim
  · exact G.elim

end
section
variable {X : Cx} {ah : Option Addr} {E : XK} {c : DC}
/-! ### for -/
def loopD (gs : FG) (fb : FS) : List D → List En → Gh → M Fl
  | [], ρ, g => some (.ok (.nx ρ) g)
  | d :: ds, ρ, g => match gs d ρ with
    | none => none
    | some ρ1 => match fb ρ1 g with
      | none => none
      | some (.ok (.nx ρ2) g2) => loopD gs fb ds ρ2 g2
      | some (.ok (.ct ρ2) g2) => loopD gs fb ds ρ2 g2
      | some (.ok (.bk ρ2) g2) => some (.ok (.nx ρ2) g2)
      | some (.ok (.rt d) g2) => some (.ok (.rt d) g2)
      | some (.ex c ks es g2) => some (.ex c ks es g2)
@[simp] def sFor (fi : FI) (gs : FG) (fb : FS) : FS := fun ρ g => (fi ρ g).bd fun ds g1 => loopD gs fb ds ρ g1
theorem drop_of {α : Type} {ds : List α} {i : Nat} (h : i < ds.length) : ds.drop i = ds[i] :: ds.drop (i + 1) := List.drop_eq_getElem_cons h
theorem rs_for {wi : TI} {fi : FI} {tg : TG} {gs : FG} {tb : TS} {fb : FS} (hi : @RG It (List D) rI c (fun _ => E) wi fi) (hg : RTg c tg gs) (hb : RS c E tb fb) : RS c E (tFor wi tg tb) (sFor fi gs fb) := by
  refine RS.bind (rel := rI) (r := fun Z σ J H1 => ∃ W : Nat → Nat → St → Hp → Prop, (∃ m, W 0 m σ H1) ∧ ∀ i m σ H, W i m σ H →
    (J.stop i H ∧ Z.nx σ H) ∨ (J.go i H ∧ ∃ N : St → Hp → Prop, (∀ σ' H', N σ' H' → ∃ m', m' < m ∧ W (i + 1) m' σ' H') ∧ ∀ x H', J.yld i H x H' → tg x σ H' fun σ2 H2 => tb { Z with nx := N, ct := N, bk := Z.nx } σ2 H2)) (k := fun ρ ds g1 => loopD gs fb ds ρ g1) hi fun F ρ g σ H S Z J ds e R hJ G => ?_
  let Pv : Nat → St → Hp → Prop := fun i σ H => ∃ ρ g S1, Same S S1 ∧ Rep F ρ g σ H S1 ∧ GotS F S1 E Z (loopD gs fb (ds.drop i) ρ g)
  refine ⟨fun i m σ H => m = ds.length - i ∧ i ≤ ds.length ∧ Pv i σ H, ⟨ds.length, by simp, Nat.zero_le _, ρ, g, S, Same.refl S, R, G⟩, ?_⟩
  rintro i m σ H ⟨rfl, hi, ρ, g, S1, sm, R, G⟩
  by_cases hlt : i < ds.length
  · refine .inr ?_
    obtain ⟨go, yl⟩ := hJ.go F ρ g σ H S1 i ds[i] e sm R (List.getElem?_eq_getElem hlt)
    refine ⟨go, Pv (i + 1), fun σ' H' p' => ⟨ds.length - (i + 1), by omega, rfl, hlt, p'⟩, fun x H' y => ?_⟩
    obtain ⟨S', sm', R', hx⟩ := yl x H' y
    rw [drop_of hlt] at G
    unfold loopD at G
    refine hg.run F ρ g σ H' S' x _ _ e R' hx ?_
    cases h1 : gs ds[i] ρ with
    | none => rw [h1] at G; exact G
    | some ρ1 =>
      rw [h1] at G
      intro σ2 R2
      refine hb.run F ρ1 g σ2 H' S' _ e R2 ?_
      have G := G.mono sm'
      simp only at G
      cases h2 : fb ρ1 g with
      | none => rw [h2] at G; exact G
      | some o =>
        rw [h2] at G
        cases o with
        | ex _ _ _ _ => exact G
        | ok f g2 =>
          cases f with
          | nx ρ2 => exact fun σ3 H3 S3 s3 R3 => ⟨ρ2, g2, S3, sm.trans (sm'.trans s3), R3, G.mono s3⟩
          | ct ρ2 => exact fun σ3 H3 S3 s3 R3 => ⟨ρ2, g2, S3, sm.trans (sm'.trans s3), R3, G.mono s3⟩
          | bk ρ2 => exact G
          | rt d => exact G
  · have e1 : i = ds.length := by omega
    subst e1
    rw [List.drop_length] at G
    exact .inl ⟨hJ.stop F ρ g σ H S1 e sm R, G σ H S1 (Same.refl _) R⟩
theorem pfs_for {tg iter : Expr} {body : List Stmt} {fi : FI} {gs : FG} {fb : FS} {vs : List Nat} {pos : Pos} (hp : PassesOwn (model X.prog X.w) X.A X.env X.xe) (hc : X.calm = true) (hi : PFI X ah (fun _ => E) tg iter fi) (hg : PFG X ah tg gs vs) (hb : PFSs X ah E body fb)
    (hs : ∀ x, foldedSetIterable iter X.env x = pure x := by intro _; rfl) : PFS X ah E (.For tg iter body [] pos) (sFor fi gs fb) := by
  obtain ⟨t, p, r⟩ := hi
  obtain ⟨u, q, s, _⟩ := hg
  obtain ⟨v, q', s'⟩ := hb
  exact ⟨_, ps_for hp hc p q q' hs, rs_for r s s'⟩

end
section
variable {X : Cx} {ah : Option Addr} {E : St → XK} {c : DC}
/-! ### comprehensions -/
/-- the slots of a block's own names -/
def wipeE (ρ : List En) : List Nat → List En
  | [] => ρ
  | v :: vs => (wipeE ρ vs).set v .un
theorem wipeE_get (ρ : List En) (i : Nat) : ∀ vs : List Nat, (wipeE ρ vs)[i]? = if i ∈ vs then (if i < ρ.length then some En.un else none) else ρ[i]?
  | [] => by simp [wipeE]
  | v :: vs => by
    have hl : ∀ ws : List Nat, (wipeE ρ ws).length = ρ.length := by
      intro ws
      induction ws with
      | nil => rfl
      | cons w ws ih => simp [wipeE, ih]
    unfold wipeE
    rw [List.getElem?_set, hl, wipeE_get ρ i vs]
    by_cases h : v = i
    · subst h; simp
    · have h' : ¬ i = v := fun e => h e.symm
      simp [h, h']
theorem Rep.wipe {F : Fx} {ρ g σ H S} (R : Rep F ρ g σ H S) (vs : List Nat) : Rep F (wipeE ρ vs) g (wipe σ vs) H S := by
  refine R.forget (fun i en h => ?_) fun i j p xs ys h1 h2 h3 h4 => ?_
  · rw [wipeE_get] at h
    split at h
    · rename_i hi
      split at h
      · rename_i hl
        cases h
        obtain ⟨so, h1, _⟩ := R.slots i _ (List.getElem?_eq_getElem hl)
        have := (List.getElem?_eq_some_iff.mp h1).1
        exact ⟨none, by rw [wipe_get, if_pos hi, if_pos this], trivial⟩
      · cases h
    · rename_i hi
      obtain ⟨so, h1, h2⟩ := R.slots i en h
      exact ⟨so, by rw [wipe_get, if_neg hi]; exact h1, h2⟩
  · rw [wipeE_get] at h1 h2
    split at h1
    · split at h1 <;> cases h1
    split at h2
    · split at h2 <;> cases h2
    rename_i n1 n2
    rw [wipe_get, if_neg n1] at h3
    rw [wipe_get, if_neg n2] at h4
    exact R.apart i j p xs ys h1 h2 h3 h4
def hideE : En → En
  | .hold _ _ => .un
  | e => e
def blkE (ρ : List En) (vs : List Nat) : List En := (wipeE ρ vs).map hideE
theorem Rep.sub_frame {F : Fx} {ρ g σ H S} (R : Rep F ρ g σ H S) : Rep ⟨F.c, H, S⟩ [] g [] H S :=
  ⟨R.sub, R.hand, fun b o e _ => e, fun b _ h => h, fun i e h => by simp at h, fun i j p xs ys h => by simp at h⟩
/-- within a block: the names of good standing, in a frame of their own -/
theorem Rep.inner {F F' : Fx} {ρ g g' σ H H' S S'} (R : Rep F ρ g σ H S) (vs : List Nat) (sm : Same S S') (e : F'.c = F.c) (R' : Rep F' [] g' [] H' S') : Rep ⟨F'.c, H', S'⟩ (blkE ρ vs) g' (L2.wipe σ vs) H' S' := by
  have W := R.wipe vs
  have B := R'.sub_frame
  refine ⟨B.sub, B.hand, B.keep, B.stay, fun i en h => ?_, fun i j p xs ys h1 h2 h3 h4 => ?_⟩
  · unfold blkE at h
    rw [List.getElem?_map, Option.map_eq_some_iff] at h
    obtain ⟨e0, h1, h2⟩ := h
    obtain ⟨so, k1, k2⟩ := W.slots i e0 h1
    refine ⟨so, k1, ?_⟩
    subst h2
    cases e0 with
    | un => trivial
    | hold ks xs => trivial
    | dt d => obtain ⟨v, q1, q2⟩ := k2; exact ⟨v, q1, by show Dn F'.c S' v d; rw [e]; exact q2.mono sm⟩
  · unfold blkE at h1
    rw [List.getElem?_map, Option.map_eq_some_iff] at h1
    obtain ⟨e0, _, h2⟩ := h1
    cases e0 <;> simp [hideE] at h2
def compD (gs : FG) (ft : FT) (fe : FE) : List D → List En → Gh → M (List D)
  | [], ρ, g => some (.ok [] g)
  | d :: ds, ρ, g => match gs d ρ with
    | none => none
    | some ρ1 => match ft ρ1 g with
      | some (.ok true g1) => match fe ρ1 g1 with
        | some (.ok y g2) => match compD gs ft fe ds ρ g2 with
          | some (.ok ys g3) => some (.ok (y :: ys) g3)
          | _ => none
        | _ => none
      | some (.ok false g1) => compD gs ft fe ds ρ g1
      | _ => none
@[simp] def tY : FT := fun _ g => some (.ok true g)
/-- the list of the block's values, a new one -/
@[simp] def cLc (fi : FI) (vs : List Nat) (gs : FG) (ft : FT) (fe : FE) : FE := fun ρ g => (fi ρ g).bd fun ds g1 => (compD gs ft fe ds (blkE ρ vs) g1).bd fun ys g2 => if ys.length ≤ 1000 then some (.ok (.lst ys) g2) else none
theorem Rep.write1 {F : Fx} {g H S} (R : Rep F [] g [] H S) {p : Addr} {o : HO} (h1 : S p = none) (h2 : F.HE p = none) (h3 : F.c.ah ≠ some p) : Rep F [] g [] (upd H p o) S :=
  ⟨fun b u e => by rw [upd_ne (ne_of_none e h1)]; exact R.sub _ _ e, R.hand.up1 h3, fun b u e h => by rw [upd_ne (ne_of_none e h2)]; exact R.keep b u e h, R.stay, fun i e h => by simp at h, fun i j p xs ys h => by simp at h⟩
theorem Rep.freeze1 {F : Fx} {g H S} (R : Rep F [] g [] H S) {p : Addr} {vs : List V} (h0 : H p = some (.lst vs)) (h1 : S p = none) (h2 : F.HE p = none) (h3 : F.c.ah ≠ some p) : Rep F [] g [] H (upd S p (.lst vs)) := by
  have sm : Same S (upd S p (.lst vs)) := Same.upd_new h1
  refine ⟨fun b o e => ?_, ?_, R.keep, fun b e h => ?_, fun i e h => by simp at h, fun i j p xs ys h => by simp at h⟩
  · by_cases hb : b = p
    · subst hb; rw [upd_same] at e; cases e; exact h0
    · rw [upd_ne hb] at e; exact R.sub _ _ e
  · have h := R.hand
    unfold HandAt at h ⊢
    cases ea : F.c.ah with
    | none => trivial
    | some a =>
      rw [ea] at h
      obtain ⟨k1, q, k2, k3⟩ := h
      have ne : a ≠ p := fun z => h3 (by rw [ea, z])
      exact ⟨by rw [upd_ne ne]; exact k1, q, k2, sm _ _ k3⟩
  · have ne : b ≠ p := fun z => e (by rw [z]; exact h2)
    rw [upd_ne ne]; exact R.stay b e h
/-- behind something that was run within the frame ⟨H, S⟩ -/
theorem Rep.behind {F : Fx} {g g' H H' S S'} (R : Rep F [] g [] H S) (sm : Same S S') (B : Rep ⟨F.c, H, S⟩ [] g' [] H' S') : Rep F [] g' [] H' S' := R.back sm B
theorem compD_cons {gs : FG} {ft : FT} {fe : FE} {d : D} {ds : List D} {ρ : List En} {g : Gh} {ys : List D} {g' : Gh} (h : compD gs ft fe (d :: ds) ρ g = some (.ok ys g')) :
    ∃ ρ1 b g1, gs d ρ = some ρ1 ∧ ft ρ1 g = some (.ok b g1) ∧ ((b = true ∧ ∃ y g2 zs, fe ρ1 g1 = some (.ok y g2) ∧ compD gs ft fe ds ρ g2 = some (.ok zs g') ∧ ys = y :: zs) ∨ (b = false ∧ compD gs ft fe ds ρ g1 = some (.ok ys g'))) := by
  unfold compD at h
  split at h
  · cases h
  rename_i ρ1 e1
  split at h
  · rename_i g1 e2
    split at h
    · rename_i y g2 e3
      split at h
      · rename_i zs g3 e4
        cases h
        exact ⟨ρ1, true, g1, e1, e2, .inl ⟨rfl, y, g2, zs, e3, e4, rfl⟩⟩
      · cases h
    · cases h
  · rename_i g1 e2
    exact ⟨ρ1, false, g1, e1, e2, .inr ⟨rfl, h⟩⟩
  · cases h
theorem compD_ok {gs : FG} {ft : FT} {fe : FE} : ∀ {ds : List D} {ρ : List En} {g : Gh} {o : Out (List D)}, compD gs ft fe ds ρ g = some o → ∃ ys g', o = .ok ys g'
  | [], ρ, g, o, h => by simp [compD] at h; exact ⟨_, _, h.symm⟩
  | d :: ds, ρ, g, o, h => by
    unfold compD at h
    split at h
    · cases h
    split at h
    · split at h
      · split at h
        · cases h; exact ⟨_, _, rfl⟩
        · cases h
      · cases h
    · exact compD_ok h
    · cases h
theorem re_lc {wi : TI} {fi : FI} {tg : TG} {gs : FG} {tt : TT} {ft : FT} {te : TE} {fe : FE} {vs : List Nat} (hi : @RG It (List D) rI c E wi fi) (hg : RTg c tg gs) (hw : TGw tg vs) (hm : TGm tg) (ht : RT c (fun _ => E0) tt ft) (he : RE c (fun _ => E0) te fe) : RE c E (tLc wi tg tt te vs) (cLc fi vs gs ft fe) := by
  refine RG.bind (rel := rI) (rel' := Dn) (r := fun σ J H1 (Q : VK) => ∀ D, H1 D = none → ∃ W : Nat → Nat → Hp → Prop, (∃ m, W 0 m (upd H1 D (.lst []))) ∧ ∀ i m H, W i m H →
    (J.stop i H ∧ Q (.ref D) H) ∨ (J.go i H ∧ ∃ Nx : Hp → Prop, (∀ H', Nx H' → ∃ m', m' < m ∧ W (i + 1) m' H') ∧ ∀ x H', J.yld i H x H' → tg x (wipe σ vs) H' fun σ2 H2 => wipe σ2 vs = wipe σ vs ∧ tt σ2 H2 fun b H3 =>
      if b = true then te σ2 H3 fun y H4 => ∃ acc, H4 D = some (.lst acc) ∧ acc.length < sizeLine ∧ Nx (upd H4 D (.lst (acc ++ [y]))) else Nx H3))
    (k := fun ρ ds g1 => (compD gs ft fe ds (blkE ρ vs) g1).bd fun ys g2 => if ys.length ≤ 1000 then some (.ok (.lst ys) g2) else none) hi fun F ρ g σ H S Q J ds e R hJ G => ?_
  intro p hp
  cases hc : compD gs ft fe ds (blkE ρ vs) g with
  | none => rw [hc] at G; exact G.elim
  | some o =>
  obtain ⟨ys, gE, rfl⟩ := compD_ok hc
  rw [hc] at G
  simp only [M.bd] at G
  by_cases hl : ys.length ≤ 1000
  case neg => rw [if_neg hl] at G; exact G.elim
  rw [if_pos hl] at G
  have pah : F.c.ah ≠ some p := R.new_ah hp
  have R0 := R.sub_frame
  let Pv : Nat → Hp → Prop := fun i H' => ∃ g' S' us zs rest, Same S S' ∧ Rep ⟨F.c, H, S⟩ [] g' [] H' S' ∧ H' p = some (.lst us) ∧ S' p = none ∧ Dns F.c S' us zs ∧ compD gs ft fe (ds.drop i) (blkE ρ vs) g' = some (.ok rest gE) ∧ zs ++ rest = ys
  refine ⟨fun i m H' => m = ds.length - i ∧ i ≤ ds.length ∧ Pv i H', ⟨ds.length, by simp, Nat.zero_le _, g, S, [], [], ys, Same.refl S, R0.write1 (R.sub.free hp) hp pah, upd_same, R.sub.free hp, .nil, hc, rfl⟩, ?_⟩
  rintro i m H' ⟨rfl, hi', g', S', us, zs, rest, sm, R', hD, hS, hz, hcr, hy⟩
  by_cases hlt : i < ds.length
  · refine .inr ?_
    rw [drop_of hlt] at hcr
    obtain ⟨ρ1, b, g1, e1, e2, alt⟩ := compD_cons hcr
    have RI := Rep.inner (F' := ⟨F.c, H, S⟩) R vs sm rfl R'
    obtain ⟨go, yl⟩ := hJ.go ⟨F.c, H', S'⟩ _ g' (wipe σ vs) H' S' i ds[i] e sm RI (List.getElem?_eq_getElem hlt)
    refine ⟨go, Pv (i + 1), fun H2 p' => ⟨ds.length - (i + 1), by omega, rfl, hlt, p'⟩, fun x H1 y => ?_⟩
    obtain ⟨S1, sm1, R1, hx⟩ := yl x H1 y
    have hgw := hw x (wipe σ vs) H1 (fun σ2 H2 => tt σ2 H2 fun b H3 =>
      if b = true then te σ2 H3 fun y H4 => ∃ acc, H4 p = some (.lst acc) ∧ acc.length < sizeLine ∧ Pv (i + 1) (upd H4 p (.lst (acc ++ [y]))) else Pv (i + 1) H3)
    have ww : wipe (wipe σ vs) vs = wipe σ vs := by
      apply List.ext_getElem?
      intro j
      rw [wipe_get, wipe_get, wipe_length]
      split <;> rfl
    refine hm.mono _ _ _ _ _ (fun σ2 H2 q => ⟨q.2.trans ww, q.1⟩) (hgw ?_)
    refine hg.run ⟨F.c, H', S'⟩ _ g' (wipe σ vs) H1 S1 x _ _ e R1 hx ?_
    rw [e1]
    intro σ2 R2
    refine ht.run ⟨F.c, H', S'⟩ _ g' σ2 H1 S1 _ e R2 ?_
    rw [e2]
    intro b' H3 S3 sm3 R3 hb
    have hb : b' = b := hb
    subst hb
    have keep : ∀ {ρx gx σx Hx Sx}, Rep ⟨F.c, H', S'⟩ ρx gx σx Hx Sx → Hx p = some (.lst us) ∧ Sx p = none := fun {ρx gx σx Hx Sx} Rx => ⟨Rx.keep p _ hD pah, Rx.stay p (by show H' p ≠ none; rw [hD]; simp) hS⟩
    rcases alt with ⟨rfl, y, g2, zs', e3, e4, rfl⟩ | ⟨rfl, e4⟩
    · rw [if_pos rfl]
      refine he.run ⟨F.c, H', S'⟩ _ g1 σ2 H3 S3 _ e R3 ?_
      rw [e3]
      intro y' H4 S4 sm4 R4 hy4
      obtain ⟨k1, k2⟩ := keep R4
      have sm' : Same S' S4 := sm1.trans (sm3.trans sm4)
      refine ⟨us, k1, ?_, g2, S4, us ++ [y'], zs ++ [y], zs', sm.trans sm', (Rep.behind R' sm' R4.bare).write1 k2 hp pah, upd_same, k2, (hz.mono sm').append (.cons hy4 .nil), e4, by rw [← hy]; simp⟩
      have : us.length ≤ ys.length := by rw [hz.length, ← hy]; simp
      exact small1000 (Nat.le_trans this hl)
    · rw [if_neg (by simp)]
      obtain ⟨k1, k2⟩ := keep R3
      have sm' : Same S' S3 := sm1.trans sm3
      exact ⟨g1, S3, us, zs, rest, sm.trans sm', Rep.behind R' sm' R3.bare, k1, k2, hz.mono sm', e4, hy⟩
  · have e1 : i = ds.length := by omega
    subst e1
    rw [List.drop_length] at hcr
    simp only [compD] at hcr
    cases hcr
    rw [List.append_nil] at hy
    subst hy
    refine .inl ⟨?_, ?_⟩
    · exact hJ.stop ⟨F.c, H, S⟩ _ _ [] H' S' e sm R'
    · have R2 := R'.freeze1 hD hS hp pah
      refine G (.ref p) H' _ (sm.trans (Same.upd_new hS)) (R.back (sm.trans (Same.upd_new hS)) R2) ?_
      exact .lst upd_same (hz.mono (Same.upd_new hS))
end
end FD
set_option Elab.async false
set_option linter.all false
set_option maxRecDepth 100000
set_option maxHeartbeats 2000000
namespace FD
open PySem L2
section
variable {X : Cx} {ah : Option Addr} {E : St → XK} {c : DC}
/-! ### one reading for all contexts of a block -/
theorem all_PE {ι : Type} {Y : ι → Cx} {e : Expr} {f : FE} (hc : ∀ i, dc (Y i) ah = c) (h : ∀ i, PF (Y i) ah E e f) : ∃ t, (∀ i, PE (Y i) e t) ∧ RE c E t f := by
  have h' : ∀ i, ∃ t, PE (Y i) e t ∧ RE c E t f := fun i => by
    obtain ⟨t, p, r⟩ := h i
    exact ⟨t, p, hc i ▸ r⟩
  by_cases hn : Nonempty ι
  · obtain ⟨i0⟩ := hn
    refine ⟨fun σ H Q => ∀ i, (h' i).choose σ H Q, fun i => ⟨fun pins s σ H Q I hw => (h' i).choose_spec.1.run pins s σ H Q I (hw i)⟩, ⟨fun F ρ g σ H S Q e R G i => ?_⟩⟩
    exact (h' i).choose_spec.2.run F ρ g σ H S Q e R G
  · exact ⟨fun _ _ _ => True, fun i => absurd ⟨i⟩ hn, ⟨fun _ _ _ _ _ _ _ _ _ _ => trivial⟩⟩
theorem all_PG {ι : Type} {Y : ι → Cx} {e : Expr} {f : FG} {vs : List Nat} (hc : ∀ i, dc (Y i) ah = c) (h : ∀ i, PFG (Y i) ah e f vs) : ∃ t, (∀ i, PG (Y i) e t) ∧ RTg c t f ∧ TGw t vs ∧ TGm t := by
  have h' : ∀ i, ∃ t, PG (Y i) e t ∧ RTg c t f ∧ TGw t vs ∧ TGm t := fun i => by
    obtain ⟨t, p, r, w, m⟩ := h i
    exact ⟨t, p, hc i ▸ r, w, m⟩
  refine ⟨fun v σ H Q => ∀ i, (h' i).choose v σ H Q, fun i => ⟨fun pins s σ H v u Q I r hw => (h' i).choose_spec.1.run pins s σ H v u Q I r (hw i)⟩, ⟨fun F ρ gh σ H S v d Q e R hv G i => ?_⟩, fun x σ H Q hw i => ?_, ⟨fun x σ H Q Q' hq hw i => ?_⟩⟩
  · exact (h' i).choose_spec.2.1.run F ρ gh σ H S v d Q e R hv G
  · exact (h' i).choose_spec.2.2.1 x σ H Q (hw i)
  · exact (h' i).choose_spec.2.2.2.mono x σ H Q Q' hq (hw i)
/-- a block's tests -/
def PFTs (X : Cx) (ah : Option Addr) (ifs : List Expr) (f : FT) : Prop := ∃ t, PTs X ifs t ∧ RT (dc X ah) (fun _ => E0) t f
theorem pfts_nil : PFTs X ah [] tY := ⟨_, pts_nil, ⟨fun F ρ g σ H S Q e R G => G.ret (b := true) R rfl⟩⟩
theorem pfts_one {e : Expr} {f : FT} (h : PFT X ah (fun _ => E0) e f) : PFTs X ah [e] f := by
  obtain ⟨t, p, r⟩ := h
  exact ⟨_, pts_one p, r⟩
theorem all_PTs {ι : Type} {Y : ι → Cx} {es : List Expr} {f : FT} (hc : ∀ i, dc (Y i) ah = c) (h : ∀ i, PFTs (Y i) ah es f) : ∃ t, (∀ i, PTs (Y i) es t) ∧ RT c (fun _ => E0) t f := by
  have h' : ∀ i, ∃ t, PTs (Y i) es t ∧ RT c (fun _ => E0) t f := fun i => by
    obtain ⟨t, p, r⟩ := h i
    exact ⟨t, p, hc i ▸ r⟩
  refine ⟨fun σ H Q => ∀ i, (h' i).choose σ H Q, fun i => ⟨fun pins s σ H Q I hw => (h' i).choose_spec.1.run pins s σ H Q I (hw i)⟩, ⟨fun F ρ g σ H S Q e R G i => ?_⟩⟩
  exact (h' i).choose_spec.2.run F ρ g σ H S Q e R G
abbrev BI := Shared × Hp × Addr × List (Str × Addr) × List Addr
abbrev bx (X : Cx) (scope : Scope) (i : BI) : Cx := X.blk i.1 i.2.1 scope (compEnvC scope i.2.2.2.1 i.2.2.1 X.env) i.2.2.2.2
/-- [e for x in xs if t] as a value -/
theorem pf_lc {elt tg iter : Expr} {ifs : List Expr} {scope : Scope} (own : List (Str × Nat)) {pos : Pos} {fi : FI} {gs : FG} {ft : FT} {fe : FE} (hN : X.N.Nodup) (hi : PFI X ah E tg iter fi)
    (hg : ∀ i : BI, PFG (bx X scope i) ah tg gs (own.map (·.2))) (ht : ∀ i : BI, PFTs (bx X scope i) ah ifs ft) (he : ∀ i : BI, PF (bx X scope i) ah (fun _ => E0) elt fe)
    (ok : BlkOk X.N X.env.scope scope own) (hc : X.calm = true := by rfl) (hs : ∀ x, foldedSetIterable iter X.env x = pure x := by intro _; rfl) :
    PF X ah E (.ListComp elt [⟨tg, iter, ifs, 0⟩] scope pos) (cLc fi (own.map (·.2)) gs ft fe) := by
  obtain ⟨t, p, r⟩ := hi
  obtain ⟨tg', pg, rg, wg, mg⟩ := all_PG (Y := bx X scope) (c := dc X ah) (fun _ => rfl) hg
  obtain ⟨tt, pt, rt⟩ := all_PTs (Y := bx X scope) (c := dc X ah) (fun _ => rfl) ht
  obtain ⟨te, pe, re⟩ := all_PE (Y := bx X scope) (c := dc X ah) (fun _ => rfl) he
  exact ⟨_, pe_lc hc hN p ok (fun s H C cl fp => pg (s, H, C, cl, fp)) (fun s H C cl fp => pt (s, H, C, cl, fp)) (fun s H C cl fp => pe (s, H, C, cl, fp)) hs, re_lc r rg wg mg rt re⟩
/-- y = [..] -/
theorem pfs_lc {E' : XK} (i : Nat) {y : Str} {py : Pos} {elt tg iter : Expr} {ifs : List Expr} {scope : Scope} (own : List (Str × Nat)) {pos spos : Pos} {fi : FI} {gs : FG} {ft : FT} {fe : FE} (hN : X.N.Nodup) (hi : PFI X ah (fun _ => E') tg iter fi)
    (hg : ∀ i : BI, PFG (bx X scope i) ah tg gs (own.map (·.2))) (ht : ∀ i : BI, PFTs (bx X scope i) ah ifs ft) (he : ∀ i : BI, PF (bx X scope i) ah (fun _ => E0) elt fe)
    (ok : BlkOk X.N X.env.scope scope own) (hsw : swapsWith (.ListComp elt [⟨tg, iter, ifs, 0⟩] scope pos) (some (.Name y py)) spos.line X.env = pure true)
    (hy : X.N[i]? = some y := by rfl) (hyl : X.env.scope.names.lookup y = some .local := by rfl) (hc : X.calm = true := by rfl) (hs : ∀ x, foldedSetIterable iter X.env x = pure x := by intro _; rfl) :
    PFS X ah E' (.Assign [.Name y py] (.ListComp elt [⟨tg, iter, ifs, 0⟩] scope pos) spos) (sAsg (cLc fi (own.map (·.2)) gs ft fe) (gN i)) := by
  obtain ⟨t, p, r⟩ := hi
  obtain ⟨tg', pg, rg, wg, mg⟩ := all_PG (Y := bx X scope) (c := dc X ah) (fun _ => rfl) hg
  obtain ⟨tt, pt, rt⟩ := all_PTs (Y := bx X scope) (c := dc X ah) (fun _ => rfl) ht
  obtain ⟨te, pe, re⟩ := all_PE (Y := bx X scope) (c := dc X ah) (fun _ => rfl) he
  exact ⟨_, ps_setLc hc hN hy hyl hsw p ok (fun s H C cl fp => pg (s, H, C, cl, fp)) (fun s H C cl fp => pt (s, H, C, cl, fp)) (fun s H C cl fp => pe (s, H, C, cl, fp)) hs, rs_asg (re_lc r rg wg mg rt re) (rt_name i)⟩

/-! ### calls of built-in things -/
def CallS (c : DC) (r : List V → Hp → VK → Prop) (op : List D → Option D) : Prop :=
  ∀ (E : XK) F ρ g σ H S Q vs ds, F.c = c → Rep F ρ g σ H S → Dns c S vs ds → Got Dn F ρ σ S E Q (lift (op ds) g) → r vs H Q
@[simp] def cCall (op : List D → Option D) (a : FA) : FE := fun ρ g => (a ρ g).bd fun xs g1 => lift (op xs) g1
theorem re_callB {r : List V → Hp → VK → Prop} {op : List D → Option D} {t : TA} {a : FA} (ho : CallS c r op) (ha : RA c E t a) : RE c E (tCB r t) (cCall op a) := by
  refine RG.bind (r := fun σ vs H1 (Q : VK) => r vs H1 Q) (k := fun ρ xs g1 => lift (op xs) g1) ha fun F ρ g σ H S Q x d e R hx G => ?_
  exact ho (E σ) F ρ g σ H S Q x d e R hx G
theorem pf_callB {x : Str} {id : String} {r : List V → Hp → VK → Prop} {op : List D → Option D} {e : Expr} {es : List Expr} {a : FA} {p pos : Pos} (hr : CallR X (.builtin id) r) (ho : CallS (dc X ah) r op) (hm : X.mg x = none) (hv : bootBuiltins x = some (.builtin id)) (ha : PFA X ah E (e :: es) a)
    (hg : Gl X x := by rfl) (hn : x ≠ "__name__" := by decide) (hdb : (x == ("__debug__" : Str)) = false := by decide)
    (he : starEach (e :: es) X.env = (false, eval e X.env) :: starEach es X.env := by rfl) (hpl : (backTo pos (starEach es X.env)).any (·.1) = false := by rfl) : PF X ah E (.Call (.Name x p) (e :: es) [] pos) (cCall op a) := by
  obtain ⟨t, q, s⟩ := ha
  exact ⟨_, pe_callB hr hg hm hv q hn hdb he hpl, re_callB ho s⟩
theorem pf_callTy {x : Str} {T : String} {r : List V → Hp → VK → Prop} {op : List D → Option D} {e : Expr} {es : List Expr} {a : FA} {p pos : Pos} (hr : CallR X (.type T) r) (ho : CallS (dc X ah) r op) (hm : X.mg x = none) (hv : bootBuiltins x = some (.type T)) (ha : PFA X ah E (e :: es) a)
    (hg : Gl X x := by rfl) (hn : x ≠ "__name__" := by decide) (hdb : (x == ("__debug__" : Str)) = false := by decide)
    (he : starEach (e :: es) X.env = (false, eval e X.env) :: starEach es X.env := by rfl) (hpl : (backTo pos (starEach es X.env)).any (·.1) = false := by rfl) : PF X ah E (.Call (.Name x p) (e :: es) [] pos) (cCall op a) := by
  obtain ⟨t, q, s⟩ := ha
  exact ⟨_, pe_callTy hr hg hm hv q hn hdb he hpl, re_callB ho s⟩

def lenD : List D → Option D
  | [.tup xs] => some (.int xs.length)
  | [.lst xs] => some (.int xs.length)
  | _ => none
abbrev rLenD (K : PySem.W.Frag) : List V → Hp → VK → Prop := fun xs H Q => ∃ p ys, xs = [.ref p] ∧ (SqL K H p ys ∨ SqT K H p ys) ∧ Q (.int ys.length) H
theorem cs_len : CallS c (rLenD c.K) lenD := by
  intro E F ρ g σ H S Q vs ds e R hx G
  subst e
  unfold lenD at G
  split at G
  · obtain ⟨v, rfl, hv⟩ := hx.one
    cases hv with
    | tup h hs => exact ⟨_, _, rfl, .inr (Same.tup R.sub h), by rw [hs.length]; exact G.ret R (.int _)⟩
  · obtain ⟨v, rfl, hv⟩ := hx.one
    cases hv with
    | lst h hs => exact ⟨_, _, rfl, .inl (SqL.of (R.sub _ _ h)), by rw [hs.length]; exact G.ret R (.int _)⟩
  · exact G.elim
theorem pf_len {e : Expr} {a : FA} {p pos : Pos} (hm : X.mg "len" = none) (ha : PFA X ah E [e] a) (hg : Gl X "len" := by rfl)
    (he : starEach [e] X.env = (false, eval e X.env) :: starEach [] X.env := by rfl) (hpl : (backTo pos (starEach [] X.env)).any (·.1) = false := by rfl) : PF X ah E (.Call (.Name "len" p) [e] [] pos) (cCall lenD a) := pf_callB call_len_seq cs_len hm PySem.boot_len ha hg (by decide) (by decide) he hpl
def tupleD : List D → Option D
  | [.tup xs] => some (.tup xs)
  | [.lst xs] => some (.tup xs)
  | _ => none
abbrev rTupleD (K : PySem.W.Frag) : List V → Hp → VK → Prop := fun xs H Q => ∃ p ys, xs = [.ref p] ∧ ((SqL K H p ys ∧ ∀ l, H l = none → Q (.ref l) (upd H l (.tup ys))) ∨ (SqT K H p ys ∧ Q (.ref p) H))
theorem cs_tuple : CallS c (rTupleD c.K) tupleD := by
  intro E F ρ g σ H S Q vs ds e R hx G
  subst e
  unfold tupleD at G
  split at G
  · obtain ⟨v, rfl, hv⟩ := hx.one
    cases hv with
    | tup h hs => exact ⟨_, _, rfl, .inr ⟨Same.tup R.sub h, G.ret R (.tup h hs)⟩⟩
  · obtain ⟨v, rfl, hv⟩ := hx.one
    cases hv with
    | lst h hs => exact ⟨_, _, rfl, .inl ⟨SqL.of (R.sub _ _ h), fun l hl => G.new R hl (.tup (SqT.of upd_same) (hs.mono (R.tosame _ hl)))⟩⟩
  · exact G.elim
def listD : List D → Option D
  | [.tup xs] => some (.lst xs)
  | [.lst xs] => some (.lst xs)
  | _ => none
abbrev rListD (K : PySem.W.Frag) : List V → Hp → VK → Prop := fun xs H Q => ∃ p ys, xs = [.ref p] ∧ (SqL K H p ys ∨ SqT K H p ys) ∧ ∀ l, H l = none → Q (.ref l) (upd H l (.lst ys))
theorem cs_list : CallS c (rListD c.K) listD := by
  intro E F ρ g σ H S Q vs ds e R hx G
  subst e
  unfold listD at G
  split at G
  · obtain ⟨v, rfl, hv⟩ := hx.one
    cases hv with
    | tup h hs => exact ⟨_, _, rfl, .inr (Same.tup R.sub h), fun l hl => G.new R hl (.lst upd_same (hs.mono (R.tosame _ hl)))⟩
  · obtain ⟨v, rfl, hv⟩ := hx.one
    cases hv with
    | lst h hs => exact ⟨_, _, rfl, .inl (SqL.of (R.sub _ _ h)), fun l hl => G.new R hl (.lst upd_same (hs.mono (R.tosame _ hl)))⟩
  · exact G.elim
def intOf : List D → Option D
  | [.int i] => some (.int i)
  | [.bl k] => some (.int (if k then 1 else 0))
  | _ => none
theorem cs_int : CallS c (fun xs H Q => (∃ i, xs = [.int i] ∧ Q (.int i) H) ∨ ∃ k, xs = [.bl k] ∧ Q (.int (if k then 1 else 0)) H) intOf := by
  intro E F ρ g σ H S Q vs ds e R hx G
  unfold intOf at G
  split at G
  · obtain ⟨v, rfl, hv⟩ := hx.one
    cases hv.intE
    exact .inl ⟨_, rfl, G.ret R (.int _)⟩
  · obtain ⟨v, rfl, hv⟩ := hx.one
    cases hv.blE
    exact .inr ⟨_, rfl, G.ret R (.int _)⟩
  · exact G.elim
/-- all of a list of flags -/
def flags : List D → Option (List Bool)
  | [] => some []
  | .bl b :: ds => (flags ds).map (b :: ·)
  | _ => none
theorem flags_of {S : Hp} : ∀ {vs : List V} {ds : List D} {bs : List Bool}, Dns c S vs ds → flags ds = some bs → vs = bs.map V.bl
  | _, _, _, .nil, e => by simp [flags] at e; subst e; rfl
  | _, _, _, .cons h hs, e => by
    cases h <;> simp only [flags] at e <;> try cases e
    rw [Option.map_eq_some_iff] at e
    obtain ⟨bs, e1, rfl⟩ := e
    rw [flags_of hs e1]; rfl
def allD : List D → Option D
  | [.lst ds] => (flags ds).map fun bs => .bl (bs.all id)
  | _ => none
/-- the greater of two numbers -/
def max2D : List D → Option D
  | [.int i, .int j] => some (.int (if j > i then j else i))
  | _ => none
abbrev rMax2 : List V → Hp → VK → Prop := fun vs H Q => ∃ i j, vs = [.int i, .int j] ∧ Q (.int (if j > i then j else i)) H
theorem cr_max2 {X : Cx} (hc : X.calm = true) : CallR X (.builtin "max") rMax2 := by
  intro pins s σ H vs us Q I r h
  obtain ⟨i, j, rfl, q⟩ := h
  cases r with
  | cons r1 r =>
  cases r with
  | cons r2 r =>
  cases r
  obtain ⟨t, rfl⟩ := r1
  obtain ⟨u, rfl⟩ := r2
  exact max_two_ints (I.ok.hd hc) fun h' tk hk => ⟨.int (if j > i then j else i), H, I.kept hk, by split <;> exact ⟨_, rfl⟩, q⟩
theorem cs_max2 : CallS c rMax2 max2D := by
  intro E F ρ g σ H S Q vs ds e R hx G
  unfold max2D at G
  split at G
  · obtain ⟨v, w, rfl, hv, hw⟩ := hx.two
    cases hv.intE
    cases hw.intE
    exact ⟨_, _, rfl, G.ret R (.int _)⟩
  · exact G.elim
def anyD : List D → Option D
  | [.lst ds] => (flags ds).map fun bs => .bl (bs.any id)
  | _ => none
theorem cs_all : CallS c (rAll c.K) allD := by
  intro E F ρ g σ H S Q vs ds e R hx G
  subst e
  unfold allD at G
  split at G
  · rename_i ds
    obtain ⟨v, rfl, hv⟩ := hx.one
    cases hv with
    | lst h hs =>
      cases q : flags ds with
      | none => rw [q] at G; exact G.elim
      | some bs =>
        rw [q] at G
        have := flags_of hs q
        subst this
        exact ⟨_, bs, rfl, SqL.of (R.sub _ _ h), G.ret R (.bl _)⟩
  · exact G.elim
theorem cs_any : CallS c (rAny c.K) anyD := by
  intro E F ρ g σ H S Q vs ds e R hx G
  subst e
  unfold anyD at G
  split at G
  · rename_i ds
    obtain ⟨v, rfl, hv⟩ := hx.one
    cases hv with
    | lst h hs =>
      cases q : flags ds with
      | none => rw [q] at G; exact G.elim
      | some bs =>
        rw [q] at G
        have := flags_of hs q
        subst this
        exact ⟨_, bs, rfl, SqL.of (R.sub _ _ h), G.ret R (.bl _)⟩
  · exact G.elim

/-! ### isinstance of a built-in type -/
/-- what is known of an own class whose things are told apart from the built-in ones -/
structure ClsI (K : PySem.W.Frag) (C : Addr) : Prop where
  cl : Cls K C
  ha : PySem.W.findIn K (.ref C) "__class__" = some (some (.builtin "object.__class__"))
  hn : PySem.W.specialIn K (.builtin "object.__class__") "__get__" = some (some (.builtin "getset_descriptor.__get__"))
  htk : PySem.W.takesIn K (.builtin "object.__class__") = some true
  hm : PySem.W.mroIn K C (.type "object") = some true
  no : ∀ t : String, (t = "int" ∨ t = "bool" ∨ t = "str" ∨ t = "tuple" ∨ t = "list") → PySem.W.kitOne K (.ref C) (.type t) = some false
def isTyB (t : String) : D → Bool
  | .non => false
  | .bl _ => t == "bool" || t == "int"
  | .int _ => t == "int"
  | .str _ => t == "str"
  | .tup _ => t == "tuple"
  | .lst _ => t == "list"
  | _ => false
def isTyD (t : String) : D → Option D
  | .hnd => none
  | .rng _ _ => none
  | .scr _ => none
  | .obj c _ _ => if c = "Play" then some (.bl false) else none
  | d => some (.bl (isTyB t d))
theorem kitB_all (t : String) (h : t = "int" ∨ t = "bool" ∨ t = "str" ∨ t = "tuple" ∨ t = "list") :
    kitB "NoneType" t = some false ∧ kitB "bool" t = some (t == "bool" || t == "int") ∧ kitB "int" t = some (t == "int") ∧ kitB "str" t = some (t == "str") ∧ kitB "tuple" t = some (t == "tuple") ∧ kitB "list" t = some (t == "list") ∧ kitB "dict" t = some false := by
  rcases h with rfl | rfl | rfl | rfl | rfl <;> decide +kernel
@[simp] def cIs (t : String) (a : FE) : FE := c1 (isTyD t) a
theorem re_isTy {t : String} {te : TE} {a : FE} (ht : t = "int" ∨ t = "bool" ∨ t = "str" ∨ t = "tuple" ∨ t = "list") (ho : ∀ C, c.mg "Play" = some (.ref C) → ClsI c.K C)
    (ha : RE c E te a) : RE c E (tCB (rIsi c.K) (tCons te (tCons (tC (.ty t)) tNil))) (cIs t a) := by
  refine RG.bind (r := fun σ x H1 (Q : VK) => rIsi c.K [x, .ty t] H1 Q) (k := fun ρ x g1 => lift (isTyD t x) g1) ha fun F ρ g σ H S Q x d e R hx G => ?_
  obtain ⟨k0, k1, k2, k3, k4, k5, k6⟩ := kitB_all t ht
  cases hx with
  | non => exact ⟨_, _, _, _, _, rfl, .ty t, .base .non, kit_ty k0, G.ret R (.bl _)⟩
  | bl b => exact ⟨_, _, _, _, _, rfl, .ty t, .base (.bl b), kit_ty k1, G.ret R (.bl _)⟩
  | int b => exact ⟨_, _, _, _, _, rfl, .ty t, .base (.int b), kit_ty k2, G.ret R (.bl _)⟩
  | str b => exact ⟨_, _, _, _, _, rfl, .ty t, .base (.str b), kit_ty k3, G.ret R (.bl _)⟩
  | tup h hs =>
    refine ⟨_, _, .type "tuple", _, _, rfl, .ty t, ?_, kit_ty k4, G.ret R (.bl _)⟩
    rcases Same.tup R.sub h with (h | ⟨o, h⟩) | ⟨o, its, n, h, hc, _⟩
    · exact .base (.tup h)
    · exact .fTuple h
    · exact .kTuple h hc
  | lst h hs => exact ⟨_, _, _, _, _, rfl, .ty t, .base (.lst (R.sub _ _ h)), kit_ty k5, G.ret R (.bl _)⟩
  | emp h => exact ⟨_, _, _, _, _, rfl, .ty t, .base (.dK (R.sub _ _ h)), kit_ty k6, G.ret R (.bl _)⟩
  | obj m h k hs =>
    simp only [isTyD] at G
    rename_i cn _ _ _
    by_cases hc : cn = "Play"
    case neg => rw [if_neg hc] at G; exact G.elim
    rw [if_pos hc] at G
    subst hc
    have ci := ho _ m
    exact ⟨_, _, _, _, _, rfl, .ty t, .base (.ins (R.sub _ _ h) ci.cl ci.ha ci.hn ci.htk ci.hm), ci.no t ht, G.ret R (.bl _)⟩
  | hnd h => exact G.elim
  | rng h => exact G.elim
  | scr h => exact G.elim
end
end FD
set_option Elab.async false
set_option linter.all false
set_option maxRecDepth 100000
set_option maxHeartbeats 2000000
namespace FD
open PySem L2 PyProof.Rows
section
variable {X : Cx} {ah : Option Addr} {E : L2.St → XK} {c : DC}
/-! ### isinstance(x, T) -/
theorem pf_is {t : String} {e : Expr} {a : FE} {p p2 pos : Pos} (ht : t = "int" ∨ t = "bool" ∨ t = "str" ∨ t = "tuple" ∨ t = "list") (ho : ∀ C, X.mg "Play" = some (.ref C) → ClsI X.K C) (hm : X.mg "isinstance" = none) (hm2 : X.mg (Str.ofString t) = none)
    (hv2 : bootBuiltins (Str.ofString t) = some (.type t)) (ha : PF X ah E e a) (hg : Gl X "isinstance" := by rfl) (hg2 : Gl X (Str.ofString t) := by rfl) (hn2 : Str.ofString t ≠ "__name__" := by decide +kernel) (hd2 : (Str.ofString t == ("__debug__" : Str)) = false := by decide +kernel)
    (he : starEach [e, .Name (Str.ofString t) p2] X.env = (false, eval e X.env) :: starEach [.Name (Str.ofString t) p2] X.env := by rfl) (he2 : starEach [.Name (Str.ofString t) p2] X.env = (false, eval (.Name (Str.ofString t) p2) X.env) :: starEach [] X.env := by rfl) (hpl : (backTo pos (starEach [.Name (Str.ofString t) p2] X.env)).any (·.1) = false := by rfl) :
    PF X ah E (.Call (.Name "isinstance" p) [e, .Name (Str.ofString t) p2] [] pos) (cIs t a) := by
  obtain ⟨u, q, s⟩ := ha
  refine ⟨_, pe_callB call_isi hg hm (by decide +kernel) (pa_cons q (pa_cons (pe_bltn (v := .ty t) hg2 hm2 hv2 rfl hn2 hd2) pa_nil he2) he) (by decide) (by decide) he hpl, ?_⟩
  exact re_isTy (c := dc X ah) ht ho s

/-! ### what a def promises: its value is Fn's -/
def spF (K : PySem.W.Frag) (mg : Str → Option Value) (n : Nat) (Fn : List D → Gh → M D) : Sp := fun vs H Q E => ∃ ah S g ds, ds.length = n ∧ Rep ⟨⟨K, mg, ah⟩, H, S⟩ [] g [] H S ∧ Dns ⟨K, mg, ah⟩ S vs ds ∧ Got Dn ⟨⟨K, mg, ah⟩, H, S⟩ [] [] S E Q (Fn ds g)
def DefOk (P : Program) (w : World) (K : PySem.W.Frag) (mg : Str → Option Value) (base : Heap) (CX : CXT) (x : Str) (k n : Nat) (Fn : List D → Gh → M D) : Prop :=
  ∃ f fd ps, FnOk P w K mg base CX k f fd ps (spF K mg n Fn) ∧ mg x = some (.ref f) ∧ PySem.W.keepIn K (.ref f) = true ∧ Binds K fd ps []
@[simp] def noX {α : Type} : M α → M α
  | some (.ok a g) => some (.ok a g)
  | _ => none
@[simp] def cFn (n : Nat) (Fn : List D → Gh → M D) (a : FA) : FE := fun ρ g => (a ρ g).bd fun xs g1 => if xs.length = n then noX (Fn xs g1) else none
theorem Got.frame {F : Fx} {ρ g σ H S} {Q : VK} {E : XK} {m : M D} (R : Rep F ρ g σ H S) (G : Got Dn F ρ σ S E Q m) : Got Dn ⟨F.c, H, S⟩ [] [] S E Q m := by
  cases m with
  | none => exact G
  | some o => cases o with
    | ok d g1 => exact fun b H' S' sm B h => G b H' S' sm (R.back sm B) h
    | ex cc ks ds g1 => exact fun A dd H' S' m sm B x => G A dd H' S' m sm (R.bare.back sm B) x
theorem Got.noX {F : Fx} {ρ σ S} {Q : VK} {E : XK} {m : M D} (G : Got Dn F ρ σ S E Q (noX m)) : Got Dn F ρ σ S E0 Q m := by
  cases m with
  | none => exact G
  | some o => cases o with
    | ok d g1 => exact G
    | ex cc ks ds g1 => exact G.elim
theorem re_fn {n : Nat} {Fn : List D → Gh → M D} {t : TA} {a : FA} (ha : RA c E t a) : RE c E (tCall (spF c.K c.mg n Fn) [] E0 t) (cFn n Fn a) := by
  refine RG.bind (r := fun σ vs H1 (Q : VK) => spF c.K c.mg n Fn (vs ++ []) H1 Q E0) (k := fun ρ xs g1 => if xs.length = n then FD.noX (Fn xs g1) else none) ha fun F ρ g σ H S Q vs ds e R hx G => ?_
  by_cases hl : ds.length = n
  case neg => rw [if_neg hl] at G; exact G.elim
  rw [if_pos hl] at G
  subst e
  exact ⟨F.c.ah, S, g, ds, hl, R.sub_frame, by rw [List.append_nil]; exact hx, Got.frame R G.noX⟩
theorem pf_call {x : Str} {k n : Nat} {Fn : List D → Gh → M D} {e : Expr} {es : List Expr} {a : FA} {p pos : Pos} (G : DefOk X.prog X.w X.K X.mg X.base CX0 x k n Fn) (hr : Room k X.A) (ha : PFA X ah E (e :: es) a) (hg : Gl X x := by rfl) (hdb : (x == ("__debug__" : Str)) = false := by decide)
    (he : starEach (e :: es) X.env = (false, eval e X.env) :: starEach es X.env := by rfl) (hpl : (backTo pos (starEach es X.env)).any (·.1) = false := by rfl) : PF X ah E (.Call (.Name x p) (e :: es) [] pos) (cFn n Fn a) := by
  obtain ⟨f, fd, ps, F, hm, hk, hb⟩ := G
  obtain ⟨t, q, s⟩ := ha
  exact ⟨_, pe_call F hr hg hm hk hb .nil pass0 q hdb he hpl, re_fn (c := dc X ah) s⟩
theorem DefOk.mono {P w K mg base CX x j k n Fn} (h : DefOk P w K mg base CX x j n Fn) (l : j ≤ k) : DefOk P w K mg base CX x k n Fn := by
  obtain ⟨f, fd, ps, F, r⟩ := h
  exact ⟨f, fd, ps, F.mono l, r⟩

end
section
variable {X : Cx} {ah : Option Addr} {E : XK} {c : DC}
/-- a body's value -/
def fnOf (N : Nat) (b : FS) (ds : List D) (g : Gh) : M D := match b (ds.map .dt ++ List.replicate (N - ds.length) .un) g with
  | some (.ok (.rt d) g1) => some (.ok d g1)
  | some (.ok (.nx _) g1) => some (.ok .non g1)
  | some (.ex c ks es g1) => some (.ex c ks es g1)
  | _ => none
theorem Rep.start {K : PySem.W.Frag} {mg : Str → Option Value} {ah : Option Addr} {H S : Hp} {g : Gh} {vs : List V} {ds : List D} {N : List Str} (R : Rep ⟨⟨K, mg, ah⟩, H, S⟩ [] g [] H S) (h : Dns ⟨K, mg, ah⟩ S vs ds) (hl : ds.length ≤ N.length) :
    Rep ⟨⟨K, mg, ah⟩, H, S⟩ (ds.map .dt ++ List.replicate (N.length - ds.length) .un) g (start N vs) H S := by
  have len := h.length
  refine R.forget (fun i e hi => ?_) fun i j p xs ys h1 => ?_
  · by_cases hlt : i < ds.length
    · rw [List.getElem?_append_left (by simpa using hlt), List.getElem?_map, Option.map_eq_some_iff] at hi
      obtain ⟨d, h1, rfl⟩ := hi
      obtain ⟨v, h2, h3⟩ := h.get h1
      refine ⟨some v, ?_, v, rfl, h3⟩
      unfold L2.start
      rw [List.getElem?_append_left (by simpa [len] using hlt), List.getElem?_map, h2]
      rfl
    · have hge : ds.length ≤ i := Nat.le_of_not_lt hlt
      rw [List.getElem?_append_right (by simpa using hge), List.length_map, List.getElem?_replicate] at hi
      split at hi
      · rename_i hr
        cases hi
        refine ⟨none, ?_, trivial⟩
        unfold L2.start
        rw [List.getElem?_append_right (by simpa [len] using hge), List.length_map, List.getElem?_replicate, len, if_pos hr]
      · cases hi
  · by_cases hlt : i < ds.length
    · rw [List.getElem?_append_left (by simpa using hlt), List.getElem?_map, Option.map_eq_some_iff] at h1
      obtain ⟨d, _, h2⟩ := h1
      cases h2
    · rw [List.getElem?_append_right (by simpa using Nat.le_of_not_lt hlt), List.getElem?_replicate] at h1
      split at h1 <;> cases h1
/-- a def of the text by its body's function -/
theorem fd_ok {P : Program} {w : World} {K : PySem.W.Frag} {mg : Str → Option Value} {base : Heap} {x qual : Str} {st : Stmt} {f : Addr} {fd : FuncData} {N ps : List Str} {k n : Nat} {b : FS} (F : Fun K x qual st f fd) (Sc : FnScope N ps (defScope st)) (hn : ps.length = n) (hN : n ≤ N.length)
    (hb : ∀ (cdv : Value) (A : Around) (outer : List Env) (s : Shared) (H : Hp) (E : XK) (ah : Option Addr), Room k (A.deeper (envOfC qual (defScope st) s.heap.objs.size f cdv)) → PFSs ((cxOf CX0 P w K mg base N qual (defScope st) f cdv A outer s H E).nox) ah E0 (defBody st) b) :
    FnOk P w K mg base CX0 (k + 1) f fd ps (spF K mg n fun ds g => noX (fnOf N.length b ds g)) := by
  refine F.ok Sc (fun vs H Q E h => ?_) (fun cdv A outer s H vs Q E hr h => ?_)
  · obtain ⟨ah, S, g, ds, hl, R, hv, G⟩ := h
    rw [hv.length, hl, hn]
  · obtain ⟨ah, S, g, ds, hl, R, hv, G⟩ := h
    obtain ⟨t, p, r⟩ := hb cdv A outer s H E ah hr
    refine ⟨t, p, r.run ⟨⟨K, mg, ah⟩, H, S⟩ _ g _ H S _ rfl (Rep.start R hv (by omega)) ?_⟩
    have G : Got Dn ⟨⟨K, mg, ah⟩, H, S⟩ [] [] S E Q (FD.noX (fnOf N.length b ds g)) := G
    unfold fnOf at G
    cases h : b (ds.map .dt ++ List.replicate (N.length - ds.length) .un) g with
    | none => rw [h] at G; exact G
    | some o => cases o with
      | ok fl g1 => cases fl with
        | nx ρ => rw [h] at G; exact fun σ' H' S' sm R' => G .non H' S' sm R'.bare .non
        | rt d => rw [h] at G; exact fun v H' S' sm R' hd => G v H' S' sm R' hd
        | bk ρ => rw [h] at G; exact G.elim
        | ct ρ => rw [h] at G; exact G.elim
      | ex cc ks es g1 => rw [h] at G; exact G.elim

/-! ### lists that a name alone holds -/
/-- x = [] -/
@[simp] def sOwn (i : Nat) : FS := fun ρ g => some (.ok (.nx (ρ.set i (.own []))) g)
theorem pfs_own0 (i : Nat) {x : Str} {pos pos' lpos : Pos} (hN : X.N.Nodup) (hi : X.N[i]? = some x := by rfl) (hx : Loc X.env.scope x := by first | exact Or.inl rfl | exact Or.inr rfl) (hs : swapsWith (.List [] lpos) (some (.Name x pos')) pos.line X.env = pure false := by rfl)
    (hf : X.fn x = true ∨ X.env.scope.names.lookup x = some .local := by first | exact .inl rfl | exact .inr rfl) : PFS X ah E (.Assign [.Name x pos'] (.List [] lpos) pos) (sOwn i) := by
  refine ⟨_, ps_set hN hi hx (pe_lst pa_nil) hs hf, ⟨fun F ρ g σ H S Z e R G => ?_⟩⟩
  exact ⟨Nat.zero_le _, fun p hp => G _ _ S (Same.refl S) (R.setOwn i hp .nil)⟩
/-- x.append(e) -/
@[simp] def sApp (i : Nat) (a : FE) : FS := fun ρ g => match ρ[i]? with
  | some (.hold none xs) => (a ρ g).bd fun y g1 => if xs.length ≤ 1000 then some (.ok (.nx (ρ.set i (.own (xs ++ [y])))) g1) else none
  | _ => none
theorem pfs_app (i : Nat) {x : Str} {e : Expr} {a : FE} {p1 p2 p3 pos : Pos} (ha : PF X ah (fun _ => E) e a) (hN : X.N[i]? = some x := by rfl) (hv : Vis X.env.scope x := by first | exact Or.inl rfl | exact Or.inr (Or.inl rfl) | exact Or.inr (Or.inr rfl)) (hd : (x == ("__debug__" : Str)) = false := by decide)
    (hcd : (x == ("__classdict__" : Str)) = false := by decide)
    (hbase : attributeBase (.Name x p1) "append" X.env (eval (.Name x p1) X.env) = eval (.Name x p1) X.env := by rfl)
    (hfew : ((backTo p3 (starEach [e] X.env)).all (fun x => !x.1) && (backToKw p3 (keywordEach [] X.env)).all (fun x => x.1.isSome)
      && decide ([e].length + ([] : List Keyword).length + (if ([] : List Keyword).isEmpty then 0 else 1) < 30)) = true := by rfl)
    (hline : (p2.endLine == p3.line) = true := by rfl) (hst : starEach [e] X.env = (false, eval e X.env) :: starEach [] X.env := by rfl) (hplain : (backTo p3 (starEach [] X.env)).any (·.1) = false := by rfl)
    (hs : swapsWith (.Call (.Attribute (.Name x p1) "append" p2) [e] [] p3) none pos.line X.env = pure false := by rfl) : PFS X ah E (.Expr (.Call (.Attribute (.Name x p1) "append" p2) [e] [] p3) pos) (sApp i a) := by
  obtain ⟨t, q, r⟩ := ha
  refine ⟨_, ps_expr (pe_bm PySem.F.plainAttrs_list PySem.F.slot_list_append PySem.F.type_list_append mt_append (pe_var hN hv hd hcd) (pa_cons q pa_nil hst) hbase hfew hline hst hplain) hs, ⟨fun F ρ g σ H S Z e R G => ?_⟩⟩
  simp only [sApp] at G
  split at G
  case h_2 => exact G.elim
  rename_i xs hi
  obtain ⟨so, h1, p, vs, rfl, h2, h3, h4, h5, h6⟩ := R.slots i _ hi
  refine ⟨.ref p, h1, .inl ⟨rfl, _, SqL.of h5⟩, ?_⟩
  refine r.stepS e R G fun H1 S1 g1 y d sm R1 hy G => ?_
  obtain ⟨so, k1, p', ws, k0, k2, k3, k4, k5, k6⟩ := R1.slots i _ hi
  rw [h1] at k1; cases k1; cases k0
  by_cases hl : xs.length ≤ 1000
  case neg => rw [if_neg hl] at G; exact G.elim
  rw [if_pos hl] at G
  exact ⟨p, ws, y, rfl, rfl, k5, by rw [k6.length]; exact small1000 hl, G _ _ S1 (Same.refl _) (R1.writeOwn hi h1 (k6.append (.cons (e ▸ hy) .nil)))⟩
/-- the list that slot i alone holds is data from now on -/
@[simp] def sFrz (i : Nat) (b : FS) : FS := fun ρ g => match ρ[i]? with
  | some (.hold none xs) => b (ρ.set i (.dt (.lst xs))) g
  | _ => none
theorem pfss_frz (i : Nat) {s : List Stmt} {b : FS} (h : PFSs X ah E s b) : PFSs X ah E s (sFrz i b) := by
  obtain ⟨t, p, r⟩ := h
  refine ⟨t, p, ⟨fun F ρ g σ H S Z e R G => ?_⟩⟩
  simp only [sFrz] at G
  split at G
  case h_2 => exact G.elim
  rename_i xs hi
  obtain ⟨S', sm, R'⟩ := R.freeze hi
  exact r.run F _ g σ H S' Z e R' (G.mono sm)

end
section
variable {X : Cx} {ah : Option Addr} {E : L2.St → XK} {c : DC}
/-! ### attributes -/
def fldD (f : Str) : D → Option D
  | .obj c ks ds => if c = "Play" then (ks.zip ds).lookup f else none
  | _ => none
theorem lookup_Dn {S : Hp} : ∀ {fs : List (Str × V)} {ks : List Str} {ds : List D} {f : Str} {d : D}, fs.map (·.1) = ks → Dns c S (fs.map (·.2)) ds → (ks.zip ds).lookup f = some d → ∃ v, fs.lookup f = some v ∧ Dn c S v d
  | [], _, _, f, d, rfl, h, e => by cases h; simp [List.lookup] at e
  | (k, v) :: fs, _, _, f, d, rfl, h, e => by
    cases h with
    | cons h hs =>
      simp only [List.map_cons, List.zip_cons_cons, List.lookup_cons] at e ⊢
      split at e
      · cases e
        exact ⟨v, by simp_all, h⟩
      · rename_i hk
        obtain ⟨w, h1, h2⟩ := lookup_Dn rfl hs e
        exact ⟨w, by simp_all, h2⟩
theorem pf_fld {f : Str} {e : Expr} {a : FE} {pos : Pos} (ho : ∀ C, X.mg "Play" = some (.ref C) → Cls X.K C ∧ NoAttr X.K C f) (ha : PF X ah E e a) (hb : attributeBase e f X.env (eval e X.env) = eval e X.env := by rfl) : PF X ah E (.Attribute e f pos) (c1 (fldD f) a) := by
  obtain ⟨t, p, r⟩ := ha
  refine ⟨_, pe_fld p hb, ?_⟩
  refine RG.bind (r := fun σ x H1 (Q : VK) => ∃ a C dx fs v, x = .ref a ∧ H1 a = some (.ins C dx fs) ∧ Cls X.K C ∧ NoAttr X.K C f ∧ fs.lookup f = some v ∧ Q v H1) (k := fun ρ x g1 => lift (fldD f x) g1) r fun F ρ g σ H S Q x d e R hx G => ?_
  cases hx with
  | obj m h k hs =>
    rename_i cn fs ks ds
    simp only [fldD] at G
    by_cases hc : cn = "Play"
    case neg => rw [if_neg hc] at G; exact G.elim
    rw [if_pos hc] at G
    subst hc
    cases q : (ks.zip ds).lookup f with
    | none => rw [q] at G; exact G.elim
    | some d =>
      rw [q] at G
      obtain ⟨v, h1, h2⟩ := lookup_Dn k hs q
      obtain ⟨c1, c2⟩ := ho _ m
      exact ⟨_, _, _, _, v, rfl, R.sub _ _ h, c1, c2, h1, G.ret R (e ▸ h2)⟩
  | _ => simp only [fldD, lift] at G; exact G.elim
end
end FD
set_option Elab.async false
set_option linter.all false
set_option maxRecDepth 100000
set_option maxHeartbeats 2000000
namespace FD
open PySem L2 PyProof.Rows
/-! ### own errors with one field -/
/-- __init__ of such an error, at the class C, keeping the field f -/
def spExI (C : Addr) (f : Str) : Sp := fun vs H Q _ => ∃ (a : Addr) (v : V), vs = [.ref a, v] ∧ H a = some (exo a C none) ∧ ∀ dx, H dx = none → dx ≠ a → Q .non (upd (upd H dx (exd dx [(f, v)])) a (exo a C (some dx)))
def ExcOk (P : Program) (w : World) (K : PySem.W.Frag) (mg : Str → Option Value) (base : Heap) (x f : Str) : Prop :=
  ∃ C fI fd ps, mg x = some (.ref C) ∧ OexC K C ∧ XfC K C ∧ PySem.W.findIn K (.ref C) f = some none ∧ PySem.W.findIn K (.ref C) "__init__" = some (some (.ref fI)) ∧ PySem.W.typeIn K (.ref fI) = some (.type "function") ∧ FnOk P w K mg base CX0 1 fI fd ps (spExI C f) ∧ Binds K fd ps [] ∧ PySem.W.exmOne K (.ref C) (.ref C) = some true
section
variable {X : Cx} {ah : Option Addr} {E : XK} {c : DC}
/-- self.f = p, the whole body -/
theorem exc_init {P : Program} {w : World} {K : PySem.W.Frag} {mg : Str → Option Value} {base : Heap} {qual f p : Str} {st : Stmt} {fI C : Addr} {fd : FuncData} {p1 p2 p3 p4 : Pos} (F : Fun K "__init__" qual st fI fd) (T : OexC K C) (hno : PySem.W.findIn K (.ref C) f = some none)
    (Sc : FnScope ["self", p] ["self", p] (defScope st)) (hb : defBody st = [.Assign [.Attribute (.Name "self" p1) f p2] (.Name p p3) p4]) (h1 : (defScope st).names.lookup ("self" : Str) = some .local) (h2 : (defScope st).names.lookup p = some .local)
    (hd : (p == ("__debug__" : Str)) = false) (hcd : (p == ("__classdict__" : Str)) = false) : FnOk P w K mg base CX0 1 fI fd ["self", p] (spExI C f) := by
  refine F.ok Sc (fun vs H Q E h => ?_) (fun cdv A outer s H vs Q E hr h => ?_)
  · obtain ⟨a, v, rfl, _⟩ := h
    rfl
  · obtain ⟨a, v, rfl, ha, k⟩ := h
    rw [hb]
    refine ⟨_, pss_one (ps_ost (pe_var (i := 0) rfl (.inl h1) (by decide) (by decide)) (pe_var (i := 1) rfl (.inl h2) hd hcd)), ?_⟩
    exact ⟨v, rfl, .ref a, rfl, a, C, rfl, T, hno, .inl ⟨ha, fun dx n ne => k dx n ne⟩⟩
theorem del_eq {H : Hp} {a dx : Addr} {f : Str} {v : V} {C : Addr} (ha : H a = none) (ne : dx ≠ a) : upd (del (upd (upd (upd H a (exo a C none)) dx (exd dx [(f, v)])) a (exo a C (some dx))) a) dx (.xd [(f, v)]) = upd H dx (.xd [(f, v)]) := by
  funext b
  by_cases hb : b = dx
  · subst hb; rw [upd_same, upd_same]
  · rw [upd_ne hb, upd_ne hb]
    by_cases hb2 : b = a
    · subst hb2; rw [del_same, ha]
    · rw [del_ne hb2, upd_ne hb2, upd_ne hb, upd_ne hb2]
/-- raise X(e) -/
@[simp] def sRaise (x f : Str) (a : FE) : FS := fun ρ g => (a ρ g).bd fun y g1 => some (.ex x [f] [y] g1)
theorem pfs_raise {x f : Str} {e : Expr} {a : FE} {p pos rpos : Pos} (hc : X.calm = true) (tk : Takes X (fun cls d _ H => E cls d H)) (G : ExcOk X.prog X.w X.K X.mg X.base x f) (hr : Room 2 X.A) (ha : PF X ah (fun _ => E) e a) (hg : Gl X x := by rfl) (hdb : (x == ("__debug__" : Str)) = false := by decide)
    (he : starEach (e :: []) X.env = (false, eval e X.env) :: starEach [] X.env := by rfl) (hpl : (backTo pos (starEach [] X.env)).any (·.1) = false := by rfl) : PFS X ah E (.Raise (some (.Call (.Name x p) [e] [] pos)) none rpos) (sRaise x f a) := by
  obtain ⟨C, fI, fd, ps, hm, T, _, _, iC, tI, F, hb, _⟩ := G
  obtain ⟨t, q, r⟩ := ha
  refine ⟨_, ps_raise hc tk (pmk_oex (p := p) (CX := CX0) T iC tI F hr hb .nil pass0 hg hm (pa_cons q pa_nil he) hdb he hpl), ⟨fun F ρ g σ H S Z e R G => ?_⟩⟩
  refine (show t σ H fun x H1 => ([x] : List V).length ≤ 1000 ∧ ∀ a, H1 a = none → spExI C f (.ref a :: ([x] ++ [])) (upd H1 a (exo a C none))
    (fun v H2 => v = .non ∧ ∃ (d : Addr) (fs : List (Str × V)), H2 a = some (exo a C (some d)) ∧ H2 d = some (exd d fs) ∧ H1 d = none ∧ E (.ref C) (some d) (upd (del H2 a) d (.xd fs))) (fun _ _ _ => False) from ?_)
  refine r.stepS e R G fun H1 S1 g1 v d sm R1 hv G => ?_
  refine ⟨by simp, fun a na => ⟨a, v, rfl, upd_same, fun dx n ne => ⟨rfl, dx, [(f, v)], ?_, ?_, ?_, ?_⟩⟩⟩
  · exact upd_same
  · rw [upd_ne ne, upd_same]
  · rw [upd_ne ne] at n; exact n
  · rw [upd_ne ne] at n
    rw [del_eq na ne]
    refine G C (some dx) _ (upd S1 dx (.xd [(f, v)])) (by rw [e]; exact hm) (R1.tosame _ n) (R1.bare.up _ n) ⟨[(f, v)], upd_same, rfl, .cons ?_ .nil⟩
    rw [e]
    exact hv.mono (R1.tosame _ n)
/-- a def of the text that may raise -/
theorem fd_okX {P : Program} {w : World} {K : PySem.W.Frag} {mg : Str → Option Value} {base : Heap} {x qual : Str} {st : Stmt} {f : Addr} {fd : FuncData} {N ps : List Str} {k n : Nat} {b : FS} (F : Fun K x qual st f fd) (Sc : FnScope N ps (defScope st)) (hn : ps.length = n) (hN : n ≤ N.length)
    (hb : ∀ (cdv : Value) (A : Around) (outer : List Env) (s : Shared) (H : Hp) (E : XK) (ah : Option Addr), Room k (A.deeper (envOfC qual (defScope st) s.heap.objs.size f cdv)) → PFSs (cxOf (L2.CX P w) P w K mg base N qual (defScope st) f cdv A outer s H E) ah E (defBody st) b) :
    FnOk P w K mg base (L2.CX P w) (k + 1) f fd ps (spF K mg n fun ds g => fnOf N.length b ds g) := by
  refine F.okX Sc (fun vs H Q E h => ?_) (fun cdv A outer s H vs Q E hr h => ?_)
  · obtain ⟨ah, S, g, ds, hl, R, hv, G⟩ := h
    rw [hv.length, hl, hn]
  · obtain ⟨ah, S, g, ds, hl, R, hv, G⟩ := h
    obtain ⟨t, p, r⟩ := hb cdv A outer s H E ah hr
    refine ⟨t, p, r.run ⟨⟨K, mg, ah⟩, H, S⟩ _ g _ H S _ rfl (Rep.start R hv (by omega)) ?_⟩
    have G : Got Dn ⟨⟨K, mg, ah⟩, H, S⟩ [] [] S E Q (fnOf N.length b ds g) := G
    unfold fnOf at G
    cases h : b (ds.map .dt ++ List.replicate (N.length - ds.length) .un) g with
    | none => rw [h] at G; exact G
    | some o => cases o with
      | ok fl g1 => cases fl with
        | nx ρ => rw [h] at G; exact fun σ' H' S' sm R' => G .non H' S' sm R'.bare .non
        | rt d => rw [h] at G; exact fun v H' S' sm R' hd => G v H' S' sm R' hd
        | bk ρ => rw [h] at G; exact G.elim
        | ct ρ => rw [h] at G; exact G.elim
      | ex cc ks es g1 => rw [h] at G; exact G
theorem passes0 {X : Cx} : Passes (L2.CX X.prog X.w) X E0 := fun _ _ _ _ _ _ _ ⟨_, _, _, _, _, _, _, _, _, _, _, _, h⟩ => h.elim
/-- a call of a def that may raise, where it does not -/
theorem pf_callN {E : L2.St → XK} {x : Str} {k n : Nat} {Fn : List D → Gh → M D} {e : Expr} {es : List Expr} {a : FA} {p pos : Pos} (G : DefOk X.prog X.w X.K X.mg X.base (L2.CX X.prog X.w) x k n Fn) (hr : Room k X.A) (ha : PFA X ah E (e :: es) a) (hg : Gl X x := by rfl) (hdb : (x == ("__debug__" : Str)) = false := by decide)
    (he : starEach (e :: es) X.env = (false, eval e X.env) :: starEach es X.env := by rfl) (hpl : (backTo pos (starEach es X.env)).any (·.1) = false := by rfl) : PF X ah E (.Call (.Name x p) (e :: es) [] pos) (cFn n Fn a) := by
  obtain ⟨f, fd, ps, F, hm, hk, hb⟩ := G
  obtain ⟨t, q, s⟩ := ha
  exact ⟨_, pe_call F hr hg hm hk hb .nil passes0 q hdb he hpl, re_fn (c := dc X ah) s⟩

/-! ### things of the class Play -/
/-- what its __init__ promises: Fn tells the thing, or the error -/
def spMk (K : PySem.W.Frag) (mg : Str → Option Value) (C : Addr) (n : Nat) (Fn : List D → Gh → M D) : Sp := fun vs H Q E => ∃ ah S g a dx vs' ds, vs = .ref a :: vs' ∧ ds.length = n ∧ H a = some (.ins C dx []) ∧ S a = none ∧ Rep ⟨⟨K, mg, ah⟩, H, S⟩ [] g [] H S ∧ Dns ⟨K, mg, ah⟩ S vs' ds ∧ ah ≠ some a ∧
  match Fn ds g with
  | none => False
  | some (.ok d g') => ∀ H' S' fs, Same S S' → H' a = some (.ins C dx fs) → S' a = none → Rep ⟨⟨K, mg, ah⟩, (fun b => if b = a then none else H b), S⟩ [] g' [] H' S' → (∃ c ks es, d = .obj c ks es ∧ mg c = some (.ref C) ∧ fs.map (·.1) = ks ∧ Dns ⟨K, mg, ah⟩ S' (fs.map (·.2)) es) → Q .non H'
  | some (.ex c ks es g') => GotX ⟨⟨K, mg, ah⟩, (fun b => if b = a then none else H b), S⟩ S E c ks es g'
def MkOk (P : Program) (w : World) (K : PySem.W.Frag) (mg : Str → Option Value) (base : Heap) (x : Str) (k n : Nat) (Fn : List D → Gh → M D) : Prop :=
  ∃ C f fd ps, FnOk P w K mg base (L2.CX P w) k f fd ps (spMk K mg C n Fn) ∧ mg x = some (.ref C) ∧ Mk K C f ∧ Binds K fd ps []
theorem re_mk {E : L2.St → XK} {C : Addr} {n : Nat} {Fn : List D → Gh → M D} {t : TA} {a : FA} (ha : RA c E t a) : RE c E (tMake C (spMk c.K c.mg C n Fn) [] E0 t) (cFn n Fn a) := by
  refine RG.bind (r := fun σ vs H1 (Q : VK) => ∀ x dx, H1 x = none → H1 dx = none → dx ≠ x →
    spMk c.K c.mg C n Fn (.ref x :: (vs ++ [])) (upd (upd H1 dx (.own x)) x (.ins C dx [])) (fun v H2 => v = .non ∧ Q (.ref x) H2) E0) (k := fun ρ xs g1 => if xs.length = n then FD.noX (Fn xs g1) else none) ha fun F ρ g σ H S Q vs ds e R hx G => ?_
  intro x dx nx ndx ne
  by_cases hl : ds.length = n
  case neg => rw [if_neg hl] at G; exact G.elim
  rw [if_pos hl] at G
  subst e
  have R0 := R.sub_frame
  have sx : S x = none := R.sub.free nx
  have sdx : S dx = none := R.sub.free ndx
  have nxa := R.new_ah nx
  have ndxa := R.new_ah ndx
  -- the heap with the new thing
  have R1 : Rep ⟨F.c, H, S⟩ [] g [] (upd (upd H dx (.own x)) x (.ins C dx [])) S := by
    refine (R0.write1 sdx ndx ndxa).write1 sx ?_ nxa
    exact nx
  refine ⟨F.c.ah, S, g, x, dx, vs, ds, by rw [List.append_nil], hl, upd_same, sx, ?_, hx, nxa, ?_⟩
  · exact R1.sub_frame
  · have back : ∀ {g' H' S'}, Same S S' → Rep ⟨F.c, (fun b => if b = x then none else upd (upd H dx (.own x)) x (.ins C dx []) b), S⟩ [] g' [] H' S' → Rep ⟨F.c, H, S⟩ [] g' [] H' S' := fun {g' H' S'} sm B => by
      refine ⟨B.sub, B.hand, fun b o h1 h2 => B.keep b o ?_ h2, fun b h1 h2 => B.stay b ?_ h2, fun i e h => by simp at h, fun i j p xs ys h => by simp at h⟩
      · have n1 : b ≠ x := ne_of_none h1 nx
        have n2 : b ≠ dx := ne_of_none h1 ndx
        show (if b = x then none else upd (upd H dx (.own x)) x (.ins C dx []) b) = some o
        rw [if_neg n1, upd_ne n1, upd_ne n2]; exact h1
      · have n1 : b ≠ x := fun z => h1 (by rw [z]; exact nx)
        have n2 : b ≠ dx := fun z => h1 (by rw [z]; exact ndx)
        show (if b = x then none else upd (upd H dx (.own x)) x (.ins C dx []) b) ≠ none
        rw [if_neg n1, upd_ne n1, upd_ne n2]; exact h1
    cases h : Fn ds g with
    | none => rw [h] at G; exact G
    | some o => cases o with
      | ex cc ks es g1 => rw [h] at G; exact G.elim
      | ok d g1 =>
        rw [h] at G
        intro H' S' fs sm hx' hs' B ⟨cn, ks, es, ed, hm, hk, hv⟩
        subst ed
        have B' := back sm B
        refine ⟨rfl, ?_⟩
        -- from now on the thing stands
        have B2 : Rep ⟨F.c, H, S⟩ [] g1 [] H' (upd S' x (.ins C dx fs)) := by
          have sm' : Same S' (upd S' x (.ins C dx fs)) := Same.upd_new hs'
          refine ⟨fun b o e => ?_, ?_, B'.keep, fun b e h => ?_, fun i e h => by simp at h, fun i j p xs ys h => by simp at h⟩
          · by_cases hb : b = x
            · subst hb; rw [upd_same] at e; cases e; exact hx'
            · rw [upd_ne hb] at e; exact B'.sub _ _ e
          · have h := B'.hand
            unfold HandAt at h ⊢
            cases ea : F.c.ah with
            | none => trivial
            | some a =>
              simp only [ea] at h
              obtain ⟨k1, q, k2, k3⟩ := h
              have ne : a ≠ x := fun z => nxa (by rw [ea, z])
              exact ⟨by rw [upd_ne ne]; exact k1, q, k2, sm' _ _ k3⟩
          · have n1 : b ≠ x := fun z => e (by rw [z]; exact nx)
            rw [upd_ne n1]; exact B'.stay b e h
        refine G (.ref x) H' _ (sm.trans (Same.upd_new hs')) (R.back (sm.trans (Same.upd_new hs')) B2) ?_
        exact .obj hm upd_same hk (hv.mono (Same.upd_new hs'))
theorem pf_mk {E : L2.St → XK} {x : Str} {k n : Nat} {Fn : List D → Gh → M D} {e : Expr} {es : List Expr} {a : FA} {p pos : Pos} (G : MkOk X.prog X.w X.K X.mg X.base x k n Fn) (hr : Room (k + 1) X.A) (ha : PFA X ah E (e :: es) a) (hg : Gl X x := by rfl) (hdb : (x == ("__debug__" : Str)) = false := by decide)
    (he : starEach (e :: es) X.env = (false, eval e X.env) :: starEach es X.env := by rfl) (hpl : (backTo pos (starEach es X.env)).any (·.1) = false := by rfl) : PF X ah E (.Call (.Name x p) (e :: es) [] pos) (cFn n Fn a) := by
  obtain ⟨C, f, fd, ps, F, hm, M, hb⟩ := G
  obtain ⟨t, q, s⟩ := ha
  exact ⟨_, pe_make M F hr hg hm hb .nil passes0 q hdb he hpl, re_mk (c := dc X ah) s⟩
end
end FD
set_option Elab.async false
set_option linter.all false
set_option maxRecDepth 100000
set_option maxHeartbeats 2000000
namespace FD
open PySem L2 PyProof.Rows
/-! ### the drawing hand -/
def handV (q : Addr) (g : Gh) : List V := [.ref q, .int g.i, .int g.c, .int g.r, .int g.n]
theorem Rep.hand_at {F : Fx} {ρ g σ H S} (R : Rep F ρ g σ H S) {a : Addr} (e : F.c.ah = some a) : ∃ q, H a = some (.lst (handV q g)) ∧ S q = some (.lst (g.xs.map V.int)) ∧ S a = none := by
  have h := R.hand
  unfold HandAt at h
  rw [e] at h
  obtain ⟨h1, q, h2, h3⟩ := h
  exact ⟨q, h2, h3, h1⟩
def handD (k : Int) (g : Gh) : Option D :=
  if k = 0 then some (.lst (g.xs.map .int)) else if k = 1 then some (.int g.i) else if k = 2 then some (.int g.c) else if k = 3 then some (.int g.r) else if k = 4 then some (.int g.n) else none
@[simp] def cH (i : Nat) (k : Int) : FE := fun ρ g => match ρ[i]? with
  | some (.dt .hnd) => lift (handD k g) g
  | _ => none
section
variable {X : Cx} {ah : Option Addr} {c : DC}
theorem pf_h {E : L2.St → XK} (i : Nat) {k : Int} {x : Str} {p1 p2 pos : Pos} {j0} (hN : X.N[i]? = some x := by rfl) (hv : Vis X.env.scope x := by first | exact Or.inl rfl | exact Or.inr (Or.inl rfl) | exact Or.inr (Or.inr rfl)) (hd : (x == ("__debug__" : Str)) = false := by decide)
    (hcd : (x == ("__classdict__" : Str)) = false := by decide) (hs : PlainIx (.Constant (.int k) j0 p2) := by intro _ _; rfl) : PF X ah E (.Subscript (.Name x p1) (.Constant (.int k) j0 p2) pos) (cH i k) := by
  refine ⟨_, pe_ix ix_list (pe_var hN hv hd hcd) pe_int hs, ⟨fun F ρ g σ H S Q e R G => ?_⟩⟩
  simp only [cH] at G
  split at G
  case h_2 => exact G.elim
  rename_i hi
  obtain ⟨so, h1, v, rfl, hv⟩ := R.slots i _ hi
  cases hv with
  | hnd he =>
    rename_i a
    obtain ⟨q, hH, hS, hn⟩ := R.hand_at he
    unfold handD at G
    refine ⟨.ref a, h1, a, handV q g, k, ?_⟩
    by_cases k0 : k = 0
    · subst k0
      exact ⟨_, rfl, rfl, SqL.of hH, rfl, G.ret R (.lst hS (Dns.ints _))⟩
    rw [if_neg k0] at G
    by_cases k1 : k = 1
    · subst k1
      exact ⟨_, rfl, rfl, SqL.of hH, rfl, G.ret R (.int _)⟩
    rw [if_neg k1] at G
    by_cases k2 : k = 2
    · subst k2
      exact ⟨_, rfl, rfl, SqL.of hH, rfl, G.ret R (.int _)⟩
    rw [if_neg k2] at G
    by_cases k3 : k = 3
    · subst k3
      exact ⟨_, rfl, rfl, SqL.of hH, rfl, G.ret R (.int _)⟩
    rw [if_neg k3] at G
    by_cases k4 : k = 4
    · subst k4
      exact ⟨_, rfl, rfl, SqL.of hH, rfl, G.ret R (.int _)⟩
    rw [if_neg k4] at G
    exact G.elim
def handPut (k : Int) (v : Int) (g : Gh) : Option Gh :=
  if k = 1 then some { g with i := v } else if k = 2 then some { g with c := v } else if k = 3 then some { g with r := v } else if k = 4 then some { g with n := v } else none
theorem Rep.handWrite {F : Fx} {ρ g σ H S} (R : Rep F ρ g σ H S) {a q : Addr} {g' : Gh} (e : F.c.ah = some a) (hq : S q = some (.lst (g'.xs.map V.int))) : Rep F ρ g' σ (upd H a (.lst (handV q g'))) S := by
  obtain ⟨_, _, _, hn⟩ := R.hand_at e
  refine ⟨fun b o h => by rw [upd_ne (ne_of_none h hn)]; exact R.sub _ _ h, ?_, fun b o h1 h2 => ?_, R.stay, fun i en h => ?_, R.apart⟩
  · unfold HandAt
    rw [e]
    exact ⟨hn, q, upd_same, hq⟩
  · have ne : b ≠ a := fun z => h2 (by rw [e, z])
    rw [upd_ne ne]; exact R.keep b o h1 h2
  · obtain ⟨so, h1, h2⟩ := R.slots i en h
    refine ⟨so, h1, ?_⟩
    cases en with
    | un => trivial
    | dt d => exact h2
    | hold ks ys =>
      obtain ⟨p, us, c1, c2, c3, c4, c5, c6⟩ := h2
      have ne : p ≠ a := fun z => c4 (by rw [e, z])
      exact ⟨p, us, c1, c2, c3, c4, by rw [upd_ne ne]; exact c5, c6⟩
@[simp] def sH (i : Nat) (k : Int) (a : FE) : FS := fun ρ g => match ρ[i]? with
  | some (.dt .hnd) => (a ρ g).bd fun y g1 => match y with
    | .int v => match handPut k v g1 with
      | some g2 => some (.ok (.nx ρ) g2)
      | none => none
    | _ => none
  | _ => none
theorem pfs_h {E : XK} (i : Nat) {k : Int} {x : Str} {e : Expr} {a : FE} {p1 p2 p3 pos : Pos} {j0} (ha : PF X ah (fun _ => E) e a) (hN : X.N[i]? = some x := by rfl) (hv : Vis X.env.scope x := by first | exact Or.inl rfl | exact Or.inr (Or.inl rfl) | exact Or.inr (Or.inr rfl)) (hd : (x == ("__debug__" : Str)) = false := by decide)
    (hcd : (x == ("__classdict__" : Str)) = false := by decide)
    (hsub : ∀ v, assign (.Subscript (.Name x p1) (.Constant (.int k) j0 p2) p3) X.env v = (do
      let ov ← holding [v] (eval (.Name x p1) X.env)
      let iv ← holding [v, ov] (eval (.Constant (.int k) j0 p2) X.env)
      standAt p3
      holding [v, ov, iv] (setItem ov iv v)
      release [v, ov, iv] []) := by intro _; rfl)
    (hs : swapsWithSole [.Subscript (.Name x p1) (.Constant (.int k) j0 p2) p3] e pos.line X.env = pure false := by rfl) (hw : swappedStores [.Subscript (.Name x p1) (.Constant (.int k) j0 p2) p3] e X.env = pure none := by rfl)
    (h1 : (assignEach [.Subscript (.Name x p1) (.Constant (.int k) j0 p2) p3] X.env).map (·.2) = [assign (.Subscript (.Name x p1) (.Constant (.int k) j0 p2) p3) X.env] := by rfl) :
    PFS X ah E (.Assign [.Subscript (.Name x p1) (.Constant (.int k) j0 p2) p3] e pos) (sH i k a) := by
  obtain ⟨t, q, r⟩ := ha
  refine ⟨_, ps_asg q (pg_sub (pe_var hN hv hd hcd) pe_int set_list hsub) hs hw h1, ⟨fun F ρ g σ H S Z e R G => ?_⟩⟩
  simp only [sH] at G
  split at G
  case h_2 => exact G.elim
  rename_i hi
  refine r.stepS e R G fun H1 S1 g1 y d sm R1 hy G => ?_
  split at G
  case h_2 => exact G.elim
  rename_i v
  cases hy.intE
  obtain ⟨so, h1, w, rfl, hw⟩ := R1.slots i _ hi
  cases hw with
  | hnd he =>
    rename_i a
    obtain ⟨q, hH, hS, hn⟩ := R1.hand_at he
    unfold handPut at G
    refine ⟨.ref a, h1, a, handV q g1, k, ?_⟩
    by_cases k1 : k = 1
    · subst k1
      exact ⟨1, rfl, rfl, hH, rfl, G _ _ S1 (Same.refl _) (R1.handWrite (g' := { g1 with i := v }) he hS)⟩
    rw [if_neg k1] at G
    by_cases k2 : k = 2
    · subst k2
      exact ⟨2, rfl, rfl, hH, rfl, G _ _ S1 (Same.refl _) (R1.handWrite (g' := { g1 with c := v }) he hS)⟩
    rw [if_neg k2] at G
    by_cases k3 : k = 3
    · subst k3
      exact ⟨3, rfl, rfl, hH, rfl, G _ _ S1 (Same.refl _) (R1.handWrite (g' := { g1 with r := v }) he hS)⟩
    rw [if_neg k3] at G
    by_cases k4 : k = 4
    · subst k4
      exact ⟨4, rfl, rfl, hH, rfl, G _ _ S1 (Same.refl _) (R1.handWrite (g' := { g1 with n := v }) he hS)⟩
    rw [if_neg k4] at G
    exact G.elim

/-! ### a list from a list of ints that is not tracked: _law_hand; and the law's first row -/
/-- what _law_hand promises -/
def spHand (K : PySem.W.Frag) : Sp := fun vs H Q _ => ∃ (a : Addr) (xs : List Int), vs = [.ref a] ∧ SqL K H a (xs.map V.int) ∧
  ∀ q, H q = none → ∀ p, upd H q (.lst (xs.map V.int)) p = none → Q (.ref p) (upd (upd H q (.lst (xs.map V.int))) p (.lst [.ref q, .int 0, .int 0, .int 1, .int 0]))
end
end FD
set_option Elab.async false
set_option linter.all false
set_option maxRecDepth 100000
set_option maxHeartbeats 4000000
namespace FD
open PySem L2 PyProof.Rows
section
variable {X : Cx} {ah : Option Addr} {E : L2.St → XK} {c : DC}
/-! ### a < b < c -/
@[simp] def cChain (o1 o2 : D → D → Option D) (a b cc : FE) : FE := fun ρ g => (a ρ g).bd fun x g1 => (b ρ g1).bd fun y g2 => match o1 x y with
  | some (.bl true) => (cc ρ g2).bd fun z g3 => lift (o2 y z) g3
  | some (.bl false) => some (.ok (.bl false) g2)
  | _ => none
/-- a rule whose answer is a flag and leaves all as it is -/
def FlagS (c : DC) (r : R2) (op : D → D → Option D) : Prop := ∀ S H x y dx dy, Same S H → Dn c S x dx → Dn c S y dy → ∀ d, op dx dy = some d → ∃ k, d = .bl k ∧ ∀ Q : VK, Q (.bl k) H → r x y H Q
theorem fs_int {p : Int → Int → Bool} : FlagS c (rI0 fun i j => .bl (p i j)) (intD fun i j => some (.bl (p i j))) := by
  intro S H x y dx dy sm hx hy d e
  cases hx with
  | int i =>
    cases hy with
    | int j =>
      simp only [intD] at e
      cases e
      exact ⟨p i j, rfl, fun Q q => ⟨i, j, rfl, rfl, q⟩⟩
    | _ => simp [intD] at e
  | _ => simp [intD] at e
theorem re_chain {r r' : R2} {o1 o2 : D → D → Option D} {ta tb tc : TE} {a b cc : FE} (h1 : FlagS c r o1) (h2 : OpS c r' o2) (ha : RE c E ta a) (hb : RE c E tb b) (hc : RE c E tc cc) : RE c E (tChain r r' ta tb tc) (cChain o1 o2 a b cc) := by
  refine RG.bind (r := fun σ x H1 (Q : VK) => tb σ H1 fun y H2 => r x y H2 fun z H3 => ∃ k, z = .bl k ∧ (if k = true then tc σ H3 fun w' H4 => r' y w' H4 Q else Q (.bl false) H3)) (k := fun ρ x g1 => (b ρ g1).bd fun y g2 => match o1 x y with
  | some (.bl true) => (cc ρ g2).bd fun z g3 => lift (o2 y z) g3
  | some (.bl false) => some (.ok (.bl false) g2)
  | _ => none) ha fun F ρ g σ H S Q x d e R hx G => ?_
  refine hb.step e R G fun H1 S1 g1 y dy sm R1 hy G => ?_
  split at G
  · rename_i e1
    obtain ⟨k, ek, hr⟩ := h1 S1 H1 x y d dy R1.sub (hx.mono sm) hy _ e1
    cases ek
    refine hr _ ⟨true, rfl, ?_⟩
    rw [if_pos rfl]
    refine hc.step e R1 G fun H2 S2 g2 z dz sm2 R2 hz G => ?_
    exact h2 (E σ) F ρ g2 σ H2 S2 Q y z dy dz e R2 (hy.mono sm2) hz G
  · rename_i e1
    obtain ⟨k, ek, hr⟩ := h1 S1 H1 x y d dy R1.sub (hx.mono sm) hy _ e1
    cases ek
    refine hr _ ⟨false, rfl, ?_⟩
    rw [if_neg (by simp)]
    exact G.ret R1 (.bl false)
  · exact G.elim
theorem pf_chain {op op' : CmpOp} {r r' : R2} {o1 o2 : D → D → Option D} {e1 e2 e3 : Expr} {a b cc : FE} {pos} (ho : OpR X (compareOp op) r) (ho' : OpR X (compareOp op') r') (h1 : FlagS (dc X ah) r o1) (h2 : OpS (dc X ah) r' o2) (ha : PF X ah E e1 a) (hb : PF X ah E e2 b) (hc : PF X ah E e3 cc)
    (hm : lastMarks [op, op'] [e2, e3] = false := by with_unfolding_all rfl) : PF X ah E (.Compare e1 [op, op'] [e2, e3] pos) (cChain o1 o2 a b cc) := by
  obtain ⟨t, p, r1⟩ := ha
  obtain ⟨u, q, r2⟩ := hb
  obtain ⟨v, q', r3⟩ := hc
  exact ⟨_, pe_chain ho ho' p q q' hm, re_chain h1 h2 r1 r2 r3⟩
theorem pft_chain {op op' : CmpOp} {r r' : R2} {o1 o2 : D → D → Option D} {e1 e2 e3 : Expr} {a b cc : FE} {pos} (ho : OpR X (compareOp op) r) (ho' : OpR X (compareOp op') r') (h1 : FlagS (dc X ah) r o1) (h2 : OpS (dc X ah) r' o2) (ha : PF X ah E e1 a) (hb : PF X ah E e2 b) (hc : PF X ah E e3 cc)
    (hm : lastMarks [op, op'] [e2, e3] = false := by with_unfolding_all rfl) : PFT X ah E (.Compare e1 [op, op'] [e2, e3] pos) (cT (cChain o1 o2 a b cc)) := by
  obtain ⟨t, p, r1⟩ := ha
  obtain ⟨u, q, r2⟩ := hb
  obtain ⟨v, q', r3⟩ := hc
  exact ⟨_, pt_chain ho ho' p q q' hm, rt_of (re_chain h1 h2 r1 r2 r3)⟩
/-! ### -a -/
def negD : D → Option D
  | .int i => some (.int (-i))
  | _ => none
theorem pf_neg {e : Expr} {a : FE} {pos} (ha : PF X ah E e a) : PF X ah E (.UnaryOp .USub e pos) (c1 negD a) := by
  obtain ⟨t, p, r⟩ := ha
  refine ⟨_, pe_un un_neg p, ?_⟩
  refine RG.bind (r := fun σ x H1 (Q : VK) => rU (fun i => .int (-i)) x H1 Q) (k := fun ρ x g1 => lift (negD x) g1) r fun F ρ g σ H S Q x d e R hx G => ?_
  cases hx <;> simp only [negD, lift] at G <;> first | exact G.elim | exact ⟨_, rfl, G.ret R (.int _)⟩
/-! ### a * b -/
abbrev rMulD (K : PySem.W.Frag) : R2 := R2.or (L2.rI CMul fun i j => .int (i * j)) (R2.or (rRepT K) rRep)
theorem op_mulD : OpR X (binaryOp .Mult) (rMulD X.K) := OpR.or op_mul (OpR.or op_repT op_rep)
theorem Dns.rep {S : Hp} {vs : List V} {ds : List D} (h : Dns c S vs ds) : ∀ n : Nat, Dns c S (List.replicate n vs).flatten (List.replicate n ds).flatten
  | 0 => .nil
  | n + 1 => by
    rw [List.replicate_succ, List.replicate_succ, List.flatten_cons, List.flatten_cons]
    exact h.append (Dns.rep h n)
theorem os_mul : OpS c (rMulD c.K) mulD := by
  intro E F ρ g σ H S Q x y dx dy e R hx hy G
  subst e
  cases hy with
  | int j =>
    cases hx with
    | int i =>
      simp only [mulD] at G
      by_cases h : small64 i ∨ small64 j
      · rw [if_pos h] at G
        exact .inl ⟨i, j, rfl, rfl, h, G.ret R (.int _)⟩
      · rw [if_neg h] at G; exact G.elim
    | tup h hs =>
      rename_i a vs ds
      simp only [mulD] at G
      by_cases hl : ds ≠ [] ∧ 2 ≤ j ∧ j ≤ 1000 ∧ ds.length ≤ 1000 ∧ ds.length * j.toNat ≤ 1000
      · rw [if_pos hl] at G
        refine .inr (.inl ⟨a, j, vs, rfl, rfl, Same.tup R.sub h, fun z => hl.1 ?_, hl.2.1, hl.2.2.1, by rw [hs.length]; exact hl.2.2.2.1, fun p hp => G.new R hp (.tup (SqT.of upd_same) ((hs.rep _).mono (R.tosame _ hp)))⟩)
        subst z; cases hs; rfl
      · rw [if_neg hl] at G; exact G.elim
    | lst h hs =>
      rename_i a vs ds
      simp only [mulD] at G
      by_cases hl : -(2 ^ 63) ≤ j ∧ j < 2 ^ 63 ∧ ds.length * j.toNat ≤ 1000
      · rw [if_pos hl] at G
        exact .inr (.inr ⟨a, j, vs, rfl, rfl, R.sub _ _ h, hl.1, hl.2.1, by rw [hs.length]; exact line_of hl.2.2, fun p hp => G.new R hp (.lst upd_same ((hs.rep _).mono (R.tosame _ hp)))⟩)
      · rw [if_neg hl] at G; exact G.elim
    | _ => simp only [mulD, lift] at G; exact G.elim
  | _ => cases dx <;> simp only [mulD, lift] at G <;> exact G.elim
/-! ### zip(a, b), both lists or both tuples -/
def zipD : List D → Option (List D)
  | [.lst xs, .lst ys] => some ((xs.zip ys).map fun p => .tup [p.1, p.2])
  | [.tup xs, .tup ys] => some ((xs.zip ys).map fun p => .tup [p.1, p.2])
  | _ => none
@[simp] def iZ (a : FA) : FI := fun ρ g => (a ρ g).bd fun xs g1 => lift (zipD xs) g1
theorem zip_at {xs ys : List D} {i : Nat} {d : D} (h : ((xs.zip ys).map fun p => D.tup [p.1, p.2])[i]? = some d) : ∃ x y, xs[i]? = some x ∧ ys[i]? = some y ∧ d = .tup [x, y] := by
  rw [List.getElem?_map, Option.map_eq_some_iff] at h
  obtain ⟨⟨x, y⟩, h1, rfl⟩ := h
  rw [List.getElem?_zip_eq_some] at h1
  exact ⟨x, y, h1.1, h1.2, rfl⟩
theorem zip_len {xs ys : List D} : ((xs.zip ys).map fun p => D.tup [p.1, p.2]).length = min xs.length ys.length := by simp
theorem pfi_zip {e e2 : Expr} {f : FA} {p pos tpos : Pos} {elts : List Expr} {kk : Nat} (hm : X.mg "zip" = none) (ha : PFA X ah E [e, e2] f) (hg : Gl X "zip" := by rfl)
    (hs : starEach [e, e2] X.env = (false, eval e X.env) :: starEach [e2] X.env := by rfl) (hpl : (backTo pos (starEach [e2] X.env)).any (·.1) = false := by rfl) : PFI X ah E (.Tuple elts kk tpos) (.Call (.Name "zip" p) [e, e2] [] pos) (iZ f) := by
  obtain ⟨t, q, r⟩ := ha
  refine ⟨_, RZ.pi_zipA hg hm q hs hpl, ?_⟩
  refine RG.bind (rel' := rI) (r := fun σ vs H1 (R : It → Hp → Prop) => ∃ a b xs ys, vs = [.ref a, .ref b] ∧ ((SqL X.K H1 a xs ∧ SqL X.K H1 b ys ∧ R (Itz X.K a b) H1) ∨ (SqT X.K H1 a xs ∧ SqT X.K H1 b ys ∧ R (RZ.ItzT X.K a b) H1))) (k := fun ρ xs g1 => lift (zipD xs) g1) r fun F ρ g σ H S Q x d e R hx G => ?_
  unfold zipD at G
  split at G
  · rename_i xs ys
    obtain ⟨v, w, rfl, hv, hw⟩ := hx.two
    cases hv with
    | lst h1 s1 =>
    cases hw with
    | lst h2 s2 =>
    rename_i a vs b ws
    refine ⟨a, b, vs, ws, rfl, .inl ⟨SqL.of (R.sub _ _ h1), SqL.of (R.sub _ _ h2), G.ret R ?_⟩⟩
    show WalkOf F.c _ _ _
    rw [e]
    refine ⟨fun F' ρ g σ H S1 e' sm R => ?_, fun F' ρ g σ H S1 i d e' sm R hd => ?_⟩
    · have a1 : SqL X.K H a vs := SqL.of (R.sub _ _ (sm _ _ h1))
      have a2 : SqL X.K H b ws := SqL.of (R.sub _ _ (sm _ _ h2))
      refine ⟨vs, ws, a1, a2, ?_⟩
      have := zip_len (xs := xs) (ys := ys)
      have l1 := s1.length
      have l2 := s2.length
      omega
    · obtain ⟨dx, dy, g1, g2, rfl⟩ := zip_at hd
      obtain ⟨vx, k1, n1⟩ := s1.get g1
      obtain ⟨vy, k2, n2⟩ := s2.get g2
      have a1 : SqL X.K H a vs := SqL.of (R.sub _ _ (sm _ _ h1))
      have a2 : SqL X.K H b ws := SqL.of (R.sub _ _ (sm _ _ h2))
      refine ⟨⟨vs, ws, vx, vy, a1, a2, k1, k2⟩, fun x H' y => ?_⟩
      obtain ⟨T, x', y', rfl, nT, rfl, f1, f2⟩ := y
      have := f1 vs a1
      rw [k1] at this; cases this
      have := f2 ws a2
      rw [k2] at this; cases this
      have st := R.tosame (.tup [vx, vy]) nT
      exact ⟨_, st, R.up _ nT, .tup (SqT.of upd_same) (.cons ((n1.mono sm).mono st) (.cons ((n2.mono sm).mono st) .nil))⟩
  · rename_i xs ys
    obtain ⟨v, w, rfl, hv, hw⟩ := hx.two
    cases hv with
    | tup h1 s1 =>
    cases hw with
    | tup h2 s2 =>
    rename_i a vs b ws
    refine ⟨a, b, vs, ws, rfl, .inr ⟨Same.tup R.sub h1, Same.tup R.sub h2, G.ret R ?_⟩⟩
    show WalkOf F.c _ _ _
    rw [e]
    refine ⟨fun F' ρ g σ H S1 e' sm R => ?_, fun F' ρ g σ H S1 i d e' sm R hd => ?_⟩
    · have a1 : SqT X.K H a vs := Same.tup R.sub (Same.tup sm h1)
      have a2 : SqT X.K H b ws := Same.tup R.sub (Same.tup sm h2)
      refine ⟨vs, ws, a1, a2, ?_⟩
      have := zip_len (xs := xs) (ys := ys)
      have l1 := s1.length
      have l2 := s2.length
      omega
    · obtain ⟨dx, dy, g1, g2, rfl⟩ := zip_at hd
      obtain ⟨vx, k1, n1⟩ := s1.get g1
      obtain ⟨vy, k2, n2⟩ := s2.get g2
      have a1 : SqT X.K H a vs := Same.tup R.sub (Same.tup sm h1)
      have a2 : SqT X.K H b ws := Same.tup R.sub (Same.tup sm h2)
      refine ⟨⟨vs, ws, vx, vy, a1, a2, k1, k2⟩, fun x H' y => ?_⟩
      obtain ⟨T, x', y', rfl, nT, rfl, f1, f2⟩ := y
      have := f1 vs a1
      rw [k1] at this; cases this
      have := f2 ws a2
      rw [k2] at this; cases this
      have st := R.tosame (.tup [vx, vy]) nT
      exact ⟨_, st, R.up _ nT, .tup (SqT.of upd_same) (.cons ((n1.mono sm).mono st) (.cons ((n2.mono sm).mono st) .nil))⟩
  · exact G.elim

/-! ### zip(a, b), a tuple and a list -/
/-- a tuple at a and a list at b side by side -/
def ItzM (K : PySem.W.Frag) (a b : Addr) : It where
  go i H := ∃ us ws p q, SqT K H a us ∧ SqL K H b ws ∧ us[i]? = some p ∧ ws[i]? = some q
  yld i H v H' := ∃ n p q, v = .ref n ∧ H n = none ∧ H' = upd H n (.tup [p, q]) ∧ (∀ us, SqT K H a us → us[i]? = some p) ∧ ∀ ws, SqL K H b ws → ws[i]? = some q
  stop i H := ∃ us ws, SqT K H a us ∧ SqL K H b ws ∧ i ≤ us.length ∧ i ≤ ws.length ∧ (i = us.length ∨ i = ws.length)
structure MixSep (a b z t o m n : Addr) : Prop where
  s : ZipSep2 z t o m n [m, a] [n, b]
  am : a ≠ m
  bn : b ≠ n
abbrev MixSt (a b z t o m n : Addr) (i : Nat) (h : Heap) : Prop := (IsZip h z t o .none ∧ IsTupOf2 h t (.ref m) (.ref n)) ∧ (∃ p q, IsTupOf2 h o p q) ∧ h.IsTupleIter m a i ∧ h.IsListIter n b i
theorem mix_obj {a b z t o m n : Addr} {i : Nat} {h : Heap} (st : MixSt a b z t o m n i h) : ∀ c ∈ [z, t, o, m, n], ∃ ob, h.get? c = some ob ∧ ∀ v, ob.data ≠ .cell v := by
  obtain ⟨⟨q1, q2⟩, ⟨_, _, q3⟩, ⟨om, q4, _, q5⟩, ⟨on, q6, _, q7⟩⟩ := st
  intro c hc
  simp only [List.mem_cons, List.not_mem_nil, or_false] at hc
  rcases hc with rfl | rfl | rfl | rfl | rfl
  · exact ⟨_, q1, fun v u => nomatch u⟩
  · exact ⟨_, q2, fun v u => nomatch u⟩
  · exact ⟨_, q3, fun v u => nomatch u⟩
  · exact ⟨om, q4, fun v u => nomatch (q5.symm.trans u)⟩
  · exact ⟨on, q6, fun v u => nomatch (q7.symm.trans u)⟩
theorem turn_zipM {P : Program} {w : World} {K : PySem.W.Frag} {es : List Expr} {ct : Nat} {tp : Pos} {a b z t o m n : Addr} (S : MixSep a b z t o m n) : Turn P w K (.Tuple es ct tp) (ItzM K a b) [z, t, o, m, n] z (MixSt a b z t o m n) where
  mem := by simp
  obj := fun i h st => mix_obj st
  keep := by
    rintro i h h' ⟨⟨q1, q2⟩, ⟨p, q, q3⟩, q4, q5⟩ k
    exact ⟨⟨k z (by simp) _ q1, k t (by simp) _ q2⟩, ⟨p, q, k o (by simp) _ q3⟩, q4.at fun ob e => k m (by simp) ob e, q5.at fun ob e => k n (by simp) ob e⟩
  item := by
    rintro X rfl rfl rfl hc i pins s σ H E I hf st ⟨us, ws, p, q, a1, a2, a3, a4⟩
    have lt : ∀ c ∈ [z, t, o, m, n], c < s.heap.objs.size := fun c hcm => by
      obtain ⟨ob, e, _⟩ := mix_obj st c hcm
      exact Heap.lt_size e
    obtain ⟨⟨q1, q2⟩, ⟨p0, q0, q3⟩, q4, q5⟩ := st
    obtain ⟨vs, r1, b1, _⟩ := I.tuple a1
    obtain ⟨xs, r2, b2, _⟩ := I.list a2
    obtain ⟨u, u1, u2⟩ := r1.get a3
    obtain ⟨x, x1, x2⟩ := r2.get a4
    have l1 : i < vs.toArray.size := by have := (List.getElem?_eq_some_iff.mp u1).1; simpa using this
    have l2 : i < xs.toArray.size := by have := (List.getElem?_eq_some_iff.mp x1).1; simpa using this
    have d1 := Draws.tuple (prog := X.prog) (w := X.w) (A := X.A.in1) (I.ok.hd hc) m a (fun e => S.am e) vs.toArray
    have d2 := Draws.list (prog := X.prog) (w := X.w) (A := X.A.in1) (I.ok.hd hc) n b (fun e => S.bn e) xs.toArray
    refine wpAny_pyNext_zipD2_item S.s d1 d2 q1 q2 q3 ⟨q4, b1⟩ ⟨q5, b2.isList⟩ l1 l2 fun y1 y2 h' tk e1 e2 z1 z3 g1 g2 z4 z5 hk => ⟨_, rfl, ?_⟩
    rw [show vs.toArray[i]? = some u by simpa using u1] at e1
    rw [show xs.toArray[i]? = some x by simpa using x1] at e2
    cases e1; cases e2
    refine wpAny_letOwnedTupleGo_zip (s := { s with heap := h', toks := tk }) z1 fun h2 k1 sb => ?_
    have up : ∀ c ob, c ≠ z → h'.get? c = some ob → h2.get? c = some ob := fun c ob ne e => (sb.2 c ne).trans e
    have nz : s.heap.objs.size ≠ z := Nat.ne_of_gt (lt z (by simp))
    have fresh := I.hok.fresh (Nat.le_refl s.heap.objs.size)
    have J : Inv X pins σ (upd H s.heap.objs.size (.tup [p, q])) { s with heap := h2, toks := tk } := by
      refine I.turnedNew (ch := [z, t, o, m, n]) (fun c ob hb e => ?_) hf (Nat.le_refl _) ⟨by show 2 ≤ sizeLine; decide, [u, x], .cons u2 (.cons x2 .nil), ⟨_, up _ _ nz z4, rfl, _, rfl⟩⟩
      simp only [List.mem_cons, List.not_mem_nil, or_false, not_or] at hb
      exact up c ob hb.1 (hk c ob hb.1 hb.2.2.1 hb.2.2.2.1 hb.2.2.2.2 e)
    refine ⟨.ref s.heap.objs.size, _, J, rfl, ⟨_, p, q, rfl, fresh, rfl, fun l hl => (I.tuple_inj hl a1).symm ▸ a3, fun l hl => (I.list_inj hl a2).symm ▸ a4⟩, ⟨⟨k1, up _ _ S.s.TIz (hk _ _ S.s.TIz S.s.TITO S.s.TIi1 S.s.TIi2 q2)⟩, ⟨u, x, up _ _ S.s.TOz z3⟩, g1.1.at fun ob e => up m ob (fun e => S.s.zi1 e.symm) e, g2.1.at fun ob e => up n ob (fun e => S.s.zi2 e.symm) e⟩, fun c hcm => ?_⟩
    rw [upd_ne (Nat.ne_of_lt (lt c hcm))]
    exact (hf c hcm).1
  done := by
    rintro X rfl rfl rfl hc i pins s σ H E I hf ⟨⟨q1, q2⟩, ⟨p0, q0, q3⟩, q4, q5⟩ ⟨us, ws, a1, a2, a3, a4, a5⟩
    obtain ⟨vs, r1, b1, _⟩ := I.tuple a1
    obtain ⟨xs, r2, b2, _⟩ := I.list a2
    have n1 := r1.length
    have n2 := r2.length
    have d1 := Draws.tuple (prog := X.prog) (w := X.w) (A := X.A.in1) (I.ok.hd hc) m a (fun e => S.am e) vs.toArray
    have d2 := Draws.list (prog := X.prog) (w := X.w) (A := X.A.in1) (I.ok.hd hc) n b (fun e => S.bn e) xs.toArray
    refine wpAny_pyNext_zipD2_end S.s d1 d2 q1 q2 q3 ⟨q4, b1⟩ ⟨q5, b2.isList⟩ (by simp; omega) (by simp; omega) (by simp; omega) fun h' tk hk => ⟨rfl, I.turnedL (ch := [z, t, o, m, n]) (fun c ob hb e => ?_) hf⟩
    simp only [List.mem_cons, List.not_mem_nil, or_false, not_or] at hb
    exact hk c ob hb.1 hb.2.2.1 hb.2.2.2.1 hb.2.2.2.2 e
  self := fun A i s Q E st h => wpAny_pyIter_zip st.1.1 h
def iZipM (K : PySem.W.Frag) (ta : TA) : TI := fun σ H R => ta σ H fun vs H1 => ∃ a b us ws, vs = [.ref a, .ref b] ∧ SqT K H1 a us ∧ SqL K H1 b ws ∧ R (ItzM K a b) H1
theorem pi_zipM {X : Cx} {e e2 : Expr} {ta : TA} {p pos tpos : Pos} {es : List Expr} {ct : Nat} (hg : Gl X "zip") (hm : X.mg "zip" = none) (ha : PA X [e, e2] ta)
    (hs : starEach [e, e2] X.env = (false, eval e X.env) :: starEach [e2] X.env := by rfl) (hpl : (backTo pos (starEach [e2] X.env)).any (·.1) = false := by rfl) : PI X (.Tuple es ct tpos) (.Call (.Name "zip" p) [e, e2] [] pos) (iZipM X.K ta) := by
  refine ⟨fun pins s σ H R I h => Call_ (ld_blt I hg hm PyProof.Rows.boot_zip (PyProof.Rows.callWith_type1 (thn (ha.run pos pins s σ H _ I h) fun us s1 ⟨vs, H1, I1, r1, q1⟩ => ?_) hs hpl))⟩
  obtain ⟨a, b, ys, ws, rfl, a1, a2, q⟩ := q1
  cases r1 with
  | cons r r' =>
  cases r' with
  | cons r' rr =>
  cases rr; cases r; cases r'
  obtain ⟨us, r1, b1, _⟩ := I1.tuple a1
  obtain ⟨xs, r2, b2, _⟩ := I1.list a2
  have la : a < s1.heap.objs.size := by obtain ⟨ob, e, _⟩ := id b1; exact Heap.lt_size e
  have lb : b < s1.heap.objs.size := b2.lt
  refine zip_begins2 (begins_tuple a us.toArray) (begins_list b xs.toArray) b1 b2.isList fun h' z1 z2 z3 z4 z5 z6 hk => wpAny_pyIter_zip z1 ?_
  have S : MixSep a b (s1.heap.objs.size + 4) (s1.heap.objs.size + 2) (s1.heap.objs.size + 3) s1.heap.objs.size (s1.heap.objs.size + 1) := ⟨zip_sep2 (by simpa using la) (by simpa using lb), Nat.ne_of_lt la, Nat.ne_of_lt (Nat.lt_succ_of_lt lb)⟩
  refine ⟨_, _, _, ItzM X.K a b, H1, rfl, I1.kept (t' := s1.toks) hk, turn_zipM S, ⟨⟨z1, z2⟩, ⟨_, _, z3⟩, ⟨_, z4, rfl, rfl⟩, ⟨_, z5, rfl, rfl⟩⟩, fun c hc => ?_, q⟩
  have le : s1.heap.objs.size ≤ c := by
    simp only [List.mem_cons, List.not_mem_nil, or_false] at hc
    rcases hc with rfl | rfl | rfl | rfl | rfl
    · exact Nat.le_add_right _ 4
    · exact Nat.le_add_right _ 2
    · exact Nat.le_add_right _ 3
    · exact Nat.le_refl _
    · exact Nat.le_add_right _ 1
  exact I1.fpOk le (I1.hok.fresh le)
def zipMD : List D → Option (List D)
  | [.tup xs, .lst ys] => some ((xs.zip ys).map fun p => .tup [p.1, p.2])
  | _ => none
@[simp] def iZM (a : FA) : FI := fun ρ g => (a ρ g).bd fun xs g1 => lift (zipMD xs) g1
theorem pfi_zipM {e e2 : Expr} {f : FA} {p pos tpos : Pos} {elts : List Expr} {kk : Nat} (hm : X.mg "zip" = none) (ha : PFA X ah E [e, e2] f) (hg : Gl X "zip" := by rfl)
    (hs : starEach [e, e2] X.env = (false, eval e X.env) :: starEach [e2] X.env := by rfl) (hpl : (backTo pos (starEach [e2] X.env)).any (·.1) = false := by rfl) : PFI X ah E (.Tuple elts kk tpos) (.Call (.Name "zip" p) [e, e2] [] pos) (iZM f) := by
  obtain ⟨t, q, r⟩ := ha
  refine ⟨_, pi_zipM hg hm q hs hpl, ?_⟩
  refine RG.bind (rel' := rI) (r := fun σ vs H1 (R : It → Hp → Prop) => ∃ a b xs ys, vs = [.ref a, .ref b] ∧ SqT X.K H1 a xs ∧ SqL X.K H1 b ys ∧ R (ItzM X.K a b) H1) (k := fun ρ xs g1 => lift (zipMD xs) g1) r fun F ρ g σ H S Q x d e R hx G => ?_
  unfold zipMD at G
  split at G
  · rename_i xs ys
    obtain ⟨v, w, rfl, hv, hw⟩ := hx.two
    cases hv with
    | tup h1 s1 =>
    cases hw with
    | lst h2 s2 =>
    rename_i a vs b ws
    refine ⟨a, b, vs, ws, rfl, Same.tup R.sub h1, SqL.of (R.sub _ _ h2), G.ret R ?_⟩
    show WalkOf F.c _ _ _
    rw [e]
    refine ⟨fun F' ρ g σ H S1 e' sm R => ?_, fun F' ρ g σ H S1 i d e' sm R hd => ?_⟩
    · have a1 : SqT X.K H a vs := Same.tup R.sub (Same.tup sm h1)
      have a2 : SqL X.K H b ws := SqL.of (R.sub _ _ (sm _ _ h2))
      have := zip_len (xs := xs) (ys := ys)
      have l1 := s1.length
      have l2 := s2.length
      exact ⟨vs, ws, a1, a2, by omega, by omega, by omega⟩
    · obtain ⟨dx, dy, g1, g2, rfl⟩ := zip_at hd
      obtain ⟨vx, k1, n1⟩ := s1.get g1
      obtain ⟨vy, k2, n2⟩ := s2.get g2
      have a1 : SqT X.K H a vs := Same.tup R.sub (Same.tup sm h1)
      have a2 : SqL X.K H b ws := SqL.of (R.sub _ _ (sm _ _ h2))
      refine ⟨⟨vs, ws, vx, vy, a1, a2, k1, k2⟩, fun x H' y => ?_⟩
      obtain ⟨T, x', y', rfl, nT, rfl, f1, f2⟩ := y
      have := f1 vs a1
      rw [k1] at this; cases this
      have := f2 ws a2
      rw [k2] at this; cases this
      have st := R.tosame (.tup [vx, vy]) nT
      exact ⟨_, st, R.up _ nT, .tup (SqT.of upd_same) (.cons ((n1.mono sm).mono st) (.cons ((n2.mono sm).mono st) .nil))⟩
  · exact G.elim
/-! ### len(set(t)), sorted(set(t)) of a tuple of ints -/
def intsOf : List D → Option (List Int)
  | [] => some []
  | .int i :: ds => (intsOf ds).map (i :: ·)
  | _ => none
theorem intsOf_ok {S : Hp} : ∀ {vs : List V} {ds : List D} {ns : List Int}, Dns c S vs ds → intsOf ds = some ns → vs = ns.map V.int
  | _, _, _, .nil, e => by simp [intsOf] at e; subst e; rfl
  | _, _, _, .cons h hs, e => by
    cases h <;> simp only [intsOf] at e <;> try cases e
    rw [Option.map_eq_some_iff] at e
    obtain ⟨bs, e1, rfl⟩ := e
    rw [intsOf_ok hs e1]; rfl
/-- how many unlike ones -/
def unlike (ns : List Int) : Nat := ns.eraseDups.length
theorem eraseDups_nodup (ns : List Int) : ns.eraseDups.Nodup := by
  induction h : ns.length using Nat.strongRecOn generalizing ns with
  | ind n ih =>
    cases ns with
    | nil => simp
    | cons a as =>
      rw [List.eraseDups_cons, List.nodup_cons]
      refine ⟨fun hm => ?_, ih _ (by rw [← h]; exact Nat.lt_succ_of_le (List.length_filter_le _ _)) _ rfl⟩
      rw [List.mem_eraseDups] at hm
      simp at hm
theorem unlike_of {ns out : List Int} (nd : out.Nodup) (h : ∀ k, k ∈ out ↔ k ∈ ns) : out.length = unlike ns :=
  (List.perm_ext_iff_of_nodup nd (eraseDups_nodup ns)).mpr (fun k => by rw [h k, List.mem_eraseDups]) |>.length_eq
def tLenSetT (K : PySem.W.Frag) (ta : TE) : TE := fun σ H Q => ta σ H fun x H1 => ∃ (l : Addr) (ns : List Int), x = .ref l ∧ SqT K H1 l (ns.map V.int) ∧ ns.length ≤ 1000 ∧ Q (.int (unlike ns : Nat)) H1
theorem pe_lenSetT {a : Expr} {ta : TE} {p p2 q pos : Pos} (hg : Gl X "len") (hm : X.mg "len" = none) (hg2 : Gl X "set") (hm2 : X.mg "set" = none) (ha : PE X a ta) (hc : X.calm = true)
    (na : starEach [a] X.env = (false, eval a X.env) :: starEach [] X.env) : PE X (.Call (.Name "len" p) [.Call (.Name "set" p2) [a] [] q] [] pos) (tLenSetT X.K ta) := by
  refine ⟨fun pins s σ H Q I h => ?_⟩
  refine Call_ (ld_blt I hg hm boot_len ?_)
  refine PyProof.Rows.callWith_builtin1 (PyProof.Rows.args_cons ?_ rfl) rfl rfl
  refine Call_ (ld_blt I hg2 hm2 boot_set ?_)
  refine PyProof.Rows.callWith_type1 (PyProof.Rows.args_cons (thn (ha.run pins s σ H _ I h) fun v s1 ⟨x, H1, I1, r1, q1⟩ => PyProof.Rows.args_nil ?_) na) na rfl
  obtain ⟨l, ns, rfl, hq, hl, q1⟩ := q1
  cases r1
  obtain ⟨its, r, pl, hz⟩ := I1.tuple hq
  have hi : IntsAre its.toArray.toList ns := RZ.intsAre_vals (by simpa using r)
  refine call_set_tupI ns (I1.ok.hd hc) (show s1.heap.IsTuple l its.toArray from pl) hi (by unfold scanBound; omega) fun h' tk c R1 hcn k => ?_
  refine PyProof.Rows.args_nil ?_
  obtain ⟨o, es, ep, t, ho, hex, hd, g, nd, hm3, hb, hf, hn, hr, hl2⟩ := R1
  have I2 : Inv X pins σ H1 { s1 with heap := h', toks := tk } := I1.kept fun b o e => k b o e
  have hu : es.size = unlike ns := by
    have := unlike_of (ns := ns) nd fun j => by rw [← hm3 j, decide_eq_true_eq]
    rw [← this, List.length_map, Array.length_toList]
  exact call_len_set ho hex hd hf (by rw [hn]; omega) ⟨.int (unlike ns : Nat), H1, I2.tok _, ⟨_, by rw [← hu]⟩, q1⟩
def tSortSetT (K : PySem.W.Frag) (ta : TE) : TE := fun σ H Q => ta σ H fun x H1 => ∃ (l : Addr) (ns : List Int), x = .ref l ∧ SqT K H1 l (ns.map V.int) ∧ ns.length ≤ 60 ∧
  ∀ out : List Int, out.Pairwise (· < ·) → (∀ k, k ∈ out ↔ k ∈ ns) → ∀ p, H1 p = none → Q (.ref p) (upd H1 p (.lst (out.map V.int)))
theorem pe_sortSetT {a : Expr} {ta : TE} {p p2 q pos : Pos} (hg : Gl X "sorted") (hm : X.mg "sorted" = none) (hg2 : Gl X "set") (hm2 : X.mg "set" = none) (ha : PE X a ta) (hc : X.calm = true)
    (na : starEach [a] X.env = (false, eval a X.env) :: starEach [] X.env) : PE X (.Call (.Name "sorted" p) [.Call (.Name "set" p2) [a] [] q] [] pos) (tSortSetT X.K ta) := by
  refine ⟨fun pins s σ H Q I h => ?_⟩
  refine Call_ (ld_blt I hg hm (by decide +kernel : bootBuiltins "sorted" = some (.builtin "sorted")) ?_)
  refine PyProof.Rows.callWith_builtin1 (PyProof.Rows.args_cons ?_ rfl) rfl rfl
  refine Call_ (ld_blt I hg2 hm2 boot_set ?_)
  refine PyProof.Rows.callWith_type1 (PyProof.Rows.args_cons (thn (ha.run pins s σ H _ I h) fun v s1 ⟨x, H1, I1, r1, q1⟩ => PyProof.Rows.args_nil ?_) na) na rfl
  obtain ⟨l, ns, rfl, hq, hl, q1⟩ := q1
  cases r1
  obtain ⟨its, r, pl, hz⟩ := I1.tuple hq
  have hi : IntsAre its.toArray.toList ns := RZ.intsAre_vals (by simpa using r)
  refine call_set_tupI ns (I1.ok.hd hc) (show s1.heap.IsTuple l its.toArray from pl) hi (by unfold scanBound; omega) fun h' tk c R1 hcn k => ?_
  refine PyProof.Rows.args_nil ?_
  have I2 : Inv X pins σ H1 { s1 with heap := h', toks := tk } := I1.kept fun b o e => k b o e
  obtain ⟨s2, hs2⟩ : ∃ s2 : Shared, s2 = { s1 with heap := h', toks := tk } := ⟨_, rfl⟩
  have R2 : SetR X.w s2.heap s1.heap.objs.size (fun j => decide (j ∈ ns)) c := by rw [hs2]; exact R1
  rw [← hs2] at I2 ⊢
  refine sorted_set (s := s2) R2 (I1.ok.hd hc) (by omega : c < 64) fun s' p out c' ms k' g o hp hg' hi' hs hm' hl' => ?_
  have hlen : (ms.map V.int).length ≤ sizeLine := by rw [List.length_map, hl', sizeLine_eq]; omega
  have hn : H1 p = none := I2.hok.fresh hp
  have J : Inv X pins σ (upd H1 p (.lst (ms.map V.int))) { s2 with heap := s'.heap, gens := s'.gens, drawn := s'.drawn, toks := s'.toks } :=
    I2.call (ch := []) (Un.laid k' hp hn) (I2.hok.laid k' hp ⟨hlen, out.toList, c', vals_of_ints hi', hg'⟩) (by rw [g]; exact I2.bare) (fun _ z => nomatch z)
  have e : s' = { s2 with heap := s'.heap, gens := s'.gens, drawn := s'.drawn, toks := s'.toks } := by
    cases s'
    cases s2
    cases o
    rfl
  rw [e]
  exact ⟨.ref p, _, J, rfl, q1 ms hs (fun j => by rw [hm' j, decide_eq_true_eq]) p hn⟩
def lenSetD : D → Option D
  | .tup ds => (intsOf ds).bind fun ns => if ns.length ≤ 1000 then some (.int (unlike ns : Nat)) else none
  | _ => none
theorem pf_lenSet {e : Expr} {a : FE} {p p2 q pos : Pos} (hm : X.mg "len" = none) (hm2 : X.mg "set" = none) (ha : PF X ah E e a) (hg : Gl X "len" := by rfl) (hg2 : Gl X "set" := by rfl) (hc : X.calm = true := by rfl)
    (na : starEach [e] X.env = (false, eval e X.env) :: starEach [] X.env := by rfl) : PF X ah E (.Call (.Name "len" p) [.Call (.Name "set" p2) [e] [] q] [] pos) (c1 lenSetD a) := by
  obtain ⟨t, u, r⟩ := ha
  refine ⟨_, pe_lenSetT hg hm hg2 hm2 u hc na, ?_⟩
  refine RG.bind (r := fun σ x H1 (Q : VK) => ∃ (l : Addr) (ns : List Int), x = .ref l ∧ SqT X.K H1 l (ns.map V.int) ∧ ns.length ≤ 1000 ∧ Q (.int (unlike ns : Nat)) H1) (k := fun ρ x g1 => lift (lenSetD x) g1) r fun F ρ g σ H S Q x d e R hx G => ?_
  cases hx with
  | tup h hs =>
    simp only [lenSetD] at G
    rename_i ds
    cases qi : intsOf ds with
    | none => rw [qi] at G; exact G.elim
    | some ns =>
      rw [qi] at G
      have hv := intsOf_ok hs qi
      subst hv
      simp only [Option.bind_some] at G
      by_cases hl : ns.length ≤ 1000
      · rw [if_pos hl] at G
        exact ⟨_, ns, rfl, Same.tup R.sub h, hl, G.ret R (.int _)⟩
      · rw [if_neg hl] at G; exact G.elim
  | _ => simp only [lenSetD, lift] at G; exact G.elim
/-- the unlike ones, ascending -/
def sortSet (ns : List Int) : List Int := ns.eraseDups.mergeSort (fun a b => decide (a ≤ b))
theorem sortSet_of {ns out : List Int} (hs : out.Pairwise (· < ·)) (h : ∀ k, k ∈ out ↔ k ∈ ns) : out = sortSet ns := by
  have hp : out.Perm (sortSet ns) := (List.perm_ext_iff_of_nodup (hs.imp fun {a b} h => (by omega : a ≠ b)) ((eraseDups_nodup ns).perm (List.mergeSort_perm _ _).symm)).mpr fun k => by
    rw [h k]
    exact ((List.mergeSort_perm _ _).mem_iff.trans List.mem_eraseDups).symm
  have h3 := List.pairwise_mergeSort (le := fun a b : Int => decide (a ≤ b)) (fun a b c h1 h2 => by simp at *; omega) (fun a b => by simp; omega) ns.eraseDups
  exact List.Perm.eq_of_pairwise (le := fun a b : Int => a ≤ b) (fun a b _ _ h1 h2 => by omega) (hs.imp fun {a b} h => by omega) (h3.imp fun {a b} h => by simpa using h) hp
def sortSetD : D → Option D
  | .tup ds => (intsOf ds).bind fun ns => if ns.length ≤ 60 then some (.lst ((sortSet ns).map .int)) else none
  | _ => none
theorem pf_sortSet {e : Expr} {a : FE} {p p2 q pos : Pos} (hm : X.mg "sorted" = none) (hm2 : X.mg "set" = none) (ha : PF X ah E e a) (hg : Gl X "sorted" := by rfl) (hg2 : Gl X "set" := by rfl) (hc : X.calm = true := by rfl)
    (na : starEach [e] X.env = (false, eval e X.env) :: starEach [] X.env := by rfl) : PF X ah E (.Call (.Name "sorted" p) [.Call (.Name "set" p2) [e] [] q] [] pos) (c1 sortSetD a) := by
  obtain ⟨t, u, r⟩ := ha
  refine ⟨_, pe_sortSetT hg hm hg2 hm2 u hc na, ?_⟩
  refine RG.bind (r := fun σ x H1 (Q : VK) => ∃ (l : Addr) (ns : List Int), x = .ref l ∧ SqT X.K H1 l (ns.map V.int) ∧ ns.length ≤ 60 ∧
  ∀ out : List Int, out.Pairwise (· < ·) → (∀ k, k ∈ out ↔ k ∈ ns) → ∀ p, H1 p = none → Q (.ref p) (upd H1 p (.lst (out.map V.int)))) (k := fun ρ x g1 => lift (sortSetD x) g1) r fun F ρ g σ H S Q x d e R hx G => ?_
  cases hx with
  | tup h hs =>
    simp only [sortSetD] at G
    rename_i ds
    cases qi : intsOf ds with
    | none => rw [qi] at G; exact G.elim
    | some ns =>
      rw [qi] at G
      have hv := intsOf_ok hs qi
      subst hv
      simp only [Option.bind_some] at G
      by_cases hl : ns.length ≤ 60
      · rw [if_pos hl] at G
        refine ⟨_, ns, rfl, Same.tup R.sub h, hl, fun out h1 h2 p hp => ?_⟩
        have := sortSet_of h1 h2
        subst this
        exact G.new R hp (.lst upd_same (Dns.ints _))
      · rw [if_neg hl] at G; exact G.elim
  | _ => simp only [sortSetD, lift] at G; exact G.elim
end
end FD
set_option Elab.async false
set_option linter.all false
set_option maxRecDepth 100000
set_option maxHeartbeats 4000000
namespace FD
open PySem L2 PyProof.Rows
/-! ### try: .. except X as n: return (c, n.f) -/
/-- a block whose error is wished for at the slots of its start -/
structure RSw (c : DC) (E : L2.St → XK) (t : TS) (f : FS) : Prop where
  run : ∀ (F : Fx) (ρ : List En) (g : Gh) (σ : L2.St) (H S : Hp) (Z : Ends), F.c = c → Rep F ρ g σ H S → GotS F S (E σ) Z (f ρ g) → t Z σ H
def PFw (X : Cx) (ah : Option Addr) (E : L2.St → XK) (s : Stmt) (f : FS) : Prop := ∃ t, PS X s t ∧ RSw (dc X ah) E t f
def PFws (X : Cx) (ah : Option Addr) (E : L2.St → XK) (s : List Stmt) (f : FS) : Prop := ∃ t, PSs X s t ∧ RSw (dc X ah) E t f
section
variable {X : Cx} {ah : Option Addr} {E : L2.St → XK} {c : DC}
theorem GotS.noE {F : Fx} {S : Hp} {E : XK} {Z : Ends} {m : M Fl} (G : GotS F S E Z (noX m)) : GotS F S E0 Z m := by
  cases m with
  | none => exact G
  | some o => cases o with
    | ok fl g => cases fl <;> exact G
    | ex _ _ _ _ => exact G.elim
theorem RG.stepW {β α : Type} {rel : Rl β α} {t : TX β} {fa : List En → Gh → M α} (ha : RG rel c E t fa) {F : Fx} {ρ : List En} {g : Gh} {σ : L2.St} {H S : Hp} {Z : Ends} {k : α → Gh → M Fl} {r : β → Hp → Prop}
    (e : F.c = c) (R : Rep F ρ g σ H S) (G : GotS F S (E σ) Z ((fa ρ g).bd k)) (hk : ∀ H1 S1 g1 b a, Same S S1 → Rep F ρ g1 σ H1 S1 → rel c S1 b a → GotS F S1 (E σ) Z (k a g1) → r b H1) : t σ H r := by
  refine ha.run F ρ g σ H S _ e R ?_
  cases h : fa ρ g with
  | none => simp only [M.bd, h] at G; exact G
  | some o => cases o with
    | ok a g1 =>
      simp only [M.bd, h] at G
      exact fun b H1 S1 sm R1 rl => hk H1 S1 g1 b a sm R1 (e ▸ rl) (G.mono sm)
    | ex cc ks ds g1 => simp only [M.bd, h] at G; exact G
theorem pfw_set (i : Nat) {x : Str} {e : Expr} {a : FE} {pos' pos : Pos} (hN : X.N.Nodup) (ha : PF X ah E e a) (hi : X.N[i]? = some x := by rfl) (hx : Loc X.env.scope x := by first | exact Or.inl rfl | exact Or.inr rfl) (hs : swapsWith e (some (.Name x pos')) pos.line X.env = pure false := by rfl)
    (hf : X.fn x = true ∨ X.env.scope.names.lookup x = some .local := by first | exact .inl rfl | exact .inr rfl) : PFw X ah E (.Assign [.Name x pos'] e pos) (sAsg a (gN i)) := by
  obtain ⟨t, p, r⟩ := ha
  refine ⟨_, ps_set hN hi hx p hs hf, ⟨fun F ρ g σ H S Z e R G => ?_⟩⟩
  exact r.stepW e R G fun H1 S1 g1 y d sm R1 hy G => G _ H1 S1 (Same.refl _) (R1.set i (e ▸ hy))
theorem pfw_ret {e : Expr} {a : FE} {pos : Pos} (ha : PF X ah E e a) : PFw X ah E (.Return (some e) pos) (sRet a) := by
  obtain ⟨t, p, r⟩ := ha
  refine ⟨_, ps_ret p, ⟨fun F ρ g σ H S Z e R G => ?_⟩⟩
  exact r.stepW e R G fun H1 S1 g1 y d sm R1 hy G => G y H1 S1 (Same.refl _) R1.bare (e ▸ hy)
theorem pfw_expr {e : Expr} {a : FE} {pos : Pos} (ha : PF X ah E e a) (hs : swapsWith e none pos.line X.env = pure false := by rfl) : PFw X ah E (.Expr e pos) (sDrop a) := by
  obtain ⟨t, p, r⟩ := ha
  refine ⟨_, ps_expr p hs, ⟨fun F ρ g σ H S Z e R G => ?_⟩⟩
  exact r.stepW e R G fun H1 S1 g1 y d sm R1 hy G => G σ H1 S1 (Same.refl _) R1
@[simp] def sNoX (b : FS) : FS := fun ρ g => noX (b ρ g)
theorem pfws_cons {s : Stmt} {rest : List Stmt} {a b : FS} (ha : PFw X ah E s a) (hb : PFSs X ah E0 rest b) : PFws X ah E (s :: rest) (sSeq a (sNoX b)) := by
  obtain ⟨t, p, r⟩ := ha
  obtain ⟨u, q, s⟩ := hb
  refine ⟨_, pss_cons p q, ⟨fun F ρ g σ H S Z e R G => r.run F ρ g σ H S _ e R ?_⟩⟩
  unfold sSeq at G
  cases h : a ρ g with
  | none => rw [h] at G; exact G
  | some o => cases o with
    | ok f g1 => cases f with
      | nx ρ1 => rw [h] at G; exact fun σ' H' S' sm R' => s.run F ρ1 g1 σ' H' S' Z e R' (GotS.mono (GotS.noE G) sm)
      | bk ρ1 => rw [h] at G; exact G
      | ct ρ1 => rw [h] at G; exact G
      | rt d => rw [h] at G; exact G
    | ex cc ks ds g1 => rw [h] at G; exact G
theorem pfws_one {s : Stmt} {a : FS} (ha : PFw X ah E s a) : PFws X ah E [s] a := by
  obtain ⟨t, p, r⟩ := ha
  exact ⟨_, pss_one p, r⟩
/-- a call of a def that may raise, wished for -/
theorem Got.frameW {F : Fx} {ρ g σ H S} {Q : VK} {E : XK} {m : M D} (R : Rep F ρ g σ H S) (G : Got Dn F ρ σ S E Q m) : Got Dn ⟨F.c, H, S⟩ [] [] S E Q m := Got.frame R G
@[simp] def cFnX (n : Nat) (Fn : List D → Gh → M D) (a : FA) : FE := fun ρ g => (a ρ g).bd fun xs g1 => if xs.length = n then Fn xs g1 else none
theorem pf_callX {W : WX} {x : Str} {k n : Nat} {Fn : List D → Gh → M D} {e : Expr} {es : List Expr} {a : FA} {p pos : Pos} (tk : Takes X W) (G : DefOk X.prog X.w X.K X.mg X.base (L2.CX X.prog X.w) x k n Fn) (hr : Room k X.A) (ha : PFA X ah (WE W) (e :: es) a) (hg : Gl X x := by rfl) (hdb : (x == ("__debug__" : Str)) = false := by decide)
    (he : starEach (e :: es) X.env = (false, eval e X.env) :: starEach es X.env := by rfl) (hpl : (backTo pos (starEach es X.env)).any (·.1) = false := by rfl) : PF X ah (WE W) (.Call (.Name x p) (e :: es) [] pos) (cFnX n Fn a) := by
  obtain ⟨f, fd, ps, F, hm, hk, hb⟩ := G
  obtain ⟨t, q, s⟩ := ha
  refine ⟨_, pe_callS F hr hg hm hk hb (fun σ => passAt tk σ) q hdb he hpl, ?_⟩
  refine RG.bind (r := fun σ vs H1 (Q : VK) => spF X.K X.mg n Fn vs H1 Q (WE W σ)) (k := fun ρ xs g1 => if xs.length = n then Fn xs g1 else none) s fun F ρ g σ H S Q vs ds e R hx G => ?_
  by_cases hl : ds.length = n
  case neg => rw [if_neg hl] at G; exact G.elim
  rw [if_pos hl] at G
  have eK : F.c = dc X ah := e
  refine ⟨ah, S, g, ds, hl, ?_, hx, ?_⟩
  · have := R.sub_frame; rw [eK] at this; exact this
  · have := Got.frame R G; rw [eK] at this; exact this
/-- making a thing by an __init__ that may raise, wished for -/
def tMakeS (C : Addr) (sp : Sp) (E : L2.St → XK) (t : TA) : TE := fun σ H Q => t σ H fun vs H1 => ∀ x dx, H1 x = none → H1 dx = none → dx ≠ x →
  sp (.ref x :: vs) (upd (upd H1 dx (.own x)) x (.ins C dx [])) (fun v H2 => v = .non ∧ Q (.ref x) H2) (E σ)
theorem pe_makeS {CX : CXT} {k : Nat} {f C : Addr} {fd : FuncData} {ps : List Str} {sp : Sp} {x : Str} {p pos : Pos} {e : Expr} {es : List Expr} {t : TA} (M : Mk X.K C f) (F : FnOk X.prog X.w X.K X.mg X.base CX k f fd ps sp) (hr : Room (k + 1) X.A) (hg : Gl X x) (hm : X.mg x = some (.ref C)) (hb : Binds X.K fd ps []) (hx : ∀ σ, PassesAt CX X σ (E σ))
    (ha : PA X (e :: es) t) (hdb : (x == ("__debug__" : Str)) = false := by decide) (he : starEach (e :: es) X.env = (false, eval e X.env) :: starEach es X.env := by rfl) (hpl : (backTo pos (starEach es X.env)).any (·.1) = false := by rfl) :
    PE X (.Call (.Name x p) (e :: es) [] pos) (tMakeS C sp E t) := by
  refine ⟨fun pins s σ H Q I h => ?_⟩
  refine wpAny_Call_Name_kw (ld_glob I hg hm ?_ hdb)
  refine PySem.W.callWith_K (h₀ := X.base) I.ok.mod.kin M.kp (thn (ha.run pos pins s σ H _ I h) fun us s1 ⟨vs, H1, I, r, h⟩ => ⟨I.kIn, ?_⟩) he hpl
  have hq := h (s1.heap.objs.size + 1) s1.heap.objs.size (I.hok.fresh (Nat.le_succ _)) (I.hok.fresh (Nat.le_refl _)) (Nat.ne_of_lt (Nat.lt_succ_self _))
  have I2 := Inv.made (C := C) I
  have r2 : Vals (V.ref (s1.heap.objs.size + 1) :: vs) (Value.ref (s1.heap.objs.size + 1) :: us) := .cons rfl r
  have hl : (Value.ref (s1.heap.objs.size + 1) :: us ++ []).length = ps.length := by
    have e := r2.length
    rw [F.len _ _ _ _ hq] at e
    simpa using e.symm
  have hbb := hb _ (Value.ref (s1.heap.objs.size + 1) :: us) I2.kIn hl
  rw [List.append_nil] at hbb
  refine wpAny_call (make_map (f := f) I.kIn M.makes M.init (beq_iff_eq.mp M.fn) (codeAny_mono (F.run _ X.stack _ _ ⟨Value.ref (s1.heap.objs.size + 1) :: us, []⟩ (Value.ref (s1.heap.objs.size + 1) :: us) _ _ (E σ) (hr.make C us [])
    (I2.env0.make C us []) hbb r2 hq) fun r s' hq' => ?_))
  cases r with
  | error e => exact hx σ pins _ _ e s' I2 hq'
  | ok fl =>
    cases fl with
    | ret u =>
      obtain ⟨v, H', I3, rv, ev, q3⟩ := I2.after hq'
      subst ev
      exact ⟨rv, ⟨V.ref (s1.heap.objs.size + 1), H', I3, rfl, q3⟩⟩
    | next => exact False.elim hq'
    | brk => exact False.elim hq'
    | cont => exact False.elim hq'
theorem re_mkW {C : Addr} {n : Nat} {Fn : List D → Gh → M D} {t : TA} {a : FA} (ha : RA c E t a) : RE c E (tMakeS C (spMk c.K c.mg C n Fn) E t) (cFnX n Fn a) := by
  refine RG.bind (r := fun σ vs H1 (Q : VK) => ∀ x dx, H1 x = none → H1 dx = none → dx ≠ x →
    spMk c.K c.mg C n Fn (.ref x :: vs) (upd (upd H1 dx (.own x)) x (.ins C dx [])) (fun v H2 => v = .non ∧ Q (.ref x) H2) (E σ)) (k := fun ρ xs g1 => if xs.length = n then Fn xs g1 else none) ha fun F ρ g σ H S Q vs ds e R hx G => ?_
  intro x dx nx ndx ne
  by_cases hl : ds.length = n
  case neg => rw [if_neg hl] at G; exact G.elim
  rw [if_pos hl] at G
  subst e
  have R0 := R.sub_frame
  have sx : S x = none := R.sub.free nx
  have sdx : S dx = none := R.sub.free ndx
  have nxa := R.new_ah nx
  have ndxa := R.new_ah ndx
  -- the heap with the new thing
  have R1 : Rep ⟨F.c, H, S⟩ [] g [] (upd (upd H dx (.own x)) x (.ins C dx [])) S := by
    refine (R0.write1 sdx ndx ndxa).write1 sx ?_ nxa
    exact nx
  refine ⟨F.c.ah, S, g, x, dx, vs, ds, rfl, hl, upd_same, sx, ?_, hx, nxa, ?_⟩
  · exact R1.sub_frame
  · have back : ∀ {g' H' S'}, Same S S' → Rep ⟨F.c, (fun b => if b = x then none else upd (upd H dx (.own x)) x (.ins C dx []) b), S⟩ [] g' [] H' S' → Rep ⟨F.c, H, S⟩ [] g' [] H' S' := fun {g' H' S'} sm B => by
      refine ⟨B.sub, B.hand, fun b o h1 h2 => B.keep b o ?_ h2, fun b h1 h2 => B.stay b ?_ h2, fun i e h => by simp at h, fun i j p xs ys h => by simp at h⟩
      · have n1 : b ≠ x := ne_of_none h1 nx
        have n2 : b ≠ dx := ne_of_none h1 ndx
        show (if b = x then none else upd (upd H dx (.own x)) x (.ins C dx []) b) = some o
        rw [if_neg n1, upd_ne n1, upd_ne n2]; exact h1
      · have n1 : b ≠ x := fun z => h1 (by rw [z]; exact nx)
        have n2 : b ≠ dx := fun z => h1 (by rw [z]; exact ndx)
        show (if b = x then none else upd (upd H dx (.own x)) x (.ins C dx []) b) ≠ none
        rw [if_neg n1, upd_ne n1, upd_ne n2]; exact h1
    cases h : Fn ds g with
    | none => rw [h] at G; exact G
    | some o => cases o with
      | ex cc ks es g1 => rw [h] at G; exact fun A dd H' S' m sm B z => G A dd H' S' m sm (R.bare.back sm (back sm B)) z
      | ok d g1 =>
        rw [h] at G
        intro H' S' fs sm hx' hs' B ⟨cn, ks, es, ed, hm, hk, hv⟩
        subst ed
        have B' := back sm B
        refine ⟨rfl, ?_⟩
        -- from now on the thing stands
        have B2 : Rep ⟨F.c, H, S⟩ [] g1 [] H' (upd S' x (.ins C dx fs)) := by
          have sm' : Same S' (upd S' x (.ins C dx fs)) := Same.upd_new hs'
          refine ⟨fun b o e => ?_, ?_, B'.keep, fun b e h => ?_, fun i e h => by simp at h, fun i j p xs ys h => by simp at h⟩
          · by_cases hb : b = x
            · subst hb; rw [upd_same] at e; cases e; exact hx'
            · rw [upd_ne hb] at e; exact B'.sub _ _ e
          · have h := B'.hand
            unfold HandAt at h ⊢
            cases ea : F.c.ah with
            | none => trivial
            | some a =>
              simp only [ea] at h
              obtain ⟨k1, q, k2, k3⟩ := h
              have ne : a ≠ x := fun z => nxa (by rw [ea, z])
              exact ⟨by rw [upd_ne ne]; exact k1, q, k2, sm' _ _ k3⟩
          · have n1 : b ≠ x := fun z => e (by rw [z]; exact nx)
            rw [upd_ne n1]; exact B'.stay b e h
        refine G (.ref x) H' _ (sm.trans (Same.upd_new hs')) (R.back (sm.trans (Same.upd_new hs')) B2) ?_
        exact .obj hm upd_same hk (hv.mono (Same.upd_new hs'))
theorem pf_mkX {W : WX} {x : Str} {k n : Nat} {Fn : List D → Gh → M D} {e : Expr} {es : List Expr} {a : FA} {p pos : Pos} (tk : Takes X W) (G : MkOk X.prog X.w X.K X.mg X.base x k n Fn) (hr : Room (k + 1) X.A) (ha : PFA X ah (WE W) (e :: es) a) (hg : Gl X x := by rfl) (hdb : (x == ("__debug__" : Str)) = false := by decide)
    (he : starEach (e :: es) X.env = (false, eval e X.env) :: starEach es X.env := by rfl) (hpl : (backTo pos (starEach es X.env)).any (·.1) = false := by rfl) : PF X ah (WE W) (.Call (.Name x p) (e :: es) [] pos) (cFnX n Fn a) := by
  obtain ⟨C, f, fd, ps, F, hm, M, hb⟩ := G
  obtain ⟨t, q, s⟩ := ha
  exact ⟨_, pe_makeS M F hr hg hm hb (fun σ => passAt tk σ) q hdb he hpl, re_mkW (c := dc X ah) s⟩

/-- the suite: return (c, n.f) -/
theorem choose_ws {W : WX} {body : List Stmt} {fb : FS} (h : ∀ (pn : List (Addr × Obj)) (xe : Value → Shared → Prop), Takes (X.tr pn xe) W → PassesOwn (model X.prog X.w) X.A X.env xe → PFws (X.tr pn xe) ah (WE W) body fb) :
    ∃ tb : TS, (∀ pn xe, Takes (X.tr pn xe) W → PassesOwn (model X.prog X.w) X.A X.env xe → PSs (X.tr pn xe) body tb) ∧ RSw (dc X ah) (WE W) tb fb := by
  refine ⟨fun Z σ H => ∀ pn xe (h1 : Takes (X.tr pn xe) W) (h2 : PassesOwn (model X.prog X.w) X.A X.env xe), (h pn xe h1 h2).choose Z σ H, fun pn xe h1 h2 => ⟨fun pins s σ H Z I hw => (h pn xe h1 h2).choose_spec.1.run pins s σ H Z I (hw pn xe h1 h2)⟩, ⟨fun F ρ g σ H S Z e R G pn xe h1 h2 => ?_⟩⟩
  exact (h pn xe h1 h2).choose_spec.2.run F ρ g σ H S Z e R G
@[simp] def sTry1 (fb : FS) (x f : Str) (i : Nat) (e0 : D) : FS := fun ρ g => match fb ρ g with
  | some (.ex c ks ds g1) => if c = x ∧ (ρ[i]?).isSome = true then match (ks.zip ds).lookup f with
    | some d => some (.ok (.rt (.tup [e0, d])) g1)
    | none => none
    else none
  | m => m
theorem pfs_try1 {E : XK} (i : Nat) {x n f : Str} {body : List Stmt} {fb : FS} {s0 : Str} {j0 : _} {np pn1 pa pt pr p0 pos pos' : Pos} {kk : Nat} (hN : X.N.Nodup) (G : ExcOk X.prog X.w X.K X.mg X.base x f)
    (hbody : ∀ (W : WX) (pn : List (Addr × Obj)) (xe : Value → Shared → Prop), Takes (X.tr pn xe) W → PassesOwn (model X.prog X.w) X.A X.env xe → PFws (X.tr pn xe) ah (WE W) body fb)
    (hs : X.stack = X.env :: X.outer := by rfl) (hf : X.env.frame = some X.env.locals := by rfl) (hi : X.N[i]? = some n := by rfl) (hln : X.env.kindOf n = some .local := by rfl) (hg : Gl X x := by rfl) (hdb : (x == ("__debug__" : Str)) = false := by decide)
    (hd : (n == ("__debug__" : Str)) = false := by decide) (hcd : (n == ("__classdict__" : Str)) = false := by decide) (hv : Vis X.env.scope n := by first | exact Or.inl rfl | exact Or.inr (Or.inl rfl) | exact Or.inr (Or.inr rfl))
    (hat : attributeBase (.Name n pn1) f X.env (eval (.Name n pn1) X.env) = eval (.Name n pn1) X.env := by rfl)
    (he1 : starEach [.Constant (.str s0) j0 p0, .Attribute (.Name n pn1) f pa] X.env = (false, eval (.Constant (.str s0) j0 p0) X.env) :: starEach [.Attribute (.Name n pn1) f pa] X.env := by rfl)
    (he2 : starEach [.Attribute (.Name n pn1) f pa] X.env = (false, eval (.Attribute (.Name n pn1) f pa) X.env) :: starEach [] X.env := by rfl) :
    PFS X ah E (.Try body [.ExceptHandler (some (.Name x np)) (some n) [.Return (some (.Tuple [.Constant (.str s0) j0 p0, .Attribute (.Name n pn1) f pa] kk pt)) pr] pos'] [] [] pos) (sTry1 fb x f i (.str s0)) := by
  obtain ⟨C, fI, fd, ps, hm, T, xf, hno, iC, tI, FI, hb, te⟩ := G
  have ch := fun W => choose_ws (X := X) (ah := ah) (W := W) (hbody W)
  refine ⟨_, ps_try_as (i := i) (c := .ref C) (tb := fun W => (ch W).choose) (ts := fun a cls d => tRet (tTup (tCons (tC (.str s0)) (tCons (tXf a cls d C f (tVar i)) tNil)))) (Wout := fun _ _ _ _ => False) hs hf hN hi hln ⟨hg, hdb, .inl hm⟩ takes0 (fun W pn xe tk hp => (ch W).choose_spec.1 pn xe tk hp)
    (fun a oe cls d pn hz hof => pss_one (ps_ret (pe_tup (pa_cons pe_str (pa_cons (pe_xf xf hno hz hof (pe_var hi hv hd hcd) hat) pa_nil he2) he1)))), ⟨fun F ρ g σ H S Z e R G => ?_⟩⟩
  refine (ch _).choose_spec.2.run F ρ g σ H S Z e R ?_
  simp only [sTry1] at G
  cases h : fb ρ g with
  | none => rw [h] at G; exact G
  | some o => cases o with
    | ok fl g1 => rw [h] at G; cases fl <;> exact G
    | ex cc ks ds g1 =>
      rw [h] at G
      dsimp only at G
      by_cases hc : cc = x ∧ (ρ[i]?).isSome = true
      case neg => rw [if_neg hc] at G; exact G.elim
      rw [if_pos hc] at G
      obtain ⟨rfl, hsome⟩ := hc
      cases q : (ks.zip ds).lookup f with
      | none => rw [q] at G; exact G.elim
      | some d =>
        rw [q] at G
        intro A dd H' S' hA sm R' hx
        have hA' : A = C := by
          rw [e] at hA
          have : some (Value.ref A) = some (Value.ref C) := hA.symm.trans hm
          injection this with this
          injection this
        subst hA'
        refine ⟨true, te, fun _ a na => ?_, fun z => by cases z⟩
        obtain ⟨fs, h1, h2, h3⟩ := hx
        have hne : fs ≠ [] := fun z => by
          subst z
          cases h3
          subst h2
          simp at q
        cases dd with
        | none => exact absurd h1 hne
        | some dx =>
          obtain ⟨v, k1, k2⟩ := lookup_Dn h2 h3 q
          have hi' : i < σ.length := by
            obtain ⟨en, hen⟩ := Option.isSome_iff_exists.mp hsome
            obtain ⟨so, k, _⟩ := R.slots i en hen
            exact (List.getElem?_eq_some_iff.mp k).1
          refine ⟨.ref a, by rw [List.getElem?_set_self hi'], rfl, rfl, dx, fs, v, rfl, R'.sub _ _ h1, k1, ?_⟩
          refine ⟨line_of (by simp), fun p hp => ?_⟩
          refine G (.ref p) _ (upd S' p (.tup [.str s0, v])) (sm.trans (R'.tosame _ hp)) (R'.up _ hp) ?_
          exact .tup (SqT.of upd_same) (.cons (.str s0) (.cons (k2.mono (R'.tosame _ hp)) .nil))
end
end FD
set_option Elab.async false
set_option linter.all false
set_option maxRecDepth 100000
set_option maxHeartbeats 4000000
namespace FD
open PySem L2 PyProof.Rows
section
variable {X : Cx} {ah : Option Addr} {E : L2.St → XK} {c : DC}
/-! ### is True, is False -/
theorem is_bool_gen {M : Model} {A : Around} {E : Value → Shared → Prop} {s : Shared} {Q : Value → Shared → Prop} {v : Value} {b : Bool} (hn : ∀ x, v ≠ .builtin x) (h : Q (.bool (v == .bool b)) s) : wpAny M A (compareOp .Is v (.bool b)) Q E s := by
  refine wpAny_is_plain ?_ h
  cases v <;> first | rfl | exact absurd rfl (hn _)
theorem isnot_bool_gen {M : Model} {A : Around} {E : Value → Shared → Prop} {s : Shared} {Q : Value → Shared → Prop} {v : Value} {b : Bool} (hn : ∀ x, v ≠ .builtin x) (h : Q (.bool (!(v == .bool b))) s) : wpAny M A (compareOp .IsNot v (.bool b)) Q E s := by
  refine wpAny_isNot_plain ?_ h
  cases v <;> first | rfl | exact absurd rfl (hn _)
theorem RelV.bool_iff {x : V} {v : Value} (r : RelV x v) (b : Bool) : (v == Value.bool b) = decide (x = .bl b) ∧ ∀ y, v ≠ .builtin y := by
  cases x with
  | non => cases r; exact ⟨rfl, fun y z => by cases z⟩
  | bl a => cases r; exact ⟨by cases a <;> cases b <;> rfl, fun y z => by cases z⟩
  | int _ => obtain ⟨t, rfl⟩ := r; exact ⟨rfl, fun y z => by cases z⟩
  | str _ => obtain ⟨t, rfl⟩ := r; exact ⟨rfl, fun y z => by cases z⟩
  | byt _ => obtain ⟨t, rfl⟩ := r; exact ⟨rfl, fun y z => by cases z⟩
  | flt _ => obtain ⟨t, rfl⟩ := r; exact ⟨rfl, fun y z => by cases z⟩
  | ref _ => cases r; exact ⟨rfl, fun y z => by cases z⟩
  | ty _ => cases r; exact ⟨rfl, fun y z => by cases z⟩
abbrev rIsBl : R2 := fun x y H Q => ∃ b, y = .bl b ∧ Q (.bl (decide (x = .bl b))) H
abbrev rNotBl : R2 := fun x y H Q => ∃ b, y = .bl b ∧ Q (.bl (!decide (x = .bl b))) H
theorem op_isBlA : OpR X (compareOp .Is) rIsBl := by
  intro pins s σ H x y v u Q I rx ry h
  obtain ⟨b, rfl, q⟩ := h
  cases ry
  obtain ⟨h1, h2⟩ := RelV.bool_iff rx b
  exact is_bool_gen h2 ⟨.bl _, H, I, by rw [h1]; rfl, q⟩
theorem op_notBlA : OpR X (compareOp .IsNot) rNotBl := by
  intro pins s σ H x y v u Q I rx ry h
  obtain ⟨b, rfl, q⟩ := h
  cases ry
  obtain ⟨h1, h2⟩ := RelV.bool_iff rx b
  exact isnot_bool_gen h2 ⟨.bl _, H, I, by rw [h1]; rfl, q⟩
def isBlB (b : Bool) : D → Bool
  | .bl k => k == b
  | _ => false
def isBlD : D → D → Option D
  | d, .bl b => some (.bl (isBlB b d))
  | _, _ => none
theorem Dn.bl_iff {S : Hp} {v : V} {d : D} (h : Dn c S v d) (b : Bool) : decide (v = .bl b) = isBlB b d := by
  cases h <;> simp [isBlB]
  rename_i k
  cases k <;> cases b <;> rfl
theorem os_isBl : OpS c rIsBl isBlD := by
  intro E F ρ g σ H S Q x y dx dy e R hx hy G
  cases hy <;> simp only [isBlD, lift] at G <;> first | exact G.elim | skip
  exact ⟨_, rfl, by rw [hx.bl_iff]; exact G.ret R (.bl _)⟩

/-! ### constants of the module -/
def ConstOk (K : PySem.W.Frag) (mg : Str → Option Value) (x : Str) (d : D) : Prop := ∃ v u, mg x = some u ∧ RelV v u ∧ ∀ ah S, Dn ⟨K, mg, ah⟩ S v d
theorem pf_const {x : Str} {d : D} {pos : Pos} (h : ConstOk X.K X.mg x d) (hg : Gl X x := by rfl) (hd : (x == ("__debug__" : Str)) = false := by decide) : PF X ah E (.Name x pos) (cD d) := by
  obtain ⟨v, u, h1, h2, h3⟩ := h
  exact ⟨_, pe_glob hg h1 h2 hd, re_c fun S => h3 ah S⟩
def strsV (zs : List Str) : List V := zs.map .str
def strsD (zs : List Str) : List D := zs.map .str
theorem Dns.strs {c : DC} {S : Hp} : ∀ zs : List Str, Dns c S (strsV zs) (strsD zs)
  | [] => .nil
  | z :: zs => .cons (.str z) (Dns.strs zs)

/-! ### == of things of the class Play, by its own __eq__ -/
/-- type(a) is type(b) -/
def tyEqD : D → D → Option D
  | .obj c _ _, .obj c' _ _ => if c = "Play" ∧ c' = "Play" then some (.bl true) else none
  | .obj c _ _, .tup _ => if c = "Play" then some (.bl false) else none
  | _, _ => none
/-- what type(x) gives -/
def rType (K : PySem.W.Frag) : List V → Hp → VK → Prop := fun xs H Q => (∃ a C dx fs, xs = [V.ref a] ∧ H a = some (.ins C dx fs) ∧ Q (.ref C) H) ∨ (∃ a vs, xs = [V.ref a] ∧ SqT K H a vs ∧ Q (.ty "tuple") H)
theorem call_typeD : CallR X (.type "type") (rType X.K) := by
  intro pins s σ H xs us Q I r h
  rcases h with h | ⟨a, vs, rfl, ht, q⟩
  · exact cr_type pins s σ H xs us Q I r h
  · obtain ⟨u, rfl, rx⟩ := vals1 r
    cases rx
    obtain ⟨its, rv, p, _⟩ := I.tuple ht
    exact call_type_of p.typeIs (by decide +kernel) ⟨.ty "tuple", H, I, rfl, q⟩
abbrev rIsTy (K : PySem.W.Frag) : R2 := fun x y H Q => (∃ a b, x = V.ref a ∧ y = V.ref b ∧ (a = b ∨ (PySem.W.makesIn K a = true ∧ PySem.W.makesIn K b = true)) ∧ Q (.bl (decide (a = b))) H) ∨ (∃ a n, x = V.ref a ∧ y = .ty n ∧ Q (.bl false) H)
theorem op_isTyD : OpR X (compareOp .Is) (rIsTy X.K) := by
  intro pins s σ H x y v u Q I rx ry h
  rcases h with h | ⟨a, n, rfl, rfl, q⟩
  · exact op_is_cls pins s σ H x y v u Q I rx ry h
  · cases rx; cases ry
    exact wpAny_is_plain rfl ⟨.bl false, H, I, rfl, q⟩
def isPlay : D → Bool
  | .obj c _ _ => c == "Play"
  | _ => false
@[simp] def cTyEq (a b : FE) : FE := fun ρ g => (a ρ g).bd fun x g1 => if isPlay x = true then (b ρ g1).bd fun y g2 => lift (tyEqD x y) g2 else none
theorem pf_tyEq {e1 e2 : Expr} {a b : FE} {p1 p2 q1 q2 pos : Pos} (hm : X.mg "type" = none) (ha : PF X ah E e1 a) (hb : PF X ah E e2 b) (hg : Gl X "type" := by rfl)
    (h1 : starEach [e1] X.env = (false, eval e1 X.env) :: starEach [] X.env := by rfl) (h2 : starEach [e2] X.env = (false, eval e2 X.env) :: starEach [] X.env := by rfl)
    (k1 : (backTo q1 (starEach [] X.env)).any (·.1) = false := by rfl) (k2 : (backTo q2 (starEach [] X.env)).any (·.1) = false := by rfl) :
    PF X ah E (.Compare (.Call (.Name "type" p1) [e1] [] q1) [.Is] [.Call (.Name "type" p2) [e2] [] q2] pos) (cTyEq a b) := by
  obtain ⟨t, p, r1⟩ := ha
  obtain ⟨u, q, r2⟩ := hb
  refine ⟨_, pe_cmpR op_isTyD (pe_callTy call_typeD hg hm (by decide +kernel) (pa_cons p pa_nil h1) (by decide) (by decide) h1 k1) (pe_callTy call_typeD hg hm (by decide +kernel) (pa_cons q pa_nil h2) (by decide) (by decide) h2 k2) (nomark _), ?_⟩
  refine RG.bind (r := fun σ x H1 (Q : VK) => rType X.K [x] H1 fun tx H2 => u σ H2 fun y H3 => rType X.K [y] H3 fun ty H4 => rIsTy X.K tx ty H4 Q) (k := fun ρ x g1 => if isPlay x = true then (b ρ g1).bd fun y g2 => lift (tyEqD x y) g2 else none) r1 fun F ρ g σ H S Q x d e R hx G => ?_
  by_cases hp : isPlay d = true
  case neg => rw [if_neg hp] at G; exact G.elim
  rw [if_pos hp] at G
  cases hx with
  | obj m h k hs =>
    rename_i cn fs ks ds
    have hc : cn = "Play" := by simpa [isPlay] using hp
    subst hc
    refine .inl ⟨_, _, _, _, rfl, R.sub _ _ h, ?_⟩
    refine r2.step e R G fun H1 S1 g1 y dy sm R1 hy G => ?_
    cases hy with
    | obj m' h' k' hs' =>
      rename_i cn' fs' ks' ds'
      dsimp only [tyEqD] at G
      by_cases hc' : cn' = "Play"
      · subst hc'
        rw [if_pos ⟨rfl, rfl⟩] at G
        have : some (Value.ref _) = some (Value.ref _) := m.symm.trans m'
        injection this with this
        injection this with this
        subst this
        exact .inl ⟨_, _, _, _, rfl, R1.sub _ _ h', .inl ⟨_, _, rfl, rfl, .inl rfl, by rw [decide_eq_true rfl]; exact G.ret R1 (.bl true)⟩⟩
      · rw [if_neg (fun z => hc' z.2)] at G; exact G.elim
    | tup h' hs' =>
      dsimp only [tyEqD] at G
      rw [if_pos rfl] at G
      exact .inr ⟨_, _, rfl, Same.tup R1.sub h', .inr ⟨_, _, rfl, rfl, G.ret R1 (.bl false)⟩⟩
    | _ => simp only [tyEqD, lift] at G; exact G.elim
  | _ => simp [isPlay] at hp
/-- a == b, a of the class Play -/
def EqOk (P : Program) (w : World) (K : PySem.W.Frag) (mg : Str → Option Value) (base : Heap) (k : Nat) (Fn : List D → Gh → M D) : Prop :=
  ∃ C f fd ps, mg "Play" = some (.ref C) ∧ FnOk P w K mg base CX0 k f fd ps (spF K mg 2 Fn) ∧ Binds K fd ps [] ∧ PySem.W.findIn K (.ref C) "__eq__" = some (some (.ref f)) ∧ PySem.W.isFn K (.ref f) = true ∧ PySem.W.subIn K (.type "tuple") (.ref C) = some false
def rEqP (K : PySem.W.Frag) (mg : Str → Option Value) (Fn : List D → Gh → M D) : R2 := fun x y H Q => ∃ a C dx fs b, x = .ref a ∧ mg "Play" = some (.ref C) ∧ H a = some (.ins C dx fs) ∧ y = .ref b ∧ ((∃ dy gs, H b = some (.ins C dy gs)) ∨ ∃ vs, SqT K H b vs) ∧
  spF K mg 2 Fn [x, y] H (fun v H' => ∃ k, v = .bl k ∧ Q (.bl k) H') E0
theorem op_eqP {k : Nat} {Fn : List D → Gh → M D} (hr : Room k X.A) (G : EqOk X.prog X.w X.K X.mg X.base k Fn) : OpR X (compareOp .Eq) (rEqP X.K X.mg Fn) := by
  intro pins s σ H x y v u Q I rx ry h
  obtain ⟨C, f, fd, ps, hmP, F, hb, hs, hf, hsub⟩ := G
  obtain ⟨a, C', dx, fs, b, rfl, hm', ha, rfl, hy, hsp⟩ := h
  have : C' = C := by
    have : some (Value.ref C') = some (Value.ref C) := hm'.symm.trans hmP
    injection this with this
    injection this
  subst this
  cases rx
  cases ry
  show wpAny (model X.prog X.w) X.A (richCompare .Eq (.ref a) (.ref b)) (EP X pins σ Q) X.xe s
  obtain ⟨mA, J, _⟩ := ins_get I.hok ha
  obtain ⟨od, J, _⟩ := J.look
  obtain ⟨m, hF⟩ := I.fr
  have main : ∀ tb, PySem.W.Looks (model X.prog X.w) s.heap (typeOf (.ref b)) tb → PySem.W.notFirst X.K C' tb = true → wpAny (model X.prog X.w) X.A (richCompare .Eq (.ref a) (.ref b)) (EP X pins σ Q) X.xe s := fun tb htb hn => by
    refine PySem.W.cmp_K (op := .Eq) (tb := tb) hr.units0 hF I.ok.mod.kin J htb hn hs hf ?_
    have hl := F.len _ _ _ _ hsp
    have r2 : Vals [V.ref a, V.ref b] [Value.ref a, Value.ref b] := .cons rfl (.cons rfl .nil)
    refine wpAny_call (codeAny_mono (F.run X.A X.stack s H ⟨[.ref a, .ref b], []⟩ [.ref a, .ref b] [.ref a, .ref b] _ E0 hr I.env0 (by
      have := hb s [.ref a, .ref b] I.kIn (by simpa using hl)
      simpa using this) r2 hsp) fun r s' hq => ?_)
    cases r with
    | error e => exact False.elim hq
    | ok fl =>
      cases fl with
      | ret w =>
        obtain ⟨z, H', I', rz, k, ez, q⟩ := I.after hq
        subst ez
        cases rz
        exact ⟨.bl k, H', I', rfl, q⟩
      | next => exact False.elim hq
      | brk => exact False.elim hq
      | cont => exact False.elim hq
  rcases hy with ⟨dy, gs, hb'⟩ | ⟨vs, ht⟩
  · obtain ⟨mB, J', _⟩ := ins_get I.hok hb'
    obtain ⟨od', J', _⟩ := J'.look
    exact main (.ref C') J'.type (by simp [PySem.W.notFirst])
  · obtain ⟨its, rv, p, _⟩ := I.tuple ht
    obtain ⟨o, ho, hc, _⟩ := p
    exact main (.type "tuple") (fun A Q E s' kk q => wpAny_typeOf ⟨o, kk _ _ ho, hc⟩ q) (by simp [PySem.W.notFirst, hsub])
@[simp] def cEqP (Fn : List D → Gh → M D) (a b : FE) : FE := fun ρ g => (a ρ g).bd fun x g1 => (b ρ g1).bd fun y g2 => if isPlay x = true ∧ (isPlay y || isTyB "tuple" y) = true then match noX (Fn [x, y] g2) with
  | some (.ok (.bl k) g3) => some (.ok (.bl k) g3)
  | _ => none
  else none
theorem re_eqP {Fn : List D → Gh → M D} {ta tb : TE} {a b : FE} (ha : RE c E ta a) (hb : RE c E tb b) : RE c E (tOp (rEqP c.K c.mg Fn) ta tb) (cEqP Fn a b) := by
  refine RG.bind (r := fun σ x H1 (Q : VK) => tb σ H1 fun y H2 => rEqP c.K c.mg Fn x y H2 Q) (k := fun ρ x g1 => (b ρ g1).bd fun y g2 => if isPlay x = true ∧ (isPlay y || isTyB "tuple" y) = true then match FD.noX (Fn [x, y] g2) with
  | some (.ok (.bl k) g3) => some (.ok (D.bl k) g3)
  | _ => none
  else none) ha fun F ρ g σ H S Q x dx e R hx G => ?_
  refine hb.step e R G fun H1 S1 g1 y dy sm R1 hy G2 => ?_
  clear G
  have hx := hx.mono sm
  by_cases hp : isPlay dx = true ∧ (isPlay dy || isTyB "tuple" dy) = true
  case neg => rw [if_neg hp] at G2; exact G2.elim
  rw [if_pos hp] at G2
  obtain ⟨hp, hpy⟩ := hp
  cases h : Fn [dx, dy] g1 with
  | none => rw [h] at G2; exact G2.elim
  | some o => cases o with
    | ex _ _ _ _ => rw [h] at G2; exact G2.elim
    | ok d g3 =>
      rw [h] at G2
      simp only [FD.noX] at G2
      cases d <;> try exact G2.elim
      rename_i k
      cases hx with
      | obj m hh kk hs =>
        rename_i cn fs ks ds
        have hc : cn = "Play" := by simpa [isPlay] using hp
        subst hc
        have hxx : Dn c S1 (.ref _) (.obj "Play" ks ds) := .obj m hh kk hs
        subst e
        rename_i a0 C0 dx0
        have fin : ∀ b, y = .ref b → ((∃ dy gs, H1 b = some (.ins C0 dy gs)) ∨ ∃ vs, SqT F.c.K H1 b vs) → rEqP F.c.K F.c.mg Fn (.ref a0) y H1 Q := fun b hyb hkind => by
          refine ⟨_, _, _, _, b, rfl, m, R1.sub _ _ hh, hyb, hkind, F.c.ah, S1, g1, [.obj "Play" ks ds, dy], rfl, R1.sub_frame, .cons hxx (.cons hy .nil), ?_⟩
          refine Got.frame (ρ := ρ) (σ := σ) R1 ?_
          rw [h]
          exact fun v H' S' sm R' hv => ⟨k, hv.blE, G2 (.bl k) H' S' sm R' (.bl k)⟩
        cases hy with
        | obj m' h' k' hs' => 
          rename_i cn' fs' ks' ds'
          have hc' : cn' = "Play" := by simpa [isPlay, isTyB] using hpy
          subst hc'
          have e2 := m.symm.trans m'
          injection e2 with e2
          injection e2 with e2
          subst e2
          exact fin _ rfl (.inl ⟨_, _, R1.sub _ _ h'⟩)
        | tup h' hs' => exact fin _ rfl (.inr ⟨_, Same.tup R1.sub h'⟩)
        | _ => simp [isPlay, isTyB] at hpy
      | _ => simp [isPlay] at hp
theorem pf_eqP {k : Nat} {Fn : List D → Gh → M D} {e1 e2 : Expr} {a b : FE} {pos} (hr : Room k X.A) (G : EqOk X.prog X.w X.K X.mg X.base k Fn) (ha : PF X ah E e1 a) (hb : PF X ah E e2 b) : PF X ah E (.Compare e1 [.Eq] [e2] pos) (cEqP Fn a b) := by
  obtain ⟨t, p, r1⟩ := ha
  obtain ⟨u, q, r2⟩ := hb
  exact ⟨_, pe_cmpR (op_eqP hr G) p q (nomark _), re_eqP (c := dc X ah) r1 r2⟩
end
end FD
set_option Elab.async false
set_option linter.all false
set_option maxRecDepth 100000
set_option maxHeartbeats 4000000
namespace FD
open PySem L2 PyProof.Rows
theorem hu64 {k : Nat} {A : Around} (hr : Room k A) : A.units + 64 < cLine := by have := hr.un; omega
section
variable {X : Cx} {ah : Option Addr} {E : L2.St → XK} {c : DC}
theorem pft_eqP {k : Nat} {Fn : List D → Gh → M D} {e1 e2 : Expr} {a b : FE} {pos} (hr : Room k X.A) (G : EqOk X.prog X.w X.K X.mg X.base k Fn) (ha : PF X ah E e1 a) (hb : PF X ah E e2 b) : PFT X ah E (.Compare e1 [.Eq] [e2] pos) (cT (cEqP Fn a b)) := by
  obtain ⟨t, p, r1⟩ := ha
  obtain ⟨u, q, r2⟩ := hb
  exact ⟨_, pt_cmpR (op_eqP hr G) p q (nomark _), rt_of (re_eqP (c := dc X ah) r1 r2)⟩
end
/-- a def of the text, where it stands -/
def DefAt (K : PySem.W.Frag) (mg : Str → Option Value) (x : Str) (st : Stmt) (ps : List Str) : Prop := ∃ f fd, Fun K x x st f fd ∧ mg x = some (.ref f) ∧ Binds K fd ps []
theorem DefAt.ok {P : Program} {w : World} {K : PySem.W.Frag} {mg : Str → Option Value} {base : Heap} {x : Str} {st : Stmt} {N ps : List Str} {k n : Nat} {b : FS} (A : DefAt K mg x st ps) (Sc : FnScope N ps (defScope st)) (hn : ps.length = n) (hN : n ≤ N.length)
    (hb : ∀ (f : Addr) (cdv : Value) (A : Around) (outer : List Env) (s : Shared) (H : Hp) (E : XK) (ah : Option Addr), Room k (A.deeper (envOfC x (defScope st) s.heap.objs.size f cdv)) → PFSs ((cxOf CX0 P w K mg base N x (defScope st) f cdv A outer s H E).nox) ah E0 (defBody st) b) :
    DefOk P w K mg base CX0 x (k + 1) n fun ds g => noX (fnOf N.length b ds g) := by
  obtain ⟨f, fd, F, m, bn⟩ := A
  exact ⟨f, fd, ps, fd_ok F Sc hn hN (fun cdv A outer s H E ah hr => hb f cdv A outer s H E ah hr), m, F.kp, bn⟩
theorem DefAt.okX {P : Program} {w : World} {K : PySem.W.Frag} {mg : Str → Option Value} {base : Heap} {x : Str} {st : Stmt} {N ps : List Str} {k n : Nat} {b : FS} (A : DefAt K mg x st ps) (Sc : FnScope N ps (defScope st)) (hn : ps.length = n) (hN : n ≤ N.length)
    (hb : ∀ (f : Addr) (cdv : Value) (A : Around) (outer : List Env) (s : Shared) (H : Hp) (E : XK) (ah : Option Addr), Room k (A.deeper (envOfC x (defScope st) s.heap.objs.size f cdv)) → PFSs (cxOf (L2.CX P w) P w K mg base N x (defScope st) f cdv A outer s H E) ah E (defBody st) b) :
    DefOk P w K mg base (L2.CX P w) x (k + 1) n fun ds g => fnOf N.length b ds g := by
  obtain ⟨f, fd, F, m, bn⟩ := A
  exact ⟨f, fd, ps, fd_okX F Sc hn hN (fun cdv A outer s H E ah hr => hb f cdv A outer s H E ah hr), m, F.kp, bn⟩

/-! ### an __init__ that refuses twice and keeps two things -/
def exOf (m : M Fl) : M D := match m with
  | some (.ex c ks ds g) => some (.ex c ks ds g)
  | _ => none
def mkF2 (cn x1 x2 : Str) (q1 : FT) (r1 : FS) (q2 : FT) (r2 : FS) (N : Nat) (ds : List D) (g : Gh) : M D :=
  let ρ := En.un :: ds.map .dt ++ List.replicate (N - 3) .un
  (q1 ρ g).bd fun k g1 => if k = true then exOf (r1 ρ g1) else (q2 ρ g1).bd fun k2 g2 => if k2 = true then exOf (r2 ρ g2) else some (.ok (.obj cn [x1, x2] ds) g2)
theorem GotS.exOf {F F' : Fx} {S : Hp} {E : XK} {Z : Ends} {m : M Fl} {R : D → Gh → Prop} (w : ∀ {cc ks es g'}, GotX F' S E cc ks es g' → GotX F S E cc ks es g') (G : match FD.exOf m with
    | none => False
    | some (.ok d g) => R d g
    | some (.ex c ks ds g) => GotX F' S E c ks ds g) : GotS F S E Z m := by
  cases m with
  | none => exact G
  | some o => cases o with
    | ok fl g => exact G.elim
    | ex _ _ _ _ => exact w G
theorem mk_ok2 {P : Program} {w : World} {K : PySem.W.Frag} {mg : Str → Option Value} {base : Heap} {qual cn x1 x2 : Str} {st : Stmt} {f C : Addr} {fd : FuncData} {N : List Str} {k : Nat} {t1 t2 : Expr} {b1 b2 : Stmt} {i1 i2 a1 a2 a3 a4 a5 a6 a7 a8 : Pos} {q1 q2 : FT} {r1 r2 : FS}
    (F : Fun K "__init__" qual st f fd) (Sc : FnScope N [("self" : Str), x1, x2] (defScope st)) (hN : N = ("self" : Str) :: x1 :: x2 :: N.drop 3) (hcl : Cls K C) (hn1 : NoAttr K C x1) (hn2 : NoAttr K C x2) (hx : x1 ≠ x2) (hm : mg cn = some (.ref C))
    (hbody : defBody st = [.If t1 [b1] [] i1, .If t2 [b2] [] i2, .Assign [.Attribute (.Name "self" a1) x1 a2] (.Name x1 a3) a4, .Assign [.Attribute (.Name "self" a5) x2 a6] (.Name x2 a7) a8])
    (hl0 : (defScope st).names.lookup ("self" : Str) = some .local) (hl1 : (defScope st).names.lookup x1 = some .local) (hl2 : (defScope st).names.lookup x2 = some .local)
    (hd1 : (x1 == ("__debug__" : Str)) = false) (hc1 : (x1 == ("__classdict__" : Str)) = false) (hd2 : (x2 == ("__debug__" : Str)) = false) (hc2 : (x2 == ("__classdict__" : Str)) = false)
    (hb : ∀ (cdv : Value) (A : Around) (outer : List Env) (s : Shared) (H : Hp) (E : XK) (ah : Option Addr), Room k (A.deeper (envOfC qual (defScope st) s.heap.objs.size f cdv)) →
      PFT (cxOf (L2.CX P w) P w K mg base N qual (defScope st) f cdv A outer s H E) ah (fun _ => E) t1 q1 ∧ PFS (cxOf (L2.CX P w) P w K mg base N qual (defScope st) f cdv A outer s H E) ah E b1 r1 ∧
      PFT (cxOf (L2.CX P w) P w K mg base N qual (defScope st) f cdv A outer s H E) ah (fun _ => E) t2 q2 ∧ PFS (cxOf (L2.CX P w) P w K mg base N qual (defScope st) f cdv A outer s H E) ah E b2 r2) :
    FnOk P w K mg base (L2.CX P w) (k + 1) f fd [("self" : Str), x1, x2] (spMk K mg C 2 (mkF2 cn x1 x2 q1 r1 q2 r2 N.length)) := by
  refine F.okX Sc (fun vs H Q E h => ?_) (fun cdv A outer s H vs Q E hr h => ?_)
  · obtain ⟨ah, S, g, a, dx, vs', ds, rfl, hl, _, _, _, hv, _⟩ := h
    simp [hv.length, hl]
  · obtain ⟨ah, S, g, a, dx, vs', ds, rfl, hl, ha, hsa, R, hv, hah, G⟩ := h
    obtain ⟨⟨u1, p1, z1⟩, ⟨v1, p2, z2⟩, ⟨u2, p3, z3⟩, ⟨v2, p4, z4⟩⟩ := hb cdv A outer s H E ah hr
    rw [hbody]
    refine ⟨_, pss_cons (ps_if p1 (pss_one p2) pss_nil) (pss_cons (ps_if p3 (pss_one p4) pss_nil)
      (pss_cons (ps_fld (pe_var (i := 0) (by rw [show (cxOf (L2.CX P w) P w K mg base N qual (defScope st) f cdv A outer s H E).N = N from rfl, hN]; rfl) (.inl hl0) (by decide) (by decide)) (pe_var (i := 1) (by rw [show (cxOf (L2.CX P w) P w K mg base N qual (defScope st) f cdv A outer s H E).N = N from rfl, hN]; rfl) (.inl hl1) hd1 hc1) rfl)
      (pss_one (ps_fld (pe_var (i := 0) (by rw [show (cxOf (L2.CX P w) P w K mg base N qual (defScope st) f cdv A outer s H E).N = N from rfl, hN]; rfl) (.inl hl0) (by decide) (by decide)) (pe_var (i := 2) (by rw [show (cxOf (L2.CX P w) P w K mg base N qual (defScope st) f cdv A outer s H E).N = N from rfl, hN]; rfl) (.inl hl2) hd2 hc2) rfl)))), ?_⟩
    have hds : ∃ d1 d2, ds = [d1, d2] := by
      match ds, hl with
      | [d1, d2], _ => exact ⟨d1, d2, rfl⟩
    obtain ⟨d1, d2, rfl⟩ := hds
    obtain ⟨w1, w2, rfl, h1, h2⟩ := hv.two
    let Fr : Fx := ⟨⟨K, mg, ah⟩, H, S⟩
    let Fw : Fx := ⟨⟨K, mg, ah⟩, (fun b => if b = a then none else H b), S⟩
    have weak : ∀ {g' H' S'}, Rep Fr [] g' [] H' S' → Rep Fw [] g' [] H' S' := fun {g' H' S'} B => by
      refine ⟨B.sub, B.hand, fun b o h1 h2 => B.keep b o ?_ h2, fun b h1 h2 => B.stay b ?_ h2, fun i e h => by simp at h, fun i j p xs ys h => by simp at h⟩
      · show H b = some o
        have e : (if b = a then none else H b) = some o := h1
        split at e
        · cases e
        · exact e
      · intro e0
        apply h1
        have e0 : H b = none := e0
        show (if b = a then none else H b) = none
        rw [e0]; split <;> rfl
    have weakX : ∀ {S1 cc ks es g'}, GotX Fw S1 E cc ks es g' → GotX Fr S1 E cc ks es g' := fun {S1 cc ks es g'} hG A dd H' S' m sm B z => hG A dd H' S' m sm (weak B) z
    have hN3 : N.length = 3 + (N.length - 3) := by rw [hN]; simp; omega
    have R0 : Rep Fr (En.un :: [d1, d2].map .dt ++ List.replicate (N.length - 3) .un) g (start N [.ref a, w1, w2]) H S := by
      refine Rep.forget R (fun i en h => ?_) fun i j p xs ys h => ?_
      · match i, h with
        | 0, h => simp at h; subst h; exact ⟨some (.ref a), by simp [L2.start], trivial⟩
        | 1, h => simp at h; subst h; exact ⟨some w1, by simp [L2.start], w1, rfl, h1⟩
        | 2, h => simp at h; subst h; exact ⟨some w2, by simp [L2.start], w2, rfl, h2⟩
        | i + 3, h =>
          simp [List.getElem?_replicate] at h
          obtain ⟨h3, rfl⟩ := h
          refine ⟨none, ?_, trivial⟩
          simp [L2.start, List.getElem?_replicate]
          omega
      · match i, h with
        | 0, h => simp at h
        | 1, h => simp at h
        | 2, h => simp at h
        | i + 3, h => simp [List.getElem?_replicate] at h
    have hs0 : (start N [.ref a, w1, w2])[0]? = some (some (.ref a)) := by simp [L2.start]
    have hs1 : (start N [.ref a, w1, w2])[1]? = some (some w1) := by simp [L2.start]
    have hs2 : (start N [.ref a, w1, w2])[2]? = some (some w2) := by simp [L2.start]
    -- the two tests
    refine z1.run Fr _ g _ H S _ rfl R0 ?_
    unfold mkF2 at G
    dsimp only at G
    generalize hρ : (En.un :: [d1, d2].map .dt ++ List.replicate (N.length - 3) .un) = ρ at G R0 ⊢
    cases e1 : q1 ρ g with
    | none => rw [e1] at G; exact G.elim
    | some o1 => cases o1 with
      | ex _ _ _ _ => rw [e1] at G; exact weakX G
      | ok kk g1 =>
        rw [e1] at G
        simp only [M.bd] at G
        intro kb H1 S1 sm1 R1 hk
        have hk : kb = kk := hk
        subst hk
        cases kb with
        | true =>
          rw [if_pos rfl] at G ⊢
          refine z2.run Fr ρ g1 _ H1 S1 _ rfl R1 (GotS.mono ?_ sm1)
          exact GotS.exOf weakX G
        | false =>
          rw [if_neg (by simp)] at G ⊢
          refine z3.run Fr ρ g1 _ H1 S1 _ rfl R1 ?_
          cases e2 : q2 ρ g1 with
          | none => rw [e2] at G; exact G.elim
          | some o2 => cases o2 with
            | ex _ _ _ _ => rw [e2] at G; exact GotX.mono (weakX G) sm1
            | ok k2 g2 =>
              rw [e2] at G
              simp only at G
              intro kb2 H2 S2 sm2 R2 hk2
              have hk2 : kb2 = k2 := hk2
              subst hk2
              cases kb2 with
              | true =>
                rw [if_pos rfl] at G ⊢
                refine z4.run Fr ρ g2 _ H2 S2 _ rfl R2 (GotS.mono ?_ (sm1.trans sm2))
                exact GotS.exOf weakX G
              | false =>
                rw [if_neg (by simp)] at G ⊢
                have ka : H2 a = some (.ins C dx []) := R2.keep a _ ha hah
                have sa : (S2 a : Option HO) = none := R2.stay a (by show H a ≠ none; rw [ha]; simp) hsa
                have n12 : ¬ x2 = x1 := fun z => hx z.symm
                have pf : putF x2 w2 (putF x1 w1 []) = [(x1, w1), (x2, w2)] := by
                  show (if x1 = x2 then _ else (x1, w1) :: putF x2 w2 []) = _
                  rw [if_neg hx]
                  rfl
                refine ⟨w1, hs1, .ref a, hs0, a, C, dx, [], rfl, ka, hcl, hn1, by decide, ?_⟩
                refine ⟨w2, hs2, .ref a, hs0, a, C, dx, putF x1 w1 [], rfl, upd_same, hcl, hn2, by show 1 < 1000; decide, ?_⟩
                rw [upd_upd, pf]
                have smT := sm1.trans sm2
                have Rw : Rep Fw [] g2 [] (upd H2 a (.ins C dx [(x1, w1), (x2, w2)])) S2 := (weak R2.bare).write1 sa (by show (if a = a then none else H a) = none; rw [if_pos rfl]) hah
                exact G _ S2 [(x1, w1), (x2, w2)] smT upd_same sa Rw ⟨cn, [x1, x2], [d1, d2], rfl, hm, rfl, .cons (h1.mono smT) (.cons (h2.mono smT) .nil)⟩
end FD
set_option Elab.async false
set_option linter.all false
set_option maxRecDepth 100000
set_option maxHeartbeats 4000000
namespace FD
open PySem L2 PyProof.Rows
/-- def _law_hand(script): return [list(script), 0, 0, 1, 0] -/
theorem hand_ok {P : Program} {w : World} {K : PySem.W.Frag} {mg : Str → Option Value} {base : Heap} {x y : Str} {st : Stmt} {f : Addr} {fd : FuncData} {p1 p2 p3 p4 p5 p6 p7 p8 p9 : Pos} {j1 j2 j3 j4} (F : Fun K x x st f fd) (Sc : FnScope [y] [y] (defScope st)) (hl : mg "list" = none)
    (hb : defBody st = [.Return (some (.List [.Call (.Name "list" p1) [.Name y p2] [] p3, .Constant (.int 0) j1 p4, .Constant (.int 0) j2 p5, .Constant (.int 1) j3 p6, .Constant (.int 0) j4 p7] p8)) p9])
    (h1 : (defScope st).names.lookup y = some .local) (h2 : (defScope st).names.lookup ("list" : Str) = some .globalImplicit) (hd : (y == ("__debug__" : Str)) = false) (hcd : (y == ("__classdict__" : Str)) = false) : FnOk P w K mg base CX0 1 f fd [y] (spHand K) := by
  refine F.ok Sc (fun vs H Q E h => ?_) (fun cdv A outer s H vs Q E hr h => ?_)
  · obtain ⟨a, xs, rfl, _⟩ := h
    rfl
  · obtain ⟨a, xs, rfl, hS, k⟩ := h
    rw [hb]
    refine ⟨_, pss_one (ps_ret (pe_lst (pa_cons (pe_callTy call_list_of h2 hl (by decide +kernel) (pa_cons (pe_var (i := 0) rfl (.inl h1) hd hcd) pa_nil)) (pa_cons pe_int (pa_cons pe_int (pa_cons pe_int (pa_cons pe_int pa_nil))))))), ?_⟩
    refine ⟨_, rfl, a, _, rfl, .inl hS, fun q hq => ⟨line_of (by simp), fun p hp => k q hq p hp⟩⟩
/-- the law's promise -/
def spLaw (K : PySem.W.Frag) : Sp := fun vs H Q _ => ∃ (a : Addr) (ns : List Int), vs = [.ref a] ∧ SqL K H a (ns.map V.int) ∧ ns.length ≤ 63 ∧ ∀ H', Q (.bl true) H'
/-- law(script): hand = _law_hand(script); .. -/
theorem law_ok {P : Program} {w : World} {K : PySem.W.Frag} {mg : Str → Option Value} {base : Heap} {x y hn : Str} {xh : Str} {st : Stmt} {f fh : Addr} {fd fdh : FuncData} {N psh : List Str} {k : Nat} {rest : List Stmt} {b : FS} {p1 p2 p3 p4 p5 : Pos} (F : Fun K x x st f fd) (Sc : FnScope N [y] (defScope st)) (hN : N = y :: hn :: N.drop 2) (hk : 1 ≤ k)
    (GH : FnOk P w K mg base CX0 1 fh fdh psh (spHand K)) (hmh : mg xh = some (.ref fh)) (hkp : PySem.W.keepIn K (.ref fh) = true) (hbh : Binds K fdh psh [])
    (hbody : defBody st = .Assign [.Name hn p1] (.Call (.Name xh p2) [.Name y p3] [] p4) p5 :: rest)
    (hg : (defScope st).names.lookup xh = some .globalImplicit) (hy : (defScope st).names.lookup y = some .local) (hh : Loc (defScope st) hn) (hd : (y == ("__debug__" : Str)) = false) (hcd : (y == ("__classdict__" : Str)) = false) (hdx : (xh == ("__debug__" : Str)) = false)
    (hb : ∀ (cdv : Value) (A : Around) (outer : List Env) (s : Shared) (H : Hp) (E : XK) (ah : Option Addr), Room k (A.deeper (envOfC x (defScope st) s.heap.objs.size f cdv)) → PFSs ((cxOf CX0 P w K mg base N x (defScope st) f cdv A outer s H E).nox) ah E0 rest b)
    (hs : ∀ (cdv : Value) (A : Around) (outer : List Env) (s : Shared) (H : Hp) (E : XK), swapsWith (.Call (.Name xh p2) [.Name y p3] [] p4) (some (.Name hn p1)) p5.line ((cxOf CX0 P w K mg base N x (defScope st) f cdv A outer s H E).nox).env = pure false)
    (main : ∀ ns : List Int, ns.length ≤ 63 → ∃ g, b (.un :: .dt .hnd :: List.replicate (N.length - 2) .un) ⟨ns, 0, 0, 1, 0⟩ = some (.ok (.rt (.bl true)) g)) : FnOk P w K mg base CX0 (k + 1) f fd [y] (spLaw K) := by
  refine F.ok Sc (fun vs H Q E h => ?_) (fun cdv A outer s H vs Q E hr h => ?_)
  · obtain ⟨a, xs, rfl, _⟩ := h
    rfl
  · obtain ⟨a, ns, rfl, hS, hlen, kQ⟩ := h
    rw [hbody]
    have N0 : ((cxOf CX0 P w K mg base N x (defScope st) f cdv A outer s H E).nox).N = N := rfl
    have ch : ∀ ah, ∃ t, PSs ((cxOf CX0 P w K mg base N x (defScope st) f cdv A outer s H E).nox) rest t ∧ RS ⟨K, mg, ah⟩ E0 t b := fun ah => hb cdv A outer s H E ah hr
    -- one reading, wherever the hand stands
    let tr : TS := fun Z σ H => ∃ ah, (ch ah).choose Z σ H
    have ptr : PSs ((cxOf CX0 P w K mg base N x (defScope st) f cdv A outer s H E).nox) rest tr := ⟨fun pins s' σ H' Z I ⟨ah, hw⟩ => (ch ah).choose_spec.1.run pins s' σ H' Z I hw⟩
    have i0 : ((cxOf CX0 P w K mg base N x (defScope st) f cdv A outer s H E).nox).N[0]? = some y := by rw [N0, hN]; rfl
    have i1 : ((cxOf CX0 P w K mg base N x (defScope st) f cdv A outer s H E).nox).N[1]? = some hn := by rw [N0, hN]; rfl
    refine ⟨_, pss_cons (ps_set (i := 1) Sc.nd i1 hh (pe_call GH (hr.mono hk) hg hmh hkp hbh .nil pass0 (pa_cons (pe_var (i := 0) i0 (.inl hy) hd hcd) pa_nil) hdx) (hs cdv A outer s H E) (.inl rfl)) ptr, ?_⟩
    have hs0 : (start N [.ref a])[0]? = some (some (.ref a)) := by simp [L2.start]
    have hl : 2 ≤ N.length := by rw [hN]; simp
    refine ⟨_, hs0, a, ns, rfl, hS, fun q hq p hp => ⟨some p, ?_⟩⟩
    have nqp : p ≠ q := fun z => by rw [z, upd_same] at hp; cases hp
    obtain ⟨g, hm⟩ := main ns hlen
    refine (ch (some p)).choose_spec.2.run ⟨⟨K, mg, some p⟩, fun _ => none, fun _ => none⟩ (.un :: .dt .hnd :: List.replicate (N.length - 2) .un) ⟨ns, 0, 0, 1, 0⟩ _ _ (upd (fun _ => none) q (.lst (ns.map V.int))) _ rfl ?_ ?_
    · refine ⟨fun b o e => ?_, ?_, fun b o e => by simp at e, fun b e => by simp at e, fun i en h => ?_, fun i j p' xs ys h => ?_⟩
      · by_cases hb2 : b = q
        · subst hb2
          rw [upd_same] at e
          rw [upd_ne (Ne.symm nqp), upd_same]; exact e
        · rw [upd_ne hb2] at e; cases e
      · refine ⟨?_, q, ?_, ?_⟩
        · show upd (fun _ => none) q _ p = none
          rw [upd_ne nqp]
        · exact upd_same
        · exact upd_same
      · match i, h with
        | 0, h => simp at h; subst h; exact ⟨_, by rw [List.getElem?_set_ne (by decide)]; exact hs0, trivial⟩
        | 1, h =>
          simp at h; subst h
          exact ⟨some (.ref p), List.getElem?_set_self (by simp [L2.start]; omega), .ref p, rfl, .hnd rfl⟩
        | i + 2, h =>
          simp [List.getElem?_replicate] at h
          obtain ⟨h1, rfl⟩ := h
          refine ⟨none, ?_, trivial⟩
          rw [List.getElem?_set_ne (by omega)]
          simp [L2.start, List.getElem?_replicate]
          omega
      · match i, h with
        | 0, h => simp at h
        | 1, h => simp at h
        | i + 2, h => simp [List.getElem?_replicate] at h
    · rw [hm]
      intro v H' S' _ _ hv
      cases hv.blE
      exact kQ H'
end FD
set_option Elab.async false
set_option linter.all false
set_option maxRecDepth 100000
set_option maxHeartbeats 1000000
namespace FD
open PySem L2
/-! # Reckoning with the functions -/
@[simp] theorem noX_ok {α : Type} (a : α) (g : Gh) : noX (some (.ok a g)) = some (.ok a g) := rfl
@[simp] theorem noX_none {α : Type} : noX (none : M α) = none := rfl
theorem sSeq_nx {a b : FS} {ρ g ρ1 g1} (h : a ρ g = some (.ok (.nx ρ1) g1)) : sSeq a b ρ g = b ρ1 g1 := by unfold sSeq; rw [h]
theorem sSeq_rt {a b : FS} {ρ g d g1} (h : a ρ g = some (.ok (.rt d) g1)) : sSeq a b ρ g = some (.ok (.rt d) g1) := by unfold sSeq; rw [h]
/-! ### == -/
@[simp] theorem eqD_int (i j : Int) : eqD (.int i) (.int j) = some (.bl (i == j)) := by
  simp [eqD, eqB, D.py, SeqAt.shaped, PyData.canLay0, PyData.depth, PyData.eqv]
@[simp] theorem neD_int (i j : Int) : neD (.int i) (.int j) = some (.bl (!(i == j))) := by
  simp [neD, eqB, D.py, SeqAt.shaped, PyData.canLay0, PyData.depth, PyData.eqv]
@[simp] theorem eqD_bl (i j : Bool) : eqD (.bl i) (.bl j) = some (.bl (i == j)) := by
  simp [eqD, eqB, D.py, SeqAt.shaped, PyData.canLay0, PyData.depth, PyData.eqv]
@[simp] theorem neD_bl (i j : Bool) : neD (.bl i) (.bl j) = some (.bl (!(i == j))) := by
  simp [neD, eqB, D.py, SeqAt.shaped, PyData.canLay0, PyData.depth, PyData.eqv]
def okStr (z : Str) : Bool := PyData.canLay0 (.str z)
theorem eqD_str {a b : Str} (ha : okStr a = true) (hb : okStr b = true) : eqD (.str a) (.str b) = some (.bl (a == b)) := by
  unfold okStr at ha hb
  simp [eqD, eqB, D.py, SeqAt.shaped, PyData.depth, PyData.eqv, ha, hb]
theorem neD_str {a b : Str} (ha : okStr a = true) (hb : okStr b = true) : neD (.str a) (.str b) = some (.bl (!(a == b))) := by
  unfold okStr at ha hb
  simp [neD, eqB, D.py, SeqAt.shaped, PyData.depth, PyData.eqv, ha, hb]
/-! ### the order of ints -/
@[simp] theorem ltD_int (i j : Int) : ltD (.int i) (.int j) = some (.bl (decide (i < j))) := rfl
@[simp] theorem leD_int (i j : Int) : leD (.int i) (.int j) = some (.bl (decide (i ≤ j))) := rfl
@[simp] theorem gtD_int (i j : Int) : gtD (.int i) (.int j) = some (.bl (decide (j < i))) := rfl
@[simp] theorem geD_int (i j : Int) : geD (.int i) (.int j) = some (.bl (decide (j ≤ i))) := rfl
@[simp] theorem addD_int (i j : Int) : addD (.int i) (.int j) = some (.int (i + j)) := rfl
@[simp] theorem subD_int (i j : Int) : subD (.int i) (.int j) = some (.int (i - j)) := rfl
theorem modD_int {i j : Int} (h : j ≠ 0) : modD (.int i) (.int j) = some (.int (i.fmod j)) := by simp [modD, intD, h]
theorem divD_int {i j : Int} (h : j ≠ 0) (h2 : j.natAbs < 1073741824) : divD (.int i) (.int j) = some (.int (i.fdiv j)) := by simp [divD, intD, h, h2]
theorem mulD_int {i j : Int} (h : small64 i ∨ small64 j) : mulD (.int i) (.int j) = some (.int (i * j)) := by
  show (if small64 i ∨ small64 j then _ else _) = _
  rw [if_pos h]
@[simp] theorem negD_int (i : Int) : negD (.int i) = some (.int (-i)) := rfl
@[simp] theorem lenD_tup (xs : List D) : lenD [.tup xs] = some (.int xs.length) := rfl
@[simp] theorem lenD_lst (xs : List D) : lenD [.lst xs] = some (.int xs.length) := rfl
@[simp] theorem tupleD_lst (xs : List D) : tupleD [.lst xs] = some (.tup xs) := rfl
@[simp] theorem tupleD_tup (xs : List D) : tupleD [.tup xs] = some (.tup xs) := rfl
@[simp] theorem seqOf_tup (xs : List D) : seqOf (.tup xs) = some xs := rfl
@[simp] theorem seqOf_lst (xs : List D) : seqOf (.lst xs) = some xs := rfl
@[simp] theorem intOf_int (i : Int) : intOf [.int i] = some (.int i) := rfl
@[simp] theorem isND_non (d : D) : isND d .non = some (.bl (isNonB d)) := by cases d <;> rfl
@[simp] theorem notND_non (d : D) : notND d .non = some (.bl (!isNonB d)) := by cases d <;> rfl
@[simp] theorem isBlD_bl (d : D) (b : Bool) : isBlD d (.bl b) = some (.bl (isBlB b d)) := by cases d <;> rfl
theorem atI_nat {α : Type} {xs : List α} {k : Nat} : atI xs (k : Int) = xs[k]? := by
  unfold atI ixN
  by_cases h : k < xs.length
  · simp [h]
  · simp [h]
theorem atI_of {α : Type} {xs : List α} {i : Int} (h : 0 ≤ i) : atI xs i = xs[i.toNat]? := by
  obtain ⟨k, rfl⟩ := Int.eq_ofNat_of_zero_le h
  rw [atI_nat]; rfl
theorem ixD_tup {xs : List D} {i : Int} (h : 0 ≤ i) : ixD (.tup xs) (.int i) = xs[i.toNat]? := atI_of h
theorem ixD_lst {xs : List D} {i : Int} (h : 0 ≤ i) : ixD (.lst xs) (.int i) = xs[i.toNat]? := atI_of h
/-! ### blocks -/
theorem compD_map {gs : FG} {fe : FE} {F : D → D} {ρ : List En} {g : Gh} : ∀ {ds : List D}, (∀ d ∈ ds, ∃ ρ1, gs d ρ = some ρ1 ∧ fe ρ1 g = some (.ok (F d) g)) → compD gs tY fe ds ρ g = some (.ok (ds.map F) g)
  | [], _ => rfl
  | d :: ds, h => by
    obtain ⟨ρ1, h1, h2⟩ := h d List.mem_cons_self
    have ih := compD_map (ds := ds) fun e he => h e (List.mem_cons_of_mem _ he)
    simp [compD, h1, h2, ih]
theorem compD_filter {gs : FG} {ft : FT} {fe : FE} {p : D → Bool} {F : D → D} {ρ : List En} {g : Gh} : ∀ {ds : List D}, (∀ d ∈ ds, ∃ ρ1, gs d ρ = some ρ1 ∧ ft ρ1 g = some (.ok (p d) g) ∧ fe ρ1 g = some (.ok (F d) g)) → compD gs ft fe ds ρ g = some (.ok ((ds.filter p).map F) g)
  | [], _ => rfl
  | d :: ds, h => by
    obtain ⟨ρ1, h1, h2, h3⟩ := h d List.mem_cons_self
    have ih := compD_filter (ds := ds) fun e he => h e (List.mem_cons_of_mem _ he)
    cases hp : p d <;> simp [compD, h1, h2, h3, ih, hp, List.filter_cons]
@[simp] theorem flags_map {α : Type} (p : α → Bool) : ∀ ds : List α, flags (ds.map fun d => .bl (p d)) = some (ds.map p)
  | [] => rfl
  | d :: ds => by simp [flags, flags_map p ds]
theorem allD_map {α : Type} (p : α → Bool) (ds : List α) : allD [.lst (ds.map fun d => .bl (p d))] = some (.bl (ds.all p)) := by
  simp [allD]
/-- every draw's end -/
def Sat {α : Type} (m : M α) (P : α → Gh → Prop) : Prop := ∃ a g, m = some (.ok a g) ∧ P a g
theorem Sat.bd {α β : Type} {m : M α} {k : α → Gh → M β} {P : α → Gh → Prop} {Q : β → Gh → Prop} (h : Sat m P) (hk : ∀ a g, P a g → Sat (k a g) Q) : Sat (m.bd k) Q := by
  obtain ⟨a, g, rfl, p⟩ := h
  exact hk a g p
theorem Sat.ok {α : Type} {a : α} {g : Gh} {P : α → Gh → Prop} (h : P a g) : Sat (some (.ok a g)) P := ⟨a, g, rfl, h⟩
theorem Sat.imp {α : Type} {m : M α} {P Q : α → Gh → Prop} (h : Sat m P) (hq : ∀ a g, P a g → Q a g) : Sat m Q := by
  obtain ⟨a, g, e, p⟩ := h
  exact ⟨a, g, e, hq a g p⟩
theorem Sat.seq {a b : FS} {ρ : List En} {g : Gh} {P : Fl → Gh → Prop} {Q : Fl → Gh → Prop} (h : Sat (a ρ g) P) (hk : ∀ f g1, P f g1 → (∃ ρ1, f = .nx ρ1 ∧ Sat (b ρ1 g1) Q) ∨ ((∀ ρ1, f ≠ .nx ρ1) ∧ Q f g1)) : Sat (sSeq a b ρ g) Q := by
  obtain ⟨f, g1, e, p⟩ := h
  unfold sSeq
  rw [e]
  rcases hk f g1 p with ⟨ρ1, rfl, h2⟩ | ⟨hn, q⟩
  · exact h2
  · cases f with
    | nx ρ1 => exact absurd rfl (hn ρ1)
    | bk ρ1 => exact .ok q
    | ct ρ1 => exact .ok q
    | rt d => exact .ok q
theorem p62 : (2 : Int) ^ 62 = 4611686018427387904 := by decide +kernel
theorem rng1_int {j : Int} (h0 : 0 ≤ j) (h : j ≤ 100000) : rng1 [.int j] = some (rngD 0 j.toNat) := by
  unfold rng1
  have c1 : -(2 ^ 62) ≤ j := by rw [p62]; omega
  have c2 : j < 2 ^ 62 := by rw [p62]; omega
  exact if_pos (ck_of ⟨c1, c2⟩)
theorem rng1_nat {n : Nat} (h : n ≤ 100000) : rng1 [.int (n : Nat)] = some (rngD 0 n) := by
  have := rng1_int (j := (n : Int)) (by omega) (by omega)
  rw [this]
  rfl
/-- the hand stands right -/
structure HOK (g : Gh) : Prop where
  i0 : 0 ≤ g.i
  r0 : 0 ≤ g.r
  r1 : g.r < 2147483647
end FD
set_option Elab.async false
set_option linter.all false
set_option maxRecDepth 100000
set_option maxHeartbeats 2000000
namespace FD
open PySem PySem.Spec PyProof.Rows L2
/-! # What the end of the top leaves, for this layer -/
theorem fun_of {K : PySem.W.Frag} {x qual : Str} {st : Stmt} {f : Addr} {fd : FuncData} (F : FunD K x qual (defArgs st) (defBody st) (defScope st) [] [] f fd) : Fun K x qual st f fd := by
  obtain ⟨oc, od, dV, kV, doc, pm, an, cdv, ct, osl, rfl, lk, hcd, hD, hK⟩ := F.ex
  rcases hD with ⟨_, rfl⟩ | ⟨e, _⟩
  · exact ⟨⟨oc, od, kV, doc, pm, an, cdv, ct, osl, rfl, lk, hcd⟩, F.kp⟩
  · exact absurd rfl e
def oexB (K : PySem.W.Frag) (C : Addr) : Bool := (match K.lookup C with
  | some ⟨.type c, _, .cls cd, sl⟩ => (match cd.mro, sl.toList with
    | .ref C' :: bm, [_, _, _, _, some (.builtin n), _] => c == "type" && (C' == C && (n == "ValueError.__new__" && (!cd.hasDel && (cd.hasDict && PySem.HandSPX.refsVE bm))))
    | _, _ => false)
  | _ => false) && (He.eqO (PySem.W.findIn K (.ref C) "__setattr__") (some (some (.builtin "object.__setattr__"))) && (decide (PySem.W.subIn K (.ref C) (.type "BaseException") = some true) && (decide (PySem.W.typeIn K (.ref C) = some (.type "type")) && PySem.W.keepIn K (.ref C))))
theorem oexB_ok {K : PySem.W.Frag} {C : Addr} (h : oexB K C = true) : OexC K C := by
  obtain ⟨h1, h⟩ := He.ba h
  obtain ⟨h2, h⟩ := He.ba h
  obtain ⟨h3, h⟩ := He.ba h
  obtain ⟨h4, h5⟩ := He.ba h
  refine ⟨?_, He.eqO_ok h2, of_decide_eq_true h3, of_decide_eq_true h4, h5⟩
  split at h1
  · rename_i c dd cd sl ho
    split at h1
    · rename_i C' bm k0 k1 k2 k3 n k5 hm hs
      simp only [Bool.and_eq_true, beq_iff_eq, Bool.not_eq_true'] at h1
      obtain ⟨rfl, rfl, rfl, hdel, hdc, ht⟩ := h1
      obtain ⟨nm, bs, mro, ns, qn, hd, sn, sub, ab, col, del⟩ := cd
      dsimp only at hm hdel hdc
      subst hm hdel hdc
      have hsl : sl = #[k0, k1, k2, k3, some (.builtin "ValueError.__new__"), k5] := by
        obtain ⟨l⟩ := sl
        simp only at hs
        rw [hs]
      subst hsl
      exact ⟨nm, qn, ns, bs, bm, sn, sub, ab, col, dd, k0, k1, k2, k3, k5, ho, ht⟩
    · cases h1
  · cases h1
/-- an own error with one field -/
def excB (K : PySem.W.Frag) (x f : Str) : Bool := He.eqO (PySem.W.nsIn K mainGlobals x) (some (some (.ref (He.ga K x)))) && (oexB K (He.ga K x) && (xfB K (He.ga K x) && (He.eqO (PySem.W.findIn K (.ref (He.ga K x)) f) (some none) && (He.eqO (PySem.W.findIn K (.ref (He.ga K x)) "__init__") (some (some (.ref (He.ma K (He.ga K x) "__init__")))) && (decide (PySem.W.typeIn K (.ref (He.ma K (He.ga K x) "__init__")) = some (.type "function")) && decide (PySem.W.exmOne K (.ref (He.ga K x)) (.ref (He.ga K x)) = some true))))))
theorem excB_ok {P : Program} {w : World} {K : PySem.W.Frag} {h : Heap} {mg : Str → Option Value} {base : Heap} {x f : Str} (X : K.In h) (G : h.Ns mainGlobals mg) (c : excB K x f = true) {fd : FuncData} {ps : List Str} (F : OexC K (He.ga K x) → FnOk P w K mg base CX0 1 (He.ma K (He.ga K x) "__init__") fd ps (spExI (He.ga K x) f)) (b : Binds K fd ps []) : ExcOk P w K mg base x f := by
  obtain ⟨c1, c⟩ := He.ba c
  obtain ⟨c2, c⟩ := He.ba c
  obtain ⟨c3, c⟩ := He.ba c
  obtain ⟨c4, c⟩ := He.ba c
  obtain ⟨c5, c⟩ := He.ba c
  obtain ⟨c6, c7⟩ := He.ba c
  exact ⟨_, _, fd, ps, He.glo_ok X G (x := x) c1, oexB_ok c2, xfB_ok c3, He.eqO_ok c4, He.eqO_ok c5, of_decide_eq_true c6, F (oexB_ok c2), b, of_decide_eq_true c7⟩
theorem excB_no {K : PySem.W.Frag} {x f : Str} (c : excB K x f = true) : PySem.W.findIn K (.ref (He.ga K x)) f = some none := by
  obtain ⟨c1, c⟩ := He.ba c
  obtain ⟨c2, c⟩ := He.ba c
  obtain ⟨c3, c⟩ := He.ba c
  exact He.eqO_ok (He.ba c).1
/-- a class whose things are told apart from the built-in ones -/
def clsIB (K : PySem.W.Frag) (x : Str) : Bool := He.eqO (PySem.W.findIn K (.ref (He.ga K x)) "__class__") (some (some (.builtin "object.__class__"))) && (He.eqO (PySem.W.specialIn K (.builtin "object.__class__") "__get__") (some (some (.builtin "getset_descriptor.__get__"))) && (decide (PySem.W.takesIn K (.builtin "object.__class__") = some true) && (decide (PySem.W.mroIn K (He.ga K x) (.type "object") = some true) && (["int", "bool", "str", "tuple", "list"].all fun t => decide (PySem.W.kitOne K (.ref (He.ga K x)) (.type t) = some false)))))
theorem clsIB_ok {K : PySem.W.Frag} {x : Str} (cl : Cls K (He.ga K x)) (c : clsIB K x = true) : ClsI K (He.ga K x) := by
  obtain ⟨c1, c⟩ := He.ba c
  obtain ⟨c2, c⟩ := He.ba c
  obtain ⟨c3, c⟩ := He.ba c
  obtain ⟨c4, c5⟩ := He.ba c
  exact ⟨cl, He.eqO_ok c1, He.eqO_ok c2, of_decide_eq_true c3, of_decide_eq_true c4, fun t ht => of_decide_eq_true (List.all_eq_true.mp c5 t (by
    rcases ht with rfl | rfl | rfl | rfl | rfl <;> simp))⟩
/-! ### constants -/
def ctB (K : PySem.W.Frag) (x : Str) (zs : List Str) : Bool := He.eqO (PySem.W.nsIn K mainGlobals x) (some (some (.ref (He.ga K x)))) && He.tupB K x (zs.map .str)
theorem ctB_ok {K : PySem.W.Frag} {h : Heap} {mg : Str → Option Value} {x : Str} {zs : List Str} (X : K.In h) (G : h.Ns mainGlobals mg) (c : ctB K x zs = true) : ConstOk K mg x (.tup (zs.map .str)) := by
  obtain ⟨c1, c2⟩ := He.ba c
  refine ⟨.ref (He.ga K x), _, He.glo_ok X G (x := x) c1, rfl, fun ah S => .tup (He.tupB_ok c2 S) ?_⟩
  have e : (zs.map He.Dv.str).map (He.Dv.v K) = strsV zs := by
    unfold strsV
    rw [List.map_map]
    rfl
  rw [e]
  exact Dns.strs zs
theorem ciOk {K : PySem.W.Frag} {h : Heap} {mg : Str → Option Value} {x : Str} {i : Int} (X : K.In h) (G : h.Ns mainGlobals mg) (c : (He.Fa.int x i).ok K = true) : ConstOk K mg x (.int i) := by
  obtain ⟨t, e⟩ := He.int_ok X G c
  exact ⟨.int i, _, e, ⟨t, rfl⟩, fun ah S => .int i⟩
/-! ### the Hook: the library's facts, and one Bool more -/
abbrev AlF : Type := He.AlD × Bool
def obsF (n : Nat) (fa : List He.Fa) (fn : List He.DefD) (ex : PySem.W.Frag → Bool) (g : Addr → Option Obj) : AlF := (He.obsD fa fn (He.frG g (He.asD g n)), ex (He.frG g (He.asD g n)))
def valF (fn : List He.DefD) : AlF := (He.valD fn, true)
def hookF (n : Nat) (fa : List He.Fa) (fn : List He.DefD) (ex : PySem.W.Frag → Bool) : PySem.W.Hook where
  α := AlF
  obs := fun s => obsF n fa fn ex s.heap.get?
  val := fun _ => valF fn
  says := fun _ h => ∃ K : PySem.W.Frag, K.In h ∧ He.SaysD fa fn K ∧ ex K = true
  of := fun _ _ e => ⟨_, He.frG_in, congrArg (fun z : AlF => z.1) e, congrArg (fun z : AlF => z.2) e⟩
  keeps := fun _ _ _ ⟨K, hK, c⟩ k => ⟨K, PySem.W.Frag.In.keeps hK k, c⟩
theorem obsF_eq {n : Nat} {fa : List He.Fa} {fn : List He.DefD} {ex : PySem.W.Frag → Bool} {g : Addr → Option Obj} {s : Shared} (h : ∀ a, g a = s.heap.get? a) : obsF n fa fn ex g = (hookF n fa fn ex).obs s := by
  have e : g = s.heap.get? := funext h
  rw [e] <;> rfl
end FD
set_option Elab.async false
set_option linter.all false
set_option maxRecDepth 100000
set_option maxHeartbeats 2000000
namespace FD
open PySem PySem.Spec PyProof.Rows L2
/-! # enumerate(t) of a tuple -/
theorem meets_enumT (t : Addr) (items : Array Value) (n : Nat) (cl : Value) (dct : Option Addr) (sl : Array (Option Value)) (hcl : cl = .type "tuple") :
    Meets (Builtin.«enumerate.__new__» ⟨[.type "enumerate", .ref t], []⟩) (fun _ Rr q => q.heap.get? t = some { cls := cl, dict := dct, data := .seq items n, slots := sl } ∧
      Rr (.ok (.ret (.ref (q.heap.push { cls := .type "tuple_iterator", data := .fields #[.ref t, .int 0 0] }).objs.size)))
        { q with heap := (q.heap.push { cls := .type "tuple_iterator", data := .fields #[.ref t, .int 0 0] }).push { cls := .type "enumerate", data := .fields #[.none, .bool false, .ref q.heap.objs.size, rawInt 0, .none, .none] } }) :=
  .of_wp fun prog w A Rr q h => by
    obtain ⟨hp, gg, dd, tk, os⟩ := q
    obtain ⟨hT, h⟩ := h
    subst hcl
    have sub1 := sub_enumerate
    have tT : Heap.IsTuple (Shared.heap ⟨hp, gg, dd, tk, os⟩) t items := ⟨_, hT, rfl, n, rfl⟩
    wp_walk using AutoSeq1.wpAny_loadPart' hT
    refine wpAny_stack_any fun st => wpAny_pure ?_
    split
    · rename_i c _ _ _ _ _
      cases (c == Value.type "enumerate") <;>
      · wp_walk using AutoSeq1.wpAny_loadPart' hT, wpAny_pyIter_tuple tT
        exact ⟨_, rfl, h⟩
    · wp_walk using AutoSeq1.wpAny_loadPart' hT, wpAny_pyIter_tuple tT
      exact ⟨_, rfl, h⟩
theorem call_enumT {prog : Program} {w : World} {A : Around} {E : Value → Shared → Prop} {q : Shared} {t : Addr} {items : Array Value} {Q : Value → Shared → Prop} (tT : q.heap.IsTuple t items)
    (h : ∀ h', IsEnum h' (q.heap.objs.size + 1) q.heap.objs.size 0 .none → h'.IsTupleIter q.heap.objs.size t 0 → (∀ b o, q.heap.get? b = some o → h'.get? b = some o) → Q (.ref (q.heap.objs.size + 1)) { q with heap := h' }) :
    wpAny (model prog w) A (call (.type "enumerate") [.ref t]) Q E q := by
  obtain ⟨⟨c, dct, dt, sl⟩, ht, hc, n, hd⟩ := tT
  replace hd : dt = .seq items n := hd
  subst hd
  refine callType_new F.called_enumerate (by decide) (F.typeCall_enumerate_1 _) (F.newCall_enumerate_1 _) (fun obj => F.args_object_init_2 obj _) F.entry_enumerate_new (meets_enumT t items n c dct sl hc) ⟨ht, ?_⟩
  generalize hh1 : q.heap.push { cls := .type "tuple_iterator", data := .fields #[.ref t, .int 0 0] } = h1
  have sz : h1.objs.size = q.heap.objs.size + 1 := by rw [← hh1]; exact Heap.size_push ..
  have g1 : h1.get? q.heap.objs.size = some { cls := .type "tuple_iterator", data := .fields #[.ref t, .int 0 0] } := by rw [← hh1]; exact Heap.get?_push_size _ rfl
  have ge : IsEnum (h1.push { cls := .type "enumerate", data := .fields #[.none, .bool false, .ref q.heap.objs.size, rawInt 0, .none, .none] }) (q.heap.objs.size + 1) q.heap.objs.size 0 .none := by
    have := Heap.get?_push_size h1 (o := { cls := .type "enumerate", data := .fields #[.none, .bool false, .ref q.heap.objs.size, rawInt 0, .none, .none] }) rfl
    rw [sz] at this; exact this
  show _ ∧ _
  rw [sz]
  exact ⟨⟨_, ge, rfl⟩, h _ ge ⟨_, Heap.get?_push_of_some _ g1, rfl, rfl⟩ fun b o x => Heap.get?_push_of_some _ (by rw [← hh1]; exact Heap.get?_push_of_some _ x)⟩
/-- the tuple at a, its items in new pairs with their places -/
def IteT (K : PySem.W.Frag) (a : Addr) : It :=
  ⟨fun i H => ∃ (xs : List V) (x : V), SqT K H a xs ∧ xs[i]? = some x, fun i H v H' => ∃ T x, v = .ref T ∧ H T = none ∧ H' = upd H T (.tup [.int (i : Nat), x]) ∧ ∀ xs, SqT K H a xs → xs[i]? = some x, fun i H => ∃ xs : List V, SqT K H a xs ∧ xs.length ≤ i⟩
theorem turn_enumT {P : Program} {w : World} {K : PySem.W.Frag} {elts : List Expr} {kk : Nat} {tpos : Pos} (a e it : Addr) :
    Turn P w K (.Tuple elts kk tpos) (IteT K a) [e, it] e (fun i h => ((∃ old, IsEnum h e it ((i : Nat) : Int) old) ∧ h.IsTupleIter it a i) ∧ e ≠ it ∧ a ≠ it ∧ e ≠ a) where
  mem := by simp
  obj := fun i h st b hb => by
    obtain ⟨⟨⟨old, ge⟩, o, ho, hc, hd⟩, _⟩ := st
    have z : b = e ∨ b = it := by simpa using hb
    rcases z with rfl | rfl
    · exact ⟨_, ge, fun v z => nomatch z⟩
    · exact ⟨o, ho, fun v z => by rw [hd] at z; cases z⟩
  keep := fun i h h' st k => ⟨⟨st.1.1.imp fun old ge => k e (by simp) _ ge, st.1.2.at fun o z => k it (by simp) o z⟩, st.2⟩
  item := by
    intro X e1 e2 e3 hc i pins s σ H E I hf st hg
    subst e1 e2 e3
    obtain ⟨⟨⟨old, ge⟩, hit⟩, ne, na, nea⟩ := st
    obtain ⟨xs, x, hq, hx⟩ := hg
    obtain ⟨its, rv, tp, hz⟩ := I.tuple hq
    obtain ⟨u, hu, ru⟩ := rv.get hx
    have le : e < s.heap.objs.size := Heap.lt_size ge
    have li : it < s.heap.objs.size := by obtain ⟨_, z, _⟩ := hit; exact Heap.lt_size z
    have D := Draws.tuple (prog := X.prog) (w := X.w) (A := X.A.in1) (I.ok.hd hc) it a na its.toArray
    have lt : i < its.toArray.size := by
      have := (List.getElem?_eq_some_iff.mp hu).1
      simpa using this
    refine wpAny_pyNext_enum_itemD D ge ⟨hit, tp⟩ lt ne (by simp [ne, nea]) fun y h' tk hy ho hst hT hsz hk => ?_
    have hy' : y = u := by
      have z1 : its[i]? = some y := by simpa using hy
      rw [hu] at z1
      exact (Option.some.inj z1).symm
    subst hy'
    refine ⟨_, rfl, wpAny_letOwnedTupleGo_enum (s := { s with heap := h', toks := tk + 1 }) ho fun h2 ge2 sb => ?_⟩
    have hT2 : h2.get? s.heap.objs.size = some { cls := .type "tuple", data := .seq #[.int i tk, y] } := (sb.2 _ (Nat.ne_of_gt le)).trans hT
    have new : ObjOk X.prog X.w (upd H s.heap.objs.size (.tup [.int (i : Nat), x])) h2 s.heap.objs.size (.tup [.int (i : Nat), x]) :=
      ⟨by show 2 ≤ sizeLine; decide, [.int i tk, y], .cons ⟨_, rfl⟩ (.cons ru .nil), ⟨_, hT2, rfl, _, rfl⟩⟩
    have I1 : Inv X pins σ (upd H s.heap.objs.size (.tup [.int (i : Nat), x])) { s with heap := h2, toks := tk + 1 } :=
      I.turnedNew (ch := [e, it]) (fun b ob hb z => (sb.2 b (fun y => hb (by simp [y]))).trans (hk b ob (fun y => hb (by simp [y])) (fun y => hb (by simp [y])) z)) hf (Nat.le_refl _) new
    refine ⟨.ref s.heap.objs.size, _, I1, rfl, ⟨_, x, rfl, I.hok.fresh (Nat.le_refl _), rfl, fun ys hys => by rw [I.tuple_inj hys hq]; exact hx⟩, ⟨⟨⟨y, ?_⟩, hst.1.at fun o z => (sb.2 it (Ne.symm ne)).trans z⟩, ne, na, nea⟩, fun b hb => ?_⟩
    · rw [show ((i + 1 : Nat) : Int) = (i : Int) + 1 by omega]; exact ge2
    · have lb : b < s.heap.objs.size := by
        have z : b = e ∨ b = it := by simpa using hb
        rcases z with rfl | rfl
        · exact le
        · exact li
      rw [upd_ne (Nat.ne_of_lt lb)]
      exact (hf b hb).1
  done := by
    intro X e1 e2 e3 hc i pins s σ H E I hf st hg
    subst e1 e2 e3
    obtain ⟨⟨⟨old, ge⟩, hit⟩, ne, na, nea⟩ := st
    obtain ⟨xs, hq, hx⟩ := hg
    obtain ⟨its, rv, tp, hz⟩ := I.tuple hq
    obtain ⟨f0, f1, f2, f3, f4, f5⟩ := hf it (by simp)
    have hl := rv.length
    unfold pyNext
    have hT : s.TypeIs (.ref e) "enumerate" := ⟨_, ge, rfl⟩
    refine wpAny_bind (wpAny_attempt (wpAny_callSpecial?_slot (name := Str.ofString "__next__") hT F.slot_enumerate_next (wpAny_call_entry F.slot_enumerate_next hT F.entry_enumerate_next ?_ (F.args_enumerate_next_1 _))))
    show wpAny _ _ (field (.ref e) 2 >>= _) _ _ _
    refine wpAny_bind (wpAny_field ge rfl (x := .ref it) rfl ?_)
    refine wpAny_bind (wpAny_nextOf_tuple_end (I.ok.hd hc) hit tp (i := i) (by simp; omega) fun h' x he' hx' => ?_)
    obtain ⟨o, ho, hcx⟩ := hx'
    refine wpAny_bind (wpAny_isInstance (T := "StopIteration") (b := true) ⟨o, ho, hcx⟩ isSubtype_stop ?_)
    exact wpAny_pure ⟨rfl, I.turned (t' := s.toks) (fun b o hb z => he' b o hb z) f0 f1 f3 f4 f5⟩
  self := fun A i s Q E st h => by
    obtain ⟨⟨⟨old, ge⟩, _⟩, _⟩ := st
    exact wpAny_pyIter_enum ge h
def iEnumA (K : PySem.W.Frag) (ta : TA) : TI := fun σ H R => ta σ H fun vs H1 => ∃ a xs, vs = [V.ref a] ∧ ((SqL K H1 a xs ∧ R (Ite K a) H1) ∨ (SqT K H1 a xs ∧ R (IteT K a) H1))
theorem pi_enumA {X : Cx} {e : Expr} {ta : TA} {p pos tpos : Pos} {elts : List Expr} {kk : Nat} (hg : Gl X "enumerate") (hm : X.mg "enumerate" = none) (ha : PA X [e] ta) (hs : starEach [e] X.env = [(false, eval e X.env)] := by rfl) :
    PI X (.Tuple elts kk tpos) (.Call (.Name "enumerate" p) [e] [] pos) (iEnumA X.K ta) := by
  refine ⟨fun pins s σ H Rr I h => ?_⟩
  refine Call_ (ld_blt I hg hm boot_enumerate (PyProof.Rows.callWith_type1 (thn (ha.run pos pins s σ H _ I h) fun us s1 ⟨vs, H1, I1, r1, qq⟩ => ?_) hs rfl))
  obtain ⟨a, xs, ex, qq⟩ := qq
  subst ex
  cases r1 with
  | cons r rr =>
    cases rr
    cases r
    have fresh2 : ∀ b, b ∈ [s1.heap.objs.size + 1, s1.heap.objs.size] → FpOk X pins H1 b := fun b hb => by
      have le : s1.heap.objs.size ≤ b := by
        have z : b = s1.heap.objs.size + 1 ∨ b = s1.heap.objs.size := by simpa using hb
        rcases z with rfl | rfl <;> omega
      exact I1.fpOk le (I1.hok.fresh le)
    rcases qq with ⟨hq, qq⟩ | ⟨hq, qq⟩
    · obtain ⟨its, rv, lp, hz⟩ := I1.list hq
      refine call_enumerate_list lp.isList fun h' he hit hsz hk => wpAny_pyIter_enum he ?_
      exact ⟨s1.heap.objs.size + 1, [s1.heap.objs.size + 1, s1.heap.objs.size], _, _, H1, rfl, I1.kept (t' := s1.toks) hk, turn_enum a (s1.heap.objs.size + 1) s1.heap.objs.size, ⟨⟨.none, he⟩, hit, Nat.succ_ne_self _⟩, fresh2, qq⟩
    · obtain ⟨its, rv, tp, hz⟩ := I1.tuple hq
      obtain ⟨o, ho, _⟩ := id tp
      have la : a < s1.heap.objs.size := Heap.lt_size ho
      refine call_enumT (show s1.heap.IsTuple a its.toArray from tp) fun h' he hit hk => wpAny_pyIter_enum he ?_
      exact ⟨s1.heap.objs.size + 1, [s1.heap.objs.size + 1, s1.heap.objs.size], _, _, H1, rfl, I1.kept (t' := s1.toks) hk, turn_enumT a (s1.heap.objs.size + 1) s1.heap.objs.size, ⟨⟨⟨.none, he⟩, hit⟩, Nat.succ_ne_self _, Nat.ne_of_lt la, Nat.ne_of_gt (Nat.lt_succ_of_lt la)⟩, fresh2, qq⟩
/-- each item with its place -/
def enumD : List D → Option (List D)
  | [.lst xs] => some (xs.zipIdx.map fun p => .tup [.int (p.2 : Nat), p.1])
  | [.tup xs] => some (xs.zipIdx.map fun p => .tup [.int (p.2 : Nat), p.1])
  | _ => none
@[simp] def iEn (a : FA) : FI := fun ρ g => (a ρ g).bd fun xs g1 => lift (enumD xs) g1
theorem enum_at {xs : List D} {i : Nat} {d : D} (h : (xs.zipIdx.map fun p => D.tup [.int (p.2 : Nat), p.1])[i]? = some d) : ∃ x, xs[i]? = some x ∧ d = .tup [.int (i : Nat), x] := by
  rw [List.getElem?_map, Option.map_eq_some_iff] at h
  obtain ⟨⟨x, j⟩, h1, rfl⟩ := h
  rw [List.getElem?_zipIdx, Option.map_eq_some_iff] at h1
  obtain ⟨y, h2, h3⟩ := h1
  cases h3
  exact ⟨x, h2, by simp⟩
section
variable {X : Cx} {ah : Option Addr} {E : L2.St → XK} {c : DC}
theorem pfi_enum {e : Expr} {f : FA} {p pos tpos : Pos} {elts : List Expr} {kk : Nat} (hm : X.mg "enumerate" = none) (ha : PFA X ah E [e] f) (hg : Gl X "enumerate" := by rfl)
    (hs : starEach [e] X.env = [(false, eval e X.env)] := by rfl) : PFI X ah E (.Tuple elts kk tpos) (.Call (.Name "enumerate" p) [e] [] pos) (iEn f) := by
  obtain ⟨t, q, r⟩ := ha
  refine ⟨_, pi_enumA hg hm q hs, ?_⟩
  refine RG.bind (rel' := rI) (r := fun σ vs H1 (R : It → Hp → Prop) => ∃ a xs, vs = [V.ref a] ∧ ((SqL X.K H1 a xs ∧ R (Ite X.K a) H1) ∨ (SqT X.K H1 a xs ∧ R (IteT X.K a) H1))) (k := fun ρ xs g1 => lift (enumD xs) g1) r fun F ρ g σ H S Q x d e R hx G => ?_
  have e0 := e
  unfold enumD at G
  split at G
  · rename_i xs
    obtain ⟨v, rfl, hv⟩ := hx.one
    cases hv with
    | lst h1 s1 =>
    rename_i a vs
    refine ⟨a, vs, rfl, .inl ⟨SqL.of (R.sub _ _ h1), G.ret R ?_⟩⟩
    show WalkOf F.c _ _ _
    rw [e]
    refine ⟨fun F' ρ g σ H S1 e' sm R => ?_, fun F' ρ g σ H S1 i d e' sm R hd => ?_⟩
    · refine ⟨vs, SqL.of (R.sub _ _ (sm _ _ h1)), ?_⟩
      have l1 := s1.length
      simp
      omega
    · obtain ⟨dx, g1, rfl⟩ := enum_at hd
      obtain ⟨vx, k1, n1⟩ := s1.get g1
      have a1 : SqL X.K H a vs := SqL.of (R.sub _ _ (sm _ _ h1))
      refine ⟨⟨vs, vx, a1, k1⟩, fun x H' y => ?_⟩
      obtain ⟨T, x', rfl, nT, rfl, f1⟩ := y
      have := f1 vs a1
      rw [k1] at this; cases this
      have st := R.tosame (.tup [.int (i : Nat), vx]) nT
      exact ⟨_, st, R.up _ nT, .tup (SqT.of upd_same) (.cons (.int _) (.cons ((n1.mono sm).mono st) .nil))⟩
  · rename_i xs
    obtain ⟨v, rfl, hv⟩ := hx.one
    cases hv with
    | tup h1 s1 =>
    rename_i a vs
    refine ⟨a, vs, rfl, .inr ⟨Same.tup R.sub h1, G.ret R ?_⟩⟩
    show WalkOf F.c _ _ _
    rw [e]
    refine ⟨fun F' ρ g σ H S1 e' sm R => ?_, fun F' ρ g σ H S1 i d e' sm R hd => ?_⟩
    · refine ⟨vs, Same.tup R.sub (Same.tup sm h1), ?_⟩
      have l1 := s1.length
      simp
      omega
    · obtain ⟨dx, g1, rfl⟩ := enum_at hd
      obtain ⟨vx, k1, n1⟩ := s1.get g1
      have a1 : SqT X.K H a vs := Same.tup R.sub (Same.tup sm h1)
      refine ⟨⟨vs, vx, a1, k1⟩, fun x H' y => ?_⟩
      obtain ⟨T, x', rfl, nT, rfl, f1⟩ := y
      have := f1 vs a1
      rw [k1] at this; cases this
      have st := R.tosame (.tup [.int (i : Nat), vx]) nT
      exact ⟨_, st, R.up _ nT, .tup (SqT.of upd_same) (.cons (.int _) (.cons ((n1.mono sm).mono st) .nil))⟩
  · exact G.elim
/-! ### what is never come to -/
theorem pf_dead {e : Expr} : PF X ah E e (fun _ _ => none) := ⟨fun _ _ _ => False, ⟨fun _ _ _ _ _ _ h => h.elim⟩, ⟨fun F ρ g σ H S Q e R G => G.elim⟩⟩
end
end FD
set_option Elab.async false
set_option linter.all false
set_option maxRecDepth 100000
set_option maxHeartbeats 2000000
namespace FD
open PySem PySem.Spec PyProof.Rows L2
/-! # ranges as values -/
section
variable {X : Cx} {ah : Option Addr} {c : DC}
theorem cr_range1 : CallR X (.type "range") (fun vs H Q => ∃ j, vs = [V.int j] ∧ ∀ p, H p = none → Q (.ref p) (upd H p (.rng 0 j))) := by
  intro pins s σ H vs us Q I r h
  obtain ⟨j, rfl, q⟩ := h
  obtain ⟨u1, rfl, t, rfl⟩ := vals1 r
  refine call_range_1 ⟨.ref s.heap.objs.size, upd H s.heap.objs.size (.rng 0 j), I.laid (t' := s.toks + 1 + 1) (fun b o e => Heap.get?_push_of_some _ e) (Nat.le_refl _) ?_, rfl, q _ (I.hok.fresh (Nat.le_refl _))⟩
  exact ⟨s.toks, t, s.toks + 1, Heap.get?_push_size _ rfl⟩
def rngV : List D → Option D
  | [.int j] => some (.rng 0 j)
  | _ => none
theorem cs_range1 : CallS c (fun vs H Q => ∃ j, vs = [V.int j] ∧ ∀ p, H p = none → Q (.ref p) (upd H p (.rng 0 j))) rngV := by
  intro E F ρ g σ H S Q vs ds e R hx G
  subst e
  unfold rngV at G
  split at G
  · obtain ⟨v, rfl, hv⟩ := hx.one
    cases hv.intE
    exact ⟨_, rfl, fun p hp => G.new R hp (.rng upd_same)⟩
  · exact G.elim
/-- the numbers of a range that stands -/
noncomputable def rngOf : D → Option (List D)
  | .rng i j => if ck (-(2 ^ 62) ≤ i ∧ i < 2 ^ 62 ∧ -(2 ^ 62) ≤ j ∧ j < 2 ^ 62) = true then some (rngD i (j - i).toNat) else none
  | _ => none
@[simp] noncomputable def iRv (a : FE) : FI := fun ρ g => (a ρ g).bd fun x g1 => lift (rngOf x) g1
def iRngV (te : TE) : TI := fun σ H R => te σ H fun x H1 => ∃ a i j, x = V.ref a ∧ H1 a = some (.rng i j) ∧ (-(2 ^ 62) ≤ i ∧ i < 2 ^ 62 ∧ -(2 ^ 62) ≤ j ∧ j < 2 ^ 62) ∧ R (Itr i (j - i).toNat) H1
theorem pi_rngV {tg e : Expr} {te : TE} (he : PE X e te) : PI X tg e (iRngV te) := by
  refine ⟨fun pins s σ H R I h => ?_⟩
  refine thn (he.run pins s σ H _ I h) fun v s1 ⟨x, H1, I1, rx, a, i, j, ex, ha, ⟨b1, b2, b3, b4⟩, q⟩ => ?_
  subst ex
  cases rx
  obtain ⟨t, u, v, ga⟩ := (show ObjOk X.prog X.w H1 s1.heap a (.rng i j) from I1.hok a _ ha)
  refine wpAny_pyIter_range (show IsRange s1.heap a i j 1 t u v from ga) (small_one b1 b2 b3 b4) ?_
  refine ⟨s1.heap.objs.size, [s1.heap.objs.size], _, _, H1, rfl, I1.kept (t' := s1.toks) fun b o e => Heap.get?_push_of_some _ e, turn_range _ i (j - i).toNat, ?_, fun b hb => ?_, q⟩
  · have e1 : i + ((0 : Nat) : Int) * 1 = i := by simp
    have e2 : (((j - i).toNat : Nat) : Int) - ((0 : Nat) : Int) = Builtin.Range.rangeSize i j 1 := by rw [rangeSize_one]; split <;> omega
    show IsRangeIter _ _ (i + ((0 : Nat) : Int) * 1) ((((j - i).toNat : Nat) : Int) - ((0 : Nat) : Int)) 1
    rw [e1, e2]
    exact Heap.get?_push_size _ rfl
  · have z : b = s1.heap.objs.size := by simpa using hb
    subst z
    exact I1.fpOk (Nat.le_refl _) (I1.hok.fresh (Nat.le_refl _))
theorem pfi_rngV {E : L2.St → XK} {tg e : Expr} {a : FE} (ha : PF X ah E e a) : PFI X ah E tg e (iRv a) := by
  obtain ⟨t, q, r⟩ := ha
  refine ⟨_, pi_rngV q, ?_⟩
  refine RG.bind (r := fun σ x H1 (R : It → Hp → Prop) => ∃ a i j, x = V.ref a ∧ H1 a = some (.rng i j) ∧ (-(2 ^ 62) ≤ i ∧ i < 2 ^ 62 ∧ -(2 ^ 62) ≤ j ∧ j < 2 ^ 62) ∧ R (Itr i (j - i).toNat) H1) (k := fun ρ x g1 => lift (rngOf x) g1) r fun F ρ g σ H S Q x d e R hx G => ?_
  unfold rngOf at G
  split at G
  · rename_i i j
    cases hx with
    | rng h =>
      by_cases hb : ck (-(2 ^ 62) ≤ i ∧ i < 2 ^ 62 ∧ -(2 ^ 62) ≤ j ∧ j < 2 ^ 62) = true
      · rw [if_pos hb] at G
        exact ⟨_, i, j, rfl, R.sub _ _ h, of_ck hb, G.ret R (walk_rng i _)⟩
      · rw [if_neg hb] at G; exact G.elim
  · exact G.elim
theorem pf_rng1 {E : L2.St → XK} {e : Expr} {a : FA} {p pos : Pos} (hm : X.mg "range" = none) (ha : PFA X ah E [e] a) (hg : Gl X "range" := by rfl) (he : starEach [e] X.env = (false, eval e X.env) :: starEach [] X.env := by rfl)
    (hpl : (backTo pos (starEach [] X.env)).any (·.1) = false := by rfl) : PF X ah E (.Call (.Name "range" p) [e] [] pos) (cCall rngV a) :=
  pf_callTy cr_range1 cs_range1 hm (by decide +kernel) ha hg (by decide) (by decide) he hpl
end
end FD
set_option Elab.async false
set_option linter.all false
set_option maxRecDepth 100000
set_option maxHeartbeats 2000000
namespace FD
open PySem PySem.Spec PyProof.Rows L2
/-! # A law whose body asks that nothing is being shown: the call from outside alone -/
/-- what a def's body does where nothing is being shown -/
def BodyG (P : Program) (w : World) (K : PySem.W.Frag) (mg : Str → Option Value) (base : Heap) (N : List Str) (x : Str) (st : Stmt) (k : Nat) (f : Addr) (sp : Sp) : Prop :=
  ∀ (cdv : Value) (A : Around) (outer : List Env) (s : Shared) (H : Hp) (vs : List V) (Q : VK) (E : XK), A.guards = some [] → Room k (A.deeper (envOfC x (defScope st) s.heap.objs.size f cdv)) → sp vs H Q E →
    ∃ t, PSs (cxOf CX0 P w K mg base N x (defScope st) f cdv A outer s H E) (defBody st) t ∧ t { nx := fun _ H' => Q .non H', rt := Q } (start N vs) H
theorem bodyG_call {P : Program} {w : World} {K : PySem.W.Frag} {mg : Str → Option Value} {base : Heap} {x : Str} {st : Stmt} {f : Addr} {fd : FuncData} {N ps : List Str} {k : Nat} {sp : Sp} (F : Fun K x x st f fd) (Sc : FnScope N ps (defScope st))
    (B : BodyG P w K mg base N x st k f sp) {A : Around} {outer : List Env} {s : Shared} {H : Hp} {args : Args} {us : List Value} {vs : List V} {Q : VK} {E : XK} (hgd : A.guards = some []) (hr : Room (k + 1) A) (ev : Env0 P w K mg base A outer s H) (hb : BindsTo s fd args (ps.zip us)) (rv : Vals vs us) (hl : vs.length = ps.length) (hsp : sp vs H Q E) :
    codeAny (model P w) A (.call (.ref f) args) (CR CX0 outer P w H s Q E) s := by
  obtain ⟨oc, od, kV, doc, pm, an, cdv, ct, osl, rfl, lk, hcd⟩ := F.ex
  have inK : K.In s.heap := ev.mod.kin.keeps fun b o z => (ev.bs b o z).1
  have nolim : s.heap.NoLimit := ev.mod.nolimit.keeps fun b o z => (ev.bs b o z).1
  have kinds : ∀ y ∈ ps.zip us, (defScope st).names.lookup y.1 = some .local ∨ ((defScope st).names.lookup y.1 = some .cell ∧ ((cellsFrom (s.heap.objs.size + 1) (defScope st).names []).lookup y.1).isSome = true) := fun y hy => by
    obtain ⟨m, v⟩ := y
    rcases Sc.par m (List.of_mem_zip hy).1 with z | z
    · exact .inl z
    · exact .inr ⟨z, PySem.W.cellsFrom_some _ _ _ (.inl z)⟩
  refine codeAny_call_function hr.depth (inK _ _ lk) rfl Sc.co Sc.gen rfl (PySem.W.codeRec_of inK hcd) (hb _ _ _ _ ?_)
  refine wpAny_newFunctionEnv_cells Sc.kind kinds fun env ee s1 ic => ?_
  subst ee
  refine ⟨nolim.keeps ic.toInCall.keep, codeAny_func ?_⟩
  obtain ⟨t, pt, tq⟩ := B cdv A outer s H vs Q E hgd (hr.deeper _) hsp
  have I0 : Inv (cxOf CX0 P w K mg base N x (defScope st) f cdv A outer s H E) [] (start N vs) H s1 := inv_start Sc hr.hd ev hl rv ic
  refine wpAny_mono (pt.run [] s1 (start N vs) H _ I0 tq) (fun fl s' z => ?_) fun e s' z => z
  cases fl with
  | ret u =>
    obtain ⟨v, σ', H', J, r1, q⟩ := z
    exact ⟨v, H', J.os, J.bare, J.base, J.hok, r1, q⟩
  | next =>
    obtain ⟨σ', H', J, q⟩ := z
    exact ⟨V.non, H', J.os, J.bare, J.base, J.hok, rfl, q⟩
  | brk =>
    obtain ⟨_, _, _, q⟩ := z
    exact q.elim
  | cont =>
    obtain ⟨_, _, _, q⟩ := z
    exact q.elim
/-- the heap at the call from outside: at most the script is tracked -/
theorem outside {P : Program} {w : World} {K : PySem.W.Frag} {mg mb : Str → Option Value} {a : Addr} {s₁ : Shared} {vs : List Value} {ns : List Int} (KX : K.In s₁.heap) (hns : s₁.heap.Ns mainGlobals mg) (hb : s₁.heap.Ns builtinsNs mb) (hbb : ∀ x : Str, x ≠ "__name__" → mb x = bootBuiltins x) (hlim : s₁.heap.NoLimit) (hg : s₁.gens = #[])
    (ha : s₁.heap.get? a = some { cls := .type "list", data := .seq vs.toArray }) (hi : IntsAre vs ns) (hl : ns.length ≤ sizeLine) :
    ∃ (H : Hp) (base : Heap), Only H ∧ SqL K H a (ns.map V.int) ∧ K.In base ∧ base.Ns mainGlobals mg ∧ Env0 P w K mg base callerA [] s₁ H := by
  have rv := vals_ints hi
  have lenV := hi.length
  have make : ∀ H : Hp, Only H → SqL K H a (ns.map V.int) → HOk P w H s₁.heap → (∀ b, H b ≠ none → b = a) → (H a ≠ none → K.lookup a = none) → ∃ (H : Hp) (base : Heap), Only H ∧ SqL K H a (ns.map V.int) ∧ K.In base ∧ base.Ns mainGlobals mg ∧ Env0 P w K mg base callerA [] s₁ H := fun H hO hS ok only notK => by
    have stay : ∀ {b : Addr} {o : Obj} {es : Array DictEntry} {ep : Nat}, s₁.heap.get? b = some o → o.data = .dict es ep → (hidT s₁.heap H).get? b = some o := fun {b o es ep} z dt => by
      refine hidT_get z ?_
      cases hz : H b with
      | none => rfl
      | some u =>
        have hb : b = a := only b (by rw [hz]; exact Option.some_ne_none _)
        rw [hb, ha] at z
        cases z
        cases dt
    have space : ∀ {b : Addr} {m : Str → Option Value}, s₁.heap.Ns b m → (hidT s₁.heap H).Ns b m := fun {b m} ⟨o, es, ep, z, dt, rest⟩ => ⟨o, es, ep, stay z dt, dt, rest⟩
    have inB : K.In (hidT s₁.heap H) := fun b o z => by
      refine hidT_get (KX b o z) ?_
      cases hz : H b with
      | none => rfl
      | some u =>
        have hb : b = a := only b (by rw [hz]; exact Option.some_ne_none _)
        subst hb
        rw [notK (by rw [hz]; exact Option.some_ne_none _)] at z
        cases z
    refine ⟨H, hidT s₁.heap H, hO, hS, inB, space hns, ⟨rfl, ⟨inB, space hns, ⟨mb, space hb, hbb⟩, ?_⟩, fun b o z => of_hidT z, Nat.le_of_eq (hidT_size _ _), trivial, fun b z => ?_, ok, .of_eq hg⟩⟩
    · obtain ⟨mc, n1, n2⟩ := hlim
      exact ⟨mc, space n1, n2⟩
    · exact absurd (show b ∈ ([] : List Addr) from z) List.not_mem_nil
  cases hk : K.lookup a with
  | some o =>
    have z := KX a o hk
    rw [ha] at z
    cases z
    exact make (fun _ => none) (fun _ => .inl rfl) (.inr ⟨_, vs.toArray, _, hk, rfl, rfl, rfl, by rw [List.size_toArray, lenV]; exact hl, by simpa using rv⟩) (fun b u z => nomatch (show (none : Option HO) = some u from z)) (fun b z => absurd rfl z) fun z => absurd rfl z
  | none =>
    have same : ∀ b u, (if b = a then some (HO.frz { cls := .type "list", data := .seq vs.toArray } (.lst (ns.map V.int))) else none) = some u → b = a ∧ u = HO.frz { cls := .type "list", data := .seq vs.toArray } (.lst (ns.map V.int)) := fun b u z => by
      by_cases hb : b = a
      · rw [if_pos hb] at z; exact ⟨hb, (Option.some.inj z).symm⟩
      · rw [if_neg hb] at z; cases z
    refine make (fun b => if b = a then some (.frz { cls := .type "list", data := .seq vs.toArray } (.lst (ns.map V.int))) else none) (fun b => ?_) (.inl (.inr ⟨_, if_pos rfl⟩)) (fun b u z => ?_) (fun b z => ?_) fun _ => hk
    · by_cases hb : b = a
      · exact .inr ⟨_, _, if_pos hb⟩
      · exact .inl (if_neg hb)
    · obtain ⟨rfl, rfl⟩ := same b u z
      exact ⟨ha, by rw [List.length_map]; exact hl, vs, _, rv, ha⟩
    · cases hz : (if b = a then some (HO.frz { cls := .type "list", data := .seq vs.toArray } (.lst (ns.map V.int))) else none) with
      | none => exact absurd hz z
      | some u => exact (same b u hz).1
theorem walk_G {l : PySem.W.OpenLaw} {n k : Nat} {q : Program} {loose : List Str} {XP : (Str → Option Value) → Heap → Prop} {YP : World → Heap → Prop} {d : DefRec} {x : Str} (hn : l.most = some n) (hn2 : n ≤ sizeLine) (hdf : d.params.defaults = []) (hr : Room (k + 1) callerA)
    (F : ∀ (w : World) (mg : Str → Option Value) (fa : Addr) (h : Heap), YP w h → h.Ns mainGlobals mg → mg d.name = some (.ref fa) →
      ∃ (K : PySem.W.Frag) (y : Str) (st : Stmt) (fd : FuncData) (N : List Str) (sp : Sp), K.In h ∧ Fun K y y st fa fd ∧ FnScope N [x] (defScope st) ∧ (∀ (s : Shared) (u : Value), BindsTo s fd ⟨[u], []⟩ [(x, u)]) ∧
        (∀ (H : Hp) (a : Addr) (ns : List Int), ns.length ≤ n → SqL K H a (ns.map V.int) → sp [.ref a] H (fun v _ => v = .bl true) fun _ _ _ => False) ∧
        ∀ base : Heap, K.In base → base.Ns mainGlobals mg → BodyG l.prog w K mg base N y st k fa sp) :
    PySem.W.WalkO q loose XP YP l.row.toRowW d [] (fun f vs => PySem.call f vs) := by
  refine Att.attach_call hn hdf fun w s₀ s₁ mg mb fa o pm cd doc a vs ns G Y ho hd hcd hmg hobj hints hlen hg => ?_
  obtain ⟨K, y, st, fd, N, sp, KX, Fu, Sc, hb, hsp, hB⟩ := F w mg fa _ Y G.T.g hmg
  obtain ⟨H, base, hO, hS, inB, nsB, ev⟩ := outside (P := l.prog) (w := w) KX G.T.g G.T.b G.T.builtins G.T.nolimit hg hobj hints (Nat.le_trans hlen hn2)
  refine codeAny_mono (bodyG_call Fu Sc (hB base inB nsB) (args := ⟨[.ref a], []⟩) (us := [.ref a]) (vs := [V.ref a]) rfl hr ev (hb s₁ (.ref a)) (.cons (show L2.RelV (V.ref a) (Value.ref a) from rfl) .nil) rfl (hsp H a ns hlen hS)) fun r s' z => ?_
  cases r with
  | error e => exact False.elim z
  | ok fl =>
    cases fl with
    | next => exact False.elim z
    | brk => exact False.elim z
    | cont => exact False.elim z
    | ret u =>
      obtain ⟨v, H', os, bare, un, ok', rv, qv⟩ := z
      have ev2 : v = .bl true := qv
      subst ev2
      cases (show u = Value.bool true from rv)
      refine ⟨rfl, OldK.of_keep fun b o zb => ?_, os, bare⟩
      rcases hO b with hz | ⟨ob, xs, hz⟩
      · exact un.keep b o zb hz (fun m => absurd (show b ∈ ([] : List Addr) from m) List.not_mem_nil) (fun m => absurd m List.not_mem_nil)
      · obtain ⟨e1, _⟩ := ev.hok b _ hz
        obtain ⟨e2, _⟩ := ok' b _ (un.frzs b ob _ hz)
        rw [zb] at e1
        cases e1
        exact e2
end FD
set_option Elab.async false
set_option linter.all false
set_option maxRecDepth 100000
set_option maxHeartbeats 2000000
namespace FD
open PySem PySem.Spec PyProof.Rows L2
/-! # repr(d) of data, where nothing is being shown -/
section
variable {X : Cx} {ah : Option Addr} {c : DC}
abbrev rReprD (K : PySem.W.Frag) : List V → Hp → VK → Prop := fun xs H Q => ∃ v p, xs = [v] ∧ Dp K H v p ∧ SeqAt.shaped p = true ∧ p.showable = true ∧ p.shown.length ≤ sizeLine ∧ Q (.str p.shown) H
theorem call_reprD (hg : X.A.guards = some []) (hu : X.A.units + 66 < cLine) : CallR X (.builtin "repr") (rReprD X.K) := by
  intro pins s σ H xs us Q I r h
  obtain ⟨v, p, rfl, hd, hs, hw, hz, q⟩ := h
  obtain ⟨u, rfl, ru⟩ := vals1 r
  have dep := SeqAt.depth_of_shaped hs
  have nod := PyData.hasDict_of_canLay p (SeqAt.canLay_of_shaped hs)
  obtain ⟨as, rd⟩ := Dp.reads I p v u hd ru
  cases hd with
  | non => cases ru; exact PySem.P.repr_of_none ⟨.str _, H, I.tok _, ⟨_, rfl⟩, q⟩
  | bl b => cases ru; exact PySem.P.repr_of_bool ⟨.str _, H, I.tok _, ⟨_, rfl⟩, q⟩
  | int i =>
    obtain ⟨t, rfl⟩ := ru
    exact PySem.P.repr_of_int (of_decide_eq_true hw) ⟨.str _, H, I.tok _, ⟨_, rfl⟩, q⟩
  | str x =>
    obtain ⟨t, rfl⟩ := ru
    exact PySem.P.repr_of_str ⟨.str _, H, I.tok _, ⟨_, rfl⟩, q⟩ hz
  | lst h hs' =>
    cases ru
    exact repr_of_reads' rd hw (PyData.noDict_hsm nod) hg (by omega) (fun _ _ z => z) (fun h' u tk hk => ⟨.str _, H, I.kept (t' := tk) hk, ⟨_, rfl⟩, q⟩) hz
  | tup h hs' =>
    cases ru
    exact repr_of_reads' rd hw (PyData.noDict_hsm nod) hg (by omega) (fun _ _ z => z) (fun h' u tk hk => ⟨.str _, H, I.kept (t' := tk) hk, ⟨_, rfl⟩, q⟩) hz
noncomputable def reprD : List D → Option D
  | [d] => match d.py with
    | some p => if ck (SeqAt.shaped p = true ∧ p.showable = true ∧ p.shown.length ≤ sizeLine) = true then some (.str p.shown) else none
    | none => none
  | _ => none
theorem cs_repr : CallS c (rReprD c.K) reprD := by
  intro E F ρ g σ H S Q vs ds e R hx G
  subst e
  unfold reprD at G
  split at G
  · rename_i d
    split at G
    · rename_i p hp
      obtain ⟨v, rfl, hv⟩ := hx.one
      by_cases hb : ck (SeqAt.shaped p = true ∧ p.showable = true ∧ p.shown.length ≤ sizeLine) = true
      · rw [if_pos hb] at G
        obtain ⟨b1, b2, b3⟩ := of_ck hb
        exact ⟨v, p, rfl, Dp.mono R.sub (hv.py hp), b1, b2, b3, G.ret R (.str _)⟩
      · rw [if_neg hb] at G; exact G.elim
    · exact G.elim
  · exact G.elim
theorem pf_repr {E : L2.St → XK} {e : Expr} {a : FA} {p pos : Pos} (hgd : X.A.guards = some []) (hu : X.A.units + 66 < cLine) (hm : X.mg "repr" = none) (ha : PFA X ah E [e] a) (hg : Gl X "repr" := by rfl)
    (he : starEach [e] X.env = (false, eval e X.env) :: starEach [] X.env := by rfl) (hpl : (backTo pos (starEach [] X.env)).any (·.1) = false := by rfl) : PF X ah E (.Call (.Name "repr" p) [e] [] pos) (cCall reprD a) :=
  pf_callB (call_reprD hgd hu) cs_repr hm (by decide +kernel) ha hg (by decide) (by decide) he hpl
end
/-- law(script) that shows data -/
theorem law_okG {P : Program} {w : World} {K : PySem.W.Frag} {mg : Str → Option Value} {base : Heap} {x y hn : Str} {xh : Str} {st : Stmt} {f fh : Addr} {fd fdh : FuncData} {N psh : List Str} {k : Nat} {rest : List Stmt} {b : FS} {p1 p2 p3 p4 p5 : Pos} (F : Fun K x x st f fd) (Sc : FnScope N [y] (defScope st)) (hN : N = y :: hn :: N.drop 2) (hk : 1 ≤ k)
    (GH : FnOk P w K mg base CX0 1 fh fdh psh (spHand K)) (hmh : mg xh = some (.ref fh)) (hkp : PySem.W.keepIn K (.ref fh) = true) (hbh : Binds K fdh psh [])
    (hbody : defBody st = .Assign [.Name hn p1] (.Call (.Name xh p2) [.Name y p3] [] p4) p5 :: rest)
    (hg : (defScope st).names.lookup xh = some .globalImplicit) (hy : (defScope st).names.lookup y = some .local) (hh : Loc (defScope st) hn) (hd : (y == ("__debug__" : Str)) = false) (hcd : (y == ("__classdict__" : Str)) = false) (hdx : (xh == ("__debug__" : Str)) = false)
    (hb : ∀ (cdv : Value) (A : Around) (outer : List Env) (s : Shared) (H : Hp) (E : XK) (ah : Option Addr), A.guards = some [] → Room k (A.deeper (envOfC x (defScope st) s.heap.objs.size f cdv)) → PFSs ((cxOf CX0 P w K mg base N x (defScope st) f cdv A outer s H E).nox) ah E0 rest b)
    (hs : ∀ (cdv : Value) (A : Around) (outer : List Env) (s : Shared) (H : Hp) (E : XK), swapsWith (.Call (.Name xh p2) [.Name y p3] [] p4) (some (.Name hn p1)) p5.line ((cxOf CX0 P w K mg base N x (defScope st) f cdv A outer s H E).nox).env = pure false)
    (main : ∀ ns : List Int, ns.length ≤ 63 → ∃ g, b (.un :: .dt .hnd :: List.replicate (N.length - 2) .un) ⟨ns, 0, 0, 1, 0⟩ = some (.ok (.rt (.bl true)) g)) : BodyG P w K mg base N x st k f (spLaw K) := by
  intro cdv A outer s H vs Q E hgd hr h
  obtain ⟨a, ns, rfl, hS, hlen, kQ⟩ := h
  rw [hbody]
  have N0 : ((cxOf CX0 P w K mg base N x (defScope st) f cdv A outer s H E).nox).N = N := rfl
  have ch : ∀ ah, ∃ t, PSs ((cxOf CX0 P w K mg base N x (defScope st) f cdv A outer s H E).nox) rest t ∧ RS ⟨K, mg, ah⟩ E0 t b := fun ah => hb cdv A outer s H E ah hgd hr
  -- one reading, wherever the hand stands
  let tr : TS := fun Z σ H => ∃ ah, (ch ah).choose Z σ H
  have ptr : PSs ((cxOf CX0 P w K mg base N x (defScope st) f cdv A outer s H E).nox) rest tr := ⟨fun pins s' σ H' Z I ⟨ah, hw⟩ => (ch ah).choose_spec.1.run pins s' σ H' Z I hw⟩
  have i0 : ((cxOf CX0 P w K mg base N x (defScope st) f cdv A outer s H E).nox).N[0]? = some y := by rw [N0, hN]; rfl
  have i1 : ((cxOf CX0 P w K mg base N x (defScope st) f cdv A outer s H E).nox).N[1]? = some hn := by rw [N0, hN]; rfl
  refine ⟨_, PSs.nox (pss_cons (ps_set (i := 1) Sc.nd i1 hh (pe_call GH (hr.mono hk) hg hmh hkp hbh .nil pass0 (pa_cons (pe_var (i := 0) i0 (.inl hy) hd hcd) pa_nil) hdx) (hs cdv A outer s H E) (.inl rfl)) ptr), ?_⟩
  have hs0 : (start N [.ref a])[0]? = some (some (.ref a)) := by simp [L2.start]
  have hl : 2 ≤ N.length := by rw [hN]; simp
  refine ⟨_, hs0, a, ns, rfl, hS, fun q hq p hp => ⟨some p, ?_⟩⟩
  have nqp : p ≠ q := fun z => by rw [z, upd_same] at hp; cases hp
  obtain ⟨g, hm⟩ := main ns hlen
  refine (ch (some p)).choose_spec.2.run ⟨⟨K, mg, some p⟩, fun _ => none, fun _ => none⟩ (.un :: .dt .hnd :: List.replicate (N.length - 2) .un) ⟨ns, 0, 0, 1, 0⟩ _ _ (upd (fun _ => none) q (.lst (ns.map V.int))) _ rfl ?_ ?_
  · refine ⟨fun b o e => ?_, ?_, fun b o e => by simp at e, fun b e => by simp at e, fun i en h => ?_, fun i j p' xs ys h => ?_⟩
    · by_cases hb2 : b = q
      · subst hb2
        rw [upd_same] at e
        rw [upd_ne (Ne.symm nqp), upd_same]; exact e
      · rw [upd_ne hb2] at e; cases e
    · refine ⟨?_, q, ?_, ?_⟩
      · show upd (fun _ => none) q _ p = none
        rw [upd_ne nqp]
      · exact upd_same
      · exact upd_same
    · match i, h with
      | 0, h => simp at h; subst h; exact ⟨_, by rw [List.getElem?_set_ne (by decide)]; exact hs0, trivial⟩
      | 1, h =>
        simp at h; subst h
        exact ⟨some (.ref p), List.getElem?_set_self (by simp [L2.start]; omega), .ref p, rfl, .hnd rfl⟩
      | i + 2, h =>
        simp [List.getElem?_replicate] at h
        obtain ⟨h1, rfl⟩ := h
        refine ⟨none, ?_, trivial⟩
        rw [List.getElem?_set_ne (by omega)]
        simp [L2.start, List.getElem?_replicate]
        omega
    · match i, h with
      | 0, h => simp at h
      | 1, h => simp at h
      | i + 2, h => simp [List.getElem?_replicate] at h
  · rw [hm]
    intro v H' S' _ _ hv
    cases hv.blE
    exact kQ H'
/-- a constant tuple of flat things -/
def cgB (K : PySem.W.Frag) (x : Str) (dvs : List He.Dv) : Bool := He.eqO (PySem.W.nsIn K mainGlobals x) (some (some (.ref (He.ga K x)))) && He.tupB K x dvs
theorem cgB_ok {K : PySem.W.Frag} {h : Heap} {mg : Str → Option Value} {x : Str} {dvs : List He.Dv} {ds : List D} (X : K.In h) (G : h.Ns mainGlobals mg) (c : cgB K x dvs = true) (hD : ∀ (C : DC) (S : Hp), Dns C S (dvs.map (He.Dv.v K)) ds) : ConstOk K mg x (.tup ds) := by
  obtain ⟨c1, c2⟩ := He.ba c
  exact ⟨.ref (He.ga K x), _, He.glo_ok X G (x := x) c1, rfl, fun ah S => .tup (He.tupB_ok c2 S) (hD _ S)⟩
section
variable {X : Cx} {ah : Option Addr}
def sDead : FS := fun _ _ => none
def cDead : FE := fun _ _ => none
theorem pf_deadE {E : L2.St → XK} {e : Expr} : PF X ah E e cDead := pf_dead
theorem pfs_dead {E : XK} {s : Stmt} : PFS X ah E s sDead := ⟨fun _ _ _ => False, ⟨fun _ _ _ _ _ _ h => h.elim⟩, ⟨fun F ρ g σ H S Z e R G => G.elim⟩⟩
end
theorem hu66 {k : Nat} {A : Around} (hr : Room k A) : A.units + 66 < cLine := by have := hr.un; omega
end FD
set_option Elab.async false
set_option linter.all false
set_option maxRecDepth 100000
set_option maxHeartbeats 2000000
namespace FD
open PySem PySem.Spec PyProof.Rows L2
/-! # t * 1 is t itself -/
theorem tuple_once (l : Addr) (items : Array Value) (n : Nat) (sl : Array (Option Value)) (dd : Option Addr) (u : Tok) :
    Meets (Builtin.«tuple.__mul__» ⟨[.ref l, .int 1 u], []⟩) (fun _ Rr q => q.heap.get? l = some { cls := .type "tuple", dict := dd, data := .seq items n, slots := sl } ∧ Rr (.ok (.ret (Value.ref l))) q) :=
  .of_wp fun prog w A Rr q h => by
    obtain ⟨hp, gg, d, tk, os⟩ := q
    obtain ⟨hT, h⟩ := h
    have f1 := AutoSeq1.idx_int
    wp_walk using AutoSeq1.wpAny_loadPart' hT
    repeat (first
      | (refine wpAny_ite_false (by decide) ?_; wp_walk using AutoSeq1.wpAny_loadPart' hT)
      | (refine wpAny_ite_true (by simp) ?_; wp_walk using AutoSeq1.wpAny_loadPart' hT))
    exact ⟨_, rfl, h⟩
section
variable {X : Cx} {c : DC}
abbrev rOnce (K : PySem.W.Frag) : R2 := fun x y H Q => ∃ l xs, x = V.ref l ∧ y = V.int 1 ∧ SqT K H l xs ∧ Q (.ref l) H
theorem op_once : OpR X (binaryOp .Mult) (rOnce X.K) := by
  intro pins s σ H x y v u Q I rx ry h
  obtain ⟨l, xs, rfl, rfl, hT, q⟩ := h
  cases rx
  obtain ⟨t, rfl⟩ := ry
  obtain ⟨its, r, ⟨⟨cls, dd, data, sl⟩, ho, hc, n, hd⟩, hs⟩ := I.tuple hT
  simp only at hc hd
  subst hc hd
  refine wpAny_binaryOp_repeat_ref (T := "tuple") (U := "int") (by decide) ⟨_, ho, rfl⟩ (fun s' => typeIs_int s' 1 t) noFill_tuple_mul F.fills_int_mul F.slot_int_rmul repeat_tuple F.slot_int_index.lookup ?_
  refine call_meets F.slot_int_rmul (typeIs_int s 1 t) F.entry_int_rmul (F.args_int_rmul_2 _ _) (int_rmul_tuple 1 t l its.toArray n dd sl) ⟨ho, rfl, ⟨_, ho, rfl⟩, ?_⟩
  exact call_meets F.slot_tuple_mul ⟨_, ho, rfl⟩ F.entry_tuple_mul (F.args_tuple_mul_2 _ _) (tuple_once l its.toArray n sl dd t) ⟨ho, .ref l, H, I, rfl, q⟩
/-- a * b, with t * 1 -/
def mulD2 (x y : D) : Option D := match x, y with
  | .tup xs, .int 1 => some (.tup xs)
  | _, _ => mulD x y
theorem op_mulD2 : OpR X (binaryOp .Mult) (R2.or (rOnce X.K) (rMulD X.K)) := OpR.or op_once op_mulD
theorem os_mul2 : OpS c (R2.or (rOnce c.K) (rMulD c.K)) mulD2 := by
  intro E F ρ g σ H S Q x y dx dy e R hx hy G
  unfold mulD2 at G
  split at G
  · cases hy.intE
    cases hx with
    | tup h hs =>
      subst e
      exact .inl ⟨_, _, rfl, rfl, Same.tup R.sub h, G.ret R (.tup h hs)⟩
  · exact .inr (os_mul E F ρ g σ H S Q x y dx dy e R hx hy G)
end
/-! # a, b = x, y -/
section
variable {X : Cx} {ah : Option Addr} {E : XK} {c : DC}
@[simp] def sPar (i j : Nat) (a : FA) : FS := fun ρ g => (a ρ g).bd fun xs g1 => match xs with
  | [x, y] => some (.ok (.nx ((ρ.set i (.dt x)).set j (.dt y))) g1)
  | _ => none
theorem pfs_par (i j : Nat) {x y : Str} {a b : Expr} {fa : FA} {px py pt pt2 pos : Pos} {kt k2 : _} (hc : X.calm = true) (hN : X.N.Nodup) (ha : PFA X ah (fun _ => E) [a, b] fa) (hij : i ≠ j := by decide) (hi : X.N[i]? = some x := by rfl) (hj : X.N[j]? = some y := by rfl)
    (hx : X.env.scope.names.lookup x = some .local := by rfl) (hy : X.env.scope.names.lookup y = some .local := by rfl)
    (hw : swappedStores [.Tuple [.Name x px, .Name y py] kt pt] (.Tuple [a, b] k2 pt2) X.env = pure (some [x, y]) := by rfl)
    (hs : swapsWithSole [.Tuple [.Name x px, .Name y py] kt pt] (.Tuple [a, b] k2 pt2) pos.line X.env = pure false := by rfl) :
    PFS X ah E (.Assign [.Tuple [.Name x px, .Name y py] kt pt] (.Tuple [a, b] k2 pt2) pos) (sPar i j fa) := by
  obtain ⟨t, p, r⟩ := ha
  refine ⟨_, ps_par hc hN hi hj hij hx hy p hw hs, ?_⟩
  refine RS.bind (r := fun Z σ vs H1 => ∃ v w, vs = [v, w] ∧ Z.nx ((σ.set i (some v)).set j (some w)) H1) (k := fun ρ xs g1 => match xs with
    | [x, y] => some (.ok (.nx ((ρ.set i (.dt x)).set j (.dt y))) g1)
    | _ => none) r fun F ρ g σ H S Z vs ds e R hx G => ?_
  split at G
  · obtain ⟨v, w, rfl, h1, h2⟩ := hx.two
    rw [← e] at h1 h2
    exact ⟨v, w, rfl, G _ H S (Same.refl S) ((R.set i h1).set j h2)⟩
  · exact G.elim
end
end FD
set_option Elab.async false
set_option linter.all false
set_option maxRecDepth 100000
set_option maxHeartbeats 2000000
namespace FD
open PySem L2 PyProof.Rows
/-! # Dicts by whole numbers that one name alone holds -/
def dIx : List Int → List D → Int → Option D
  | k :: ks, d :: ds, n => if k = n then some d else dIx ks ds n
  | _, _, _ => none
def dKs (ks : List Int) (n : Int) : List Int := if ks.contains n = true then ks else ks ++ [n]
def dWith {α : Type} : List Int → List α → Int → α → List α
  | k :: ks, d :: ds, n, y => (if k = n then y else d) :: dWith ks ds n y
  | _, _, _, _ => []
def dXs {α : Type} (ks : List Int) (xs : List α) (n : Int) (y : α) : List α := if ks.contains n = true then dWith ks xs n y else xs ++ [y]
theorem kvO_any (n : Int) : ∀ (ks : List Int) (vs : List V), ks.length = vs.length → ((kvO ks vs).any fun kv => decide (kv.1 = Sum.inl n)) = ks.contains n
  | [], [], _ => rfl
  | k :: ks, v :: vs, h => by
    have ih := kvO_any n ks vs (by simpa using h)
    simp only [kvO, List.any_cons, ih, List.contains_cons]
    congr 1
    by_cases e : k = n
    · subst e; simp
    · have e' : ¬ n = k := fun z => e z.symm
      simp [e, e']
theorem kvO_map (n : Int) (y : V) : ∀ (ks : List Int) (vs : List V), ks.length = vs.length → (kvO ks vs).map (fun kv => if kv.1 = Sum.inl n then (kv.1, y) else kv) = kvO ks (dWith ks vs n y)
  | [], [], _ => rfl
  | k :: ks, v :: vs, h => by
    have ih := kvO_map n y ks vs (by simpa using h)
    simp only [kvO, List.map_cons, ih, dWith]
    by_cases e : k = n
    · subst e; simp
    · have : ¬ ((Sum.inl k : Key) = Sum.inl n) := fun z => e (Sum.inl.inj z)
      rw [if_neg this, if_neg e]
theorem kvO_app (n : Int) (y : V) : ∀ (ks : List Int) (vs : List V), ks.length = vs.length → kvO ks vs ++ [(Sum.inl n, y)] = kvO (ks ++ [n]) (vs ++ [y])
  | [], [], _ => rfl
  | k :: ks, v :: vs, h => by
    have ih := kvO_app n y ks vs (by simpa using h)
    simp only [kvO, List.cons_append, ih]
theorem kvO_put (n : Int) (y : V) {ks : List Int} {vs : List V} (h : ks.length = vs.length) : putK (kvO ks vs) (Sum.inl n) y = kvO (dKs ks n) (dXs ks vs n y) := by
  unfold putK dKs dXs
  rw [kvO_any n ks vs h]
  by_cases c : ks.contains n = true
  · rw [if_pos c, if_pos c, if_pos c, kvO_map n y ks vs h]
  · rw [if_neg c, if_neg c, if_neg c, kvO_app n y ks vs h]
theorem kvO_len : ∀ (ks : List Int) (vs : List V), ks.length = vs.length → (kvO ks vs).length = ks.length
  | [], [], _ => rfl
  | k :: ks, v :: vs, h => by
    have ih := kvO_len ks vs (by simpa using h)
    simp only [kvO, List.length_cons, ih]
theorem kvO_val {c : DC} {S : Hp} (n : Int) : ∀ {ks : List Int} {vs : List V} {ds : List D} {d : D}, Dns c S vs ds → dIx ks ds n = some d → ∃ v, valV (kvO ks vs) (Sum.inl n) = some v ∧ Dn c S v d
  | [], _, _, _, _, e => by simp [dIx] at e
  | k :: ks, _, _, _, .nil, e => by simp [dIx] at e
  | k :: ks, _, _, _, .cons (v := v) h hs, e => by
    simp only [dIx] at e
    simp only [kvO]
    by_cases q : k = n
    · subst q
      rw [if_pos rfl] at e
      cases e
      exact ⟨v, valV_pos rfl, h⟩
    · rw [if_neg q] at e
      rw [valV_neg (fun z => q (Sum.inl.inj z))]
      exact kvO_val n hs e
theorem Dns.dWith {c : DC} {S : Hp} {n : Int} {y : V} {dy : D} (hy : Dn c S y dy) : ∀ (ks : List Int) {vs : List V} {ds : List D}, Dns c S vs ds → Dns c S (FD.dWith ks vs n y) (FD.dWith ks ds n dy)
  | [], _, _, _ => .nil
  | k :: ks, _, _, .nil => .nil
  | k :: ks, _, _, .cons h hs => by
    refine .cons ?_ (Dns.dWith hy ks hs)
    by_cases q : k = n
    · rw [if_pos q, if_pos q]; exact hy
    · rw [if_neg q, if_neg q]; exact h
theorem Dns.dXs {c : DC} {S : Hp} {n : Int} {y : V} {dy : D} (hy : Dn c S y dy) (ks : List Int) {vs : List V} {ds : List D} (hs : Dns c S vs ds) : Dns c S (FD.dXs ks vs n y) (FD.dXs ks ds n dy) := by
  unfold FD.dXs
  by_cases q : ks.contains n = true
  · rw [if_pos q, if_pos q]; exact Dns.dWith hy ks hs
  · rw [if_neg q, if_neg q]; exact hs.append (.cons hy .nil)
section
variable {X : Cx} {ah : Option Addr} {E : XK} {Es : L2.St → XK} {c : DC}
/-- x = {} -/
@[simp] def sOwnd (i : Nat) : FS := fun ρ g => some (.ok (.nx (ρ.set i (.ownd [] []))) g)
theorem pfs_ownd (i : Nat) {x : Str} {pos pos' lpos : Pos} (hN : X.N.Nodup) (hi : X.N[i]? = some x := by rfl) (hx : Loc X.env.scope x := by first | exact Or.inl rfl | exact Or.inr rfl) (hs : swapsWith (.Dict [] [] lpos) (some (.Name x pos')) pos.line X.env = pure false := by rfl)
    (hf : X.fn x = true ∨ X.env.scope.names.lookup x = some .local := by first | exact .inl rfl | exact .inr rfl) : PFS X ah E (.Assign [.Name x pos'] (.Dict [] [] lpos) pos) (sOwnd i) := by
  refine ⟨_, ps_set hN hi hx pe_dnewK hs hf, ⟨fun F ρ g σ H S Z e R G => ?_⟩⟩
  exact fun p hp => G _ _ S (Same.refl S) (R.setHold (kx := some []) i hp .nil)
/-- x[e] = a -/
@[simp] def sDSet (i : Nat) (b a : FE) : FS := fun ρ g => (a ρ g).bd fun y g1 => match ρ[i]? with
  | some (.hold (some ks) xs) => (b ρ g1).bd fun k g2 => match k with
    | .int n => if ks.length = xs.length ∧ ks.length ≤ 1000 then some (.ok (.nx (ρ.set i (.ownd (dKs ks n) (dXs ks xs n y)))) g2) else none
    | _ => none
  | _ => none
theorem pfs_dset (i : Nat) {x : Str} {e1 e2 : Expr} {a b : FE} {p1 p2 pos : Pos} (hu : X.A.units + 64 < cLine) (hb : PF X ah (fun _ => E) e1 b) (ha : PF X ah (fun _ => E) e2 a) (hN : X.N[i]? = some x := by rfl) (hv : Vis X.env.scope x := by first | exact Or.inl rfl | exact Or.inr (Or.inl rfl) | exact Or.inr (Or.inr rfl)) (hd : (x == ("__debug__" : Str)) = false := by decide)
    (hcd : (x == ("__classdict__" : Str)) = false := by decide)
    (hs : swapsWith e2 (some (.Subscript (.Name x p1) e1 p2)) pos.line X.env = pure false := by rfl) : PFS X ah E (.Assign [.Subscript (.Name x p1) e1 p2] e2 pos) (sDSet i b a) := by
  obtain ⟨t, q, r⟩ := ha
  obtain ⟨t2, q2, r2⟩ := hb
  refine ⟨_, ps_dput (by omega) (pe_var hN hv hd hcd) q2 q hs, ⟨fun F ρ g σ H S Z e R G => ?_⟩⟩
  simp only [sDSet] at G
  refine r.stepS e R G fun H1 S1 g1 y d sm R1 hy G => ?_
  split at G
  case h_2 => exact G.elim
  rename_i ks xs hi
  obtain ⟨so, h1, p, vs, rfl, h2, h3, h4, h5, h6⟩ := R1.slots i _ hi
  refine ⟨.ref p, h1, ?_⟩
  refine r2.stepS e R1 G fun H2 S2 g2 k dk sm2 R2 hk G => ?_
  split at G
  case h_2 => exact G.elim
  rename_i n
  cases hk.intE
  by_cases hl : ks.length = xs.length ∧ ks.length ≤ 1000
  case neg => rw [if_neg hl] at G; exact G.elim
  rw [if_pos hl] at G
  obtain ⟨so, k1, p', ws, k0, k2, k3, k4, k5, k6⟩ := R2.slots i _ hi
  rw [h1] at k1; cases k1; cases k0
  have hlen : ks.length = ws.length := by rw [k6.length]; exact hl.1
  have k5' : H2 p = some (.dK (kvO ks ws)) := k5
  refine ⟨p, upd H2 p (.dK (putK (kvO ks ws) (Sum.inl n) y)), rfl, DPut.k (k := Sum.inl n) k5' (by rw [kvO_len _ _ hlen]; exact small1000 hl.2), ?_⟩
  rw [kvO_put n y hlen]
  exact G _ _ S2 (Same.refl _) (R2.writeHold (kz := some (dKs ks n)) hi h1 (Dns.dXs ((e ▸ hy).mono sm2) ks k6))
/-- x[e] -/
@[simp] def cDIx (i : Nat) (b : FE) : FE := fun ρ g => match ρ[i]? with
  | some (.hold (some ks) xs) => (b ρ g).bd fun k g2 => match k with
    | .int n => lift (dIx ks xs n) g2
    | _ => none
  | _ => none
theorem pf_dix (i : Nat) {x : Str} {e1 : Expr} {b : FE} {p1 pos : Pos} (hu : X.A.units + 64 < cLine) (hb : PF X ah Es e1 b) (hS : NoSl e1) (hN : X.N[i]? = some x := by rfl) (hv : Vis X.env.scope x := by first | exact Or.inl rfl | exact Or.inr (Or.inl rfl) | exact Or.inr (Or.inr rfl)) (hd : (x == ("__debug__" : Str)) = false := by decide)
    (hcd : (x == ("__classdict__" : Str)) = false := by decide) : PF X ah Es (.Subscript (.Name x p1) e1 pos) (cDIx i b) := by
  obtain ⟨t2, q2, r2⟩ := hb
  refine ⟨_, pe_dget (by omega) (pe_var hN hv hd hcd) q2 hS, ⟨fun F ρ g σ H S Q e R G => ?_⟩⟩
  simp only [cDIx] at G
  split at G
  case h_2 => exact G.elim
  rename_i ks xs hi
  obtain ⟨so, h1, p, vs, rfl, h2, h3, h4, h5, h6⟩ := R.slots i _ hi
  refine ⟨.ref p, h1, ?_⟩
  refine r2.step e R G fun H2 S2 g2 k dk sm2 R2 hk G => ?_
  split at G
  case h_2 => exact G.elim
  rename_i n
  cases hk.intE
  obtain ⟨so, k1, p', ws, k0, k2, k3, k4, k5, k6⟩ := R2.slots i _ hi
  rw [h1] at k1; cases k1; cases k0
  cases ho : dIx ks xs n with
  | none => rw [ho] at G; exact G.elim
  | some d =>
    rw [ho] at G
    obtain ⟨v, e1, e2⟩ := kvO_val n k6 ho
    have k5' : H2 p = some (.dK (kvO ks ws)) := k5
    exact ⟨p, v, rfl, e1 ▸ DGet.k (k := Sum.inl n) k5', G.ret R2 e2⟩
/-- x[e] += a, whole numbers -/
@[simp] def sDAdd (i : Nat) (b a : FE) : FS := fun ρ g => match ρ[i]? with
  | some (.hold (some ks) xs) => (b ρ g).bd fun k g1 => match k with
    | .int n => match dIx ks xs n with
      | some (.int z) => (a ρ g1).bd fun y g2 => match y with
        | .int u => if ks.length = xs.length ∧ ks.length ≤ 1000 then some (.ok (.nx (ρ.set i (.ownd (dKs ks n) (dXs ks xs n (.int (z + u)))))) g2) else none
        | _ => none
      | _ => none
    | _ => none
  | _ => none
theorem pfs_dadd (i : Nat) {x : Str} {e1 e2 : Expr} {a b : FE} {p1 p2 pos : Pos} (hu : X.A.units + 64 < cLine) (hb : PF X ah (fun _ => E) e1 b) (ha : PF X ah (fun _ => E) e2 a) (hN : X.N[i]? = some x := by rfl) (hv : Vis X.env.scope x := by first | exact Or.inl rfl | exact Or.inr (Or.inl rfl) | exact Or.inr (Or.inr rfl)) (hd : (x == ("__debug__" : Str)) = false := by decide)
    (hcd : (x == ("__classdict__" : Str)) = false := by decide)
    (hau : ∀ ov iv new, augStore e1 ov iv new = (do holding [new, ov, iv] (setItem ov iv new); release [new, ov, iv] []; pure .next) := by intro _ _ _; rfl) : PFS X ah E (.AugAssign (.Subscript (.Name x p1) e1 p2) .Add e2 pos) (sDAdd i b a) := by
  obtain ⟨t, q, r⟩ := ha
  obtain ⟨t2, q2, r2⟩ := hb
  refine ⟨_, ps_daug (by omega) (pe_var hN hv hd hcd) q2 q in_add hau, ⟨fun F ρ g σ H S Z e R G => ?_⟩⟩
  simp only [sDAdd] at G
  split at G
  case h_2 => exact G.elim
  rename_i ks xs hi
  obtain ⟨so, h1, p, vs, rfl, h2, h3, h4, h5, h6⟩ := R.slots i _ hi
  refine ⟨.ref p, h1, ?_⟩
  refine r2.stepS e R G fun H2 S2 g2 k dk sm2 R2 hk G => ?_
  split at G
  case h_2 => exact G.elim
  rename_i n
  cases hk.intE
  split at G
  case h_2 => exact G.elim
  rename_i z ho
  obtain ⟨so, k1, p', ws, k0, k2, k3, k4, k5, k6⟩ := R2.slots i _ hi
  rw [h1] at k1; cases k1; cases k0
  obtain ⟨v, e1, e2⟩ := kvO_val n k6 ho
  cases e2.intE
  have k5' : H2 p = some (.dK (kvO ks ws)) := k5
  refine ⟨p, .int z, rfl, e1 ▸ DGet.k (k := Sum.inl n) k5', ?_⟩
  refine r.stepS e R2 G fun H3 S3 g3 y d sm R3 hy G => ?_
  split at G
  case h_2 => exact G.elim
  rename_i u
  cases hy.intE
  refine ⟨z, u, rfl, rfl, ?_⟩
  by_cases hl : ks.length = xs.length ∧ ks.length ≤ 1000
  case neg => rw [if_neg hl] at G; exact G.elim
  rw [if_pos hl] at G
  obtain ⟨so, m1, p', us, m0, m2, m3, m4, m5, m6⟩ := R3.slots i _ hi
  rw [h1] at m1; cases m1; cases m0
  have hlen : ks.length = us.length := by rw [m6.length]; exact hl.1
  have m5' : H3 p = some (.dK (kvO ks us)) := m5
  refine ⟨upd H3 p (.dK (putK (kvO ks us) (Sum.inl n) (.int (z + u)))), DPut.k (k := Sum.inl n) m5' (by rw [kvO_len _ _ hlen]; exact small1000 hl.2), ?_⟩
  rw [kvO_put n (.int (z + u)) hlen]
  exact G _ _ S3 (Same.refl _) (R3.writeHold (kz := some (dKs ks n)) hi h1 (Dns.dXs (.int (z + u)) ks m6))
end
/-! ### isinstance(x, (T, U)) -/
def isTTD (t u : String) (d : D) : Option D := match isTyD t d, isTyD u d with
  | some (.bl a), some (.bl b) => some (.bl (a || b))
  | _, _ => none
theorem tyx_of {c : DC} {S H : Hp} {x : V} {d : D} (sub : Same S H) (hx : Dn c S x d) (ho : ∀ C, c.mg "Play" = some (.ref C) → ClsI c.K C) {t u : String} (ht : t = "int" ∨ t = "bool" ∨ t = "str" ∨ t = "tuple" ∨ t = "list") (hu : u = "int" ∨ u = "bool" ∨ u = "str" ∨ u = "tuple" ∨ u = "list") {a b : Bool} (h1 : isTyD t d = some (.bl a)) (h2 : isTyD u d = some (.bl b)) :
    ∃ tv, TyX c.K H x tv ∧ PySem.W.kitOne c.K tv (.type t) = some a ∧ PySem.W.kitOne c.K tv (.type u) = some b := by
  obtain ⟨k0, k1, k2, k3, k4, k5, k6⟩ := kitB_all t ht
  obtain ⟨m0, m1, m2, m3, m4, m5, m6⟩ := kitB_all u hu
  cases hx with
  | non => simp only [isTyD, isTyB, Option.some.injEq, D.bl.injEq] at h1 h2; subst h1 h2; exact ⟨_, .base .non, kit_ty k0, kit_ty m0⟩
  | bl q => simp only [isTyD, isTyB, Option.some.injEq, D.bl.injEq] at h1 h2; subst h1 h2; exact ⟨_, .base (.bl q), kit_ty k1, kit_ty m1⟩
  | int q => simp only [isTyD, isTyB, Option.some.injEq, D.bl.injEq] at h1 h2; subst h1 h2; exact ⟨_, .base (.int q), kit_ty k2, kit_ty m2⟩
  | str q => simp only [isTyD, isTyB, Option.some.injEq, D.bl.injEq] at h1 h2; subst h1 h2; exact ⟨_, .base (.str q), kit_ty k3, kit_ty m3⟩
  | tup h hs =>
    simp only [isTyD, isTyB, Option.some.injEq, D.bl.injEq] at h1 h2; subst h1 h2
    refine ⟨.type "tuple", ?_, kit_ty k4, kit_ty m4⟩
    rcases Same.tup sub h with (h | ⟨o, h⟩) | ⟨o, its, n, h, hc, _⟩
    · exact .base (.tup h)
    · exact .fTuple h
    · exact .kTuple h hc
  | lst h hs => simp only [isTyD, isTyB, Option.some.injEq, D.bl.injEq] at h1 h2; subst h1 h2; exact ⟨_, .base (.lst (sub _ _ h)), kit_ty k5, kit_ty m5⟩
  | emp h => simp only [isTyD, isTyB, Option.some.injEq, D.bl.injEq] at h1 h2; subst h1 h2; exact ⟨_, .base (.dK (sub _ _ h)), kit_ty k6, kit_ty m6⟩
  | obj m h k hs =>
    simp only [isTyD] at h1 h2
    rename_i cn _ _ _
    by_cases hc : cn = "Play"
    case neg => rw [if_neg hc] at h1; cases h1
    rw [if_pos hc] at h1 h2
    cases h1
    cases h2
    subst hc
    have ci := ho _ m
    exact ⟨_, .base (.ins (sub _ _ h) ci.cl ci.ha ci.hn ci.htk ci.hm), ci.no t ht, ci.no u hu⟩
  | hnd h => simp [isTyD] at h1
  | rng h => simp [isTyD] at h1
  | scr h => simp [isTyD] at h1
section
variable {X : Cx} {ah : Option Addr} {E : L2.St → XK} {c : DC}
theorem pf_isT {t u : String} {e : Expr} {a : FE} {p p1 p2 pt pos : Pos} {kk : Nat} (ht : t = "int" ∨ t = "bool" ∨ t = "str" ∨ t = "tuple" ∨ t = "list") (hut : u = "int" ∨ u = "bool" ∨ u = "str" ∨ u = "tuple" ∨ u = "list") (ho : ∀ C, X.mg "Play" = some (.ref C) → ClsI X.K C) (hm : X.mg "isinstance" = none)
    (hm1 : X.mg (Str.ofString t) = none) (hm2 : X.mg (Str.ofString u) = none) (hv1 : bootBuiltins (Str.ofString t) = some (.type t)) (hv2 : bootBuiltins (Str.ofString u) = some (.type u)) (ha : PF X ah E e a) (hg : Gl X "isinstance" := by rfl) (hg1 : Gl X (Str.ofString t) := by rfl) (hg2 : Gl X (Str.ofString u) := by rfl)
    (hn1 : Str.ofString t ≠ "__name__" := by decide +kernel) (hd1 : (Str.ofString t == ("__debug__" : Str)) = false := by decide +kernel) (hn2 : Str.ofString u ≠ "__name__" := by decide +kernel) (hd2 : (Str.ofString u == ("__debug__" : Str)) = false := by decide +kernel)
    (he : starEach [e, .Tuple [.Name (Str.ofString t) p1, .Name (Str.ofString u) p2] kk pt] X.env = (false, eval e X.env) :: starEach [.Tuple [.Name (Str.ofString t) p1, .Name (Str.ofString u) p2] kk pt] X.env := by rfl)
    (he2 : starEach [.Tuple [.Name (Str.ofString t) p1, .Name (Str.ofString u) p2] kk pt] X.env = (false, eval (.Tuple [.Name (Str.ofString t) p1, .Name (Str.ofString u) p2] kk pt) X.env) :: starEach [] X.env := by rfl)
    (he3 : starEach [.Name (Str.ofString t) p1, .Name (Str.ofString u) p2] X.env = (false, eval (.Name (Str.ofString t) p1) X.env) :: starEach [.Name (Str.ofString u) p2] X.env := by rfl) (he4 : starEach [.Name (Str.ofString u) p2] X.env = (false, eval (.Name (Str.ofString u) p2) X.env) :: starEach [] X.env := by rfl)
    (hpl : (backTo pos (starEach [.Tuple [.Name (Str.ofString t) p1, .Name (Str.ofString u) p2] kk pt] X.env)).any (·.1) = false := by rfl) :
    PF X ah E (.Call (.Name "isinstance" p) [e, .Tuple [.Name (Str.ofString t) p1, .Name (Str.ofString u) p2] kk pt] [] pos) (c1 (isTTD t u) a) := by
  obtain ⟨tt, q, s⟩ := ha
  refine ⟨_, pe_callB call_isiT hg hm (by decide +kernel) (pa_cons q (pa_cons (pe_tup (pa_cons (pe_bltn (v := .ty t) hg1 hm1 hv1 rfl hn1 hd1) (pa_cons (pe_bltn (v := .ty u) hg2 hm2 hv2 rfl hn2 hd2) pa_nil he4) he3)) pa_nil he2) he) (by decide) (by decide) he hpl, ?_⟩
  refine RG.bind (r := fun σ x H1 (Q : VK) => ([V.ty t, V.ty u] : List V).length ≤ sizeLine ∧ ∀ p, H1 p = none → rIsiT X.K [x, .ref p] (upd H1 p (.tup [.ty t, .ty u])) Q) (k := fun ρ x g1 => lift (isTTD t u x) g1) s fun F ρ g σ H S Q x d e R hx G => ?_
  refine ⟨line_of (by simp), fun p hp => ?_⟩
  unfold isTTD at G
  split at G
  case h_2 => exact G.elim
  rename_i b1 b2 h1 h2
  have R2 := R.up (.tup [.ty t, .ty u]) hp
  have eK : F.c.K = X.K := by rw [e]
  obtain ⟨tv, k1, k2, k3⟩ := tyx_of R2.sub (hx.mono (R.tosame _ hp)) ho ht hut h1 h2
  refine ⟨x, p, [.ty t, .ty u], tv, [.type t, .type u], b1 || b2, rfl, upd_same, .cons (.ty t) (.cons (.ty u) .nil), k1, ?_, G _ _ _ (R.tosame _ hp) R2 (.bl _)⟩
  exact kitAny_cons k2 (fun z => by subst z; exact kitAny_cons k3 (fun z => by subst z; rfl) (fun z => by subst z; rfl)) (fun z => by subst z; rfl)
end
end FD
set_option Elab.async false
set_option linter.all false
set_option maxRecDepth 100000
set_option maxHeartbeats 2000000
namespace FD
open PySem L2 PyProof.Rows
/-! # law(script) whose hand is drawn up by any def of plain data -/
theorem Dns.intsE {c : DC} {S : Hp} : ∀ {ns : List Int} {vs : List V}, Dns c S vs (ns.map D.int) → vs = ns.map V.int
  | [], _, .nil => rfl
  | n :: ns, _, .cons h hs => by
    cases h.intE
    rw [Dns.intsE hs]; rfl
theorem law_okDc {P : Program} {w : World} {K : PySem.W.Frag} {mg : Str → Option Value} {base : Heap} {x y hn : Str} {xh : Str} {st : Stmt} {f : Addr} {fd : FuncData} {N : List Str} {k kh : Nat} {rest : List Stmt} {b : FS} {Fh : List D → Gh → M D} {g0 : List Int → Gh} {p1 p2 p3 p4 p5 : Pos} (F : Fun K x x st f fd) (Sc : FnScope N [y] (defScope st)) (hN : N = y :: hn :: N.drop 2)
    (dh : DefOk P w K mg base CX0 xh kh 1 Fh) (hkh : kh ≤ k)
    (hh0 : ∀ ns g, ns.length ≤ 63 → Fh [.scr ns] g = some (.ok (.lst [.lst ((g0 ns).xs.map .int), .int (g0 ns).i, .int (g0 ns).c, .int (g0 ns).r, .int (g0 ns).n]) g))
    (hbody : defBody st = .Assign [.Name hn p1] (.Call (.Name xh p2) [.Name y p3] [] p4) p5 :: rest)
    (hg : (defScope st).names.lookup xh = some .globalImplicit) (hy : (defScope st).names.lookup y = some .local) (hh : Loc (defScope st) hn) (hhl : ∀ (cdv : Value) (A : Around) (outer : List Env) (s : Shared) (H : Hp) (E : XK), ((cxOf CX0 P w K mg base N x (defScope st) f cdv A outer s H E).nox).fn hn = true ∨ (defScope st).names.lookup hn = some .local) (hd : (y == ("__debug__" : Str)) = false) (hcd : (y == ("__classdict__" : Str)) = false) (hdx : (xh == ("__debug__" : Str)) = false)
    (hb : ∀ (cdv : Value) (A : Around) (outer : List Env) (s : Shared) (H : Hp) (E : XK) (ah : Option Addr), Room k (A.deeper (envOfC x (defScope st) s.heap.objs.size f cdv)) → PFSs ((cxOf CX0 P w K mg base N x (defScope st) f cdv A outer s H E).nox) ah E0 rest b)
    (hs : ∀ (cdv : Value) (A : Around) (outer : List Env) (s : Shared) (H : Hp) (E : XK), swapsWith (.Call (.Name xh p2) [.Name y p3] [] p4) (some (.Name hn p1)) p5.line ((cxOf CX0 P w K mg base N x (defScope st) f cdv A outer s H E).nox).env = pure false)
    (main : ∀ ns : List Int, ns.length ≤ 63 → ∃ g, b (.un :: .dt .hnd :: List.replicate (N.length - 2) .un) (g0 ns) = some (.ok (.rt (.bl true)) g)) : FnOk P w K mg base CX0 (k + 1) f fd [y] (spLaw K) := by
  refine F.ok Sc (fun vs H Q E h => ?_) (fun cdv A outer s H vs Q E hr h => ?_)
  · obtain ⟨a, xs, rfl, _⟩ := h
    rfl
  · obtain ⟨a, ns, rfl, hS, hlen, kQ⟩ := h
    rw [hbody]
    have N0 : ((cxOf CX0 P w K mg base N x (defScope st) f cdv A outer s H E).nox).N = N := rfl
    have ch : ∀ ah, ∃ t, PSs ((cxOf CX0 P w K mg base N x (defScope st) f cdv A outer s H E).nox) rest t ∧ RS ⟨K, mg, ah⟩ E0 t b := fun ah => hb cdv A outer s H E ah hr
    let tr : TS := fun Z σ H => ∃ ah, (ch ah).choose Z σ H
    have ptr : PSs ((cxOf CX0 P w K mg base N x (defScope st) f cdv A outer s H E).nox) rest tr := ⟨fun pins s' σ H' Z I ⟨ah, hw⟩ => (ch ah).choose_spec.1.run pins s' σ H' Z I hw⟩
    have i0 : ((cxOf CX0 P w K mg base N x (defScope st) f cdv A outer s H E).nox).N[0]? = some y := by rw [N0, hN]; rfl
    have i1 : ((cxOf CX0 P w K mg base N x (defScope st) f cdv A outer s H E).nox).N[1]? = some hn := by rw [N0, hN]; rfl
    have hl : 2 ≤ N.length := by rw [hN]; simp
    obtain ⟨t1, q1, r1⟩ := pfs_set (X := (cxOf CX0 P w K mg base N x (defScope st) f cdv A outer s H E).nox) (ah := none) (E := E0) (pos' := p1) (pos := p5) 1 Sc.nd (pf_call (p := p2) (pos := p4) (dh.mono hkh) hr (pfa_cons (pf_v (X := (cxOf CX0 P w K mg base N x (defScope st) f cdv A outer s H E).nox) (ah := none) (E := fun _ => E0) (pos := p3) 0 i0 (.inl hy) hd hcd) pfa_nil) hg hdx) i1 hh (hs cdv A outer s H E) (hhl cdv A outer s H E)
    refine ⟨_, pss_cons q1 ptr, ?_⟩
    have R0 : Rep ⟨⟨K, mg, none⟩, H, H⟩ [] ⟨[], 0, 0, 0, 0⟩ [] H H := ⟨Same.refl H, trivial, fun _ _ e _ => e, fun _ _ h => h, fun i e h => by simp at h, fun i j p xs ys h => by simp at h⟩
    have d0 : Dns ⟨K, mg, none⟩ H [V.ref a] [.scr ns] := .cons (.scr hS) .nil
    have R1 := Rep.start (N := N) R0 d0 (by simp; omega)
    refine r1.run ⟨⟨K, mg, none⟩, H, H⟩ _ ⟨[], 0, 0, 0, 0⟩ _ H H _ rfl R1 ?_
    have ev : sAsg (cFn 1 Fh (cC (cV 0) cN)) (gN 1) ([D.scr ns].map .dt ++ List.replicate (N.length - 1) .un) ⟨[], 0, 0, 0, 0⟩ = some (.ok (.nx (([D.scr ns].map En.dt ++ List.replicate (N.length - 1) En.un).set 1 (.dt (.lst [.lst ((g0 ns).xs.map .int), .int (g0 ns).i, .int (g0 ns).c, .int (g0 ns).r, .int (g0 ns).n])))) ⟨[], 0, 0, 0, 0⟩) := by
      have hne : N.length - 1 = (N.length - 2) + 1 := by omega
      simp [hh0 ns _ hlen, gN, hne, List.replicate_succ]
    show GotS _ _ _ _ (sAsg (cFn 1 Fh (cC (cV 0) cN)) (gN 1) ([D.scr ns].map .dt ++ List.replicate (N.length - 1) .un) ⟨[], 0, 0, 0, 0⟩)
    rw [ev]
    intro σ' H' S' sm R2
    have hne : N.length - 1 = (N.length - 2) + 1 := by omega
    rw [hne, List.replicate_succ] at R2
    have R3 : Rep ⟨⟨K, mg, none⟩, H, H⟩ (.dt (.scr ns) :: .dt (.lst [.lst ((g0 ns).xs.map .int), .int (g0 ns).i, .int (g0 ns).c, .int (g0 ns).r, .int (g0 ns).n]) :: List.replicate (N.length - 2) .un) ⟨[], 0, 0, 0, 0⟩ σ' H' S' := R2
    obtain ⟨so, s1, v, rfl, hv⟩ := R3.slots 1 _ rfl
    obtain ⟨so0, s0, _⟩ := R3.slots 0 _ rfl
    cases hv with
    | @lst p vs _ hp hvs =>
      cases hvs with | cons v0 hvs =>
      cases hvs with | cons v1 hvs =>
      cases hvs with | cons v2 hvs =>
      cases hvs with | cons v3 hvs =>
      cases hvs with | cons v4 hvs =>
      cases hvs
      cases v1.intE
      cases v2.intE
      cases v3.intE
      cases v4.intE
      cases v0 with
      | @lst q us _ hq hus =>
        have hus := Dns.intsE hus
        subst hus
        have npq : p ≠ q := fun z => by
          subst z
          rw [hp] at hq
          injection hq with hq
          injection hq with hq
          cases e : (g0 ns).xs with
          | nil => rw [e] at hq; simp at hq
          | cons n r => rw [e] at hq; simp at hq
        refine ⟨some p, ?_⟩
        obtain ⟨g, hm⟩ := main ns hlen
        refine (ch (some p)).choose_spec.2.run ⟨⟨K, mg, some p⟩, fun _ => none, fun _ => none⟩ (.un :: .dt .hnd :: List.replicate (N.length - 2) .un) (g0 ns) _ _ (upd (fun _ => none) q (.lst ((g0 ns).xs.map V.int))) _ rfl ?_ ?_
        · refine ⟨fun b o e => ?_, ?_, fun b o e => by simp at e, fun b e => by simp at e, fun i en h => ?_, fun i j p' xs ys h => ?_⟩
          · by_cases hb2 : b = q
            · subst hb2
              rw [upd_same] at e
              cases e
              exact R3.sub _ _ hq
            · rw [upd_ne hb2] at e; cases e
          · refine ⟨?_, q, R3.sub _ _ hp, upd_same⟩
            show upd (fun _ => none) q _ p = none
            rw [upd_ne npq]
          · match i, h with
            | 0, h => simp at h; subst h; exact ⟨_, s0, trivial⟩
            | 1, h => simp at h; subst h; exact ⟨_, s1, .ref p, rfl, .hnd rfl⟩
            | i + 2, h =>
              obtain ⟨so, k1, _⟩ := R3.slots (i + 2) en (by simpa using h)
              have : en = .un := by
                simp [List.getElem?_replicate] at h
                exact h.2.symm
              subst this
              exact ⟨so, k1, trivial⟩
          · match i, h with
            | 0, h => simp at h
            | 1, h => simp at h
            | i + 2, h => simp [List.getElem?_replicate] at h
        · rw [hm]
          intro v H' S' _ _ hv
          cases hv.blE
          exact kQ H'
end FD
set_option Elab.async false
set_option linter.all false
set_option maxRecDepth 100000
set_option maxHeartbeats 2000000
namespace FD
open PySem L2 PyProof.Rows
section
variable {X : Cx} {ah : Option Addr} {E : XK} {c : DC}
/-- x = [e, ..], a list that x alone holds -/
@[simp] def sOwnL (i : Nat) (a : FA) : FS := fun ρ g => (a ρ g).bd fun ys g1 => if ys.length ≤ 1000 then some (.ok (.nx (ρ.set i (.own ys))) g1) else none
theorem pfs_ownL (i : Nat) {x : Str} {es : List Expr} {a : FA} {pos pos' lpos : Pos} (hN : X.N.Nodup) (ha : PFA X ah (fun _ => E) es a) (hi : X.N[i]? = some x := by rfl) (hx : Loc X.env.scope x := by first | exact Or.inl rfl | exact Or.inr rfl) (hs : swapsWith (.List es lpos) (some (.Name x pos')) pos.line X.env = pure false := by rfl)
    (hf : X.fn x = true ∨ X.env.scope.names.lookup x = some .local := by first | exact .inl rfl | exact .inr rfl) : PFS X ah E (.Assign [.Name x pos'] (.List es lpos) pos) (sOwnL i a) := by
  obtain ⟨t, q, r⟩ := ha
  refine ⟨_, ps_set hN hi hx (pe_lst q) hs hf, ⟨fun F ρ g σ H S Z e R G => ?_⟩⟩
  simp only [sOwnL] at G
  refine r.stepS e R G fun H1 S1 g1 vs ds sm R1 hv G => ?_
  by_cases hl : ds.length ≤ 1000
  case neg => rw [if_neg hl] at G; exact G.elim
  rw [if_pos hl] at G
  exact ⟨by rw [hv.length]; exact line_of hl, fun p hp => G _ _ S1 (Same.refl S1) (R1.setOwn i hp (e ▸ hv))⟩
end
end FD
set_option Elab.async false
set_option linter.all false
set_option maxRecDepth 100000
set_option maxHeartbeats 2000000
namespace FD
open PySem L2 PyProof.Rows
section
variable {X : Cx} {ah : Option Addr} {E : L2.St → XK} {c : DC}
/-! # a list as a test -/
def toBL : D → Option Bool
  | .lst xs => some (!xs.isEmpty)
  | _ => none
@[simp] def cTL (a : FE) : FT := fun ρ g => (a ρ g).bd fun x g1 => lift (toBL x) g1
theorem pft_lst {e : Expr} {a : FE} (ha : PF X ah E e a) (he : ∀ whole, isTrue e X.env whole = (do let v ← whole; standAt e.pos; holding [v] (truthy v)) := by intro _; rfl) : PFT X ah E e (cTL a) := by
  obtain ⟨t, q, s⟩ := ha
  refine ⟨_, pt_truth q he, ?_⟩
  refine RG.bind (r := fun σ x H1 (Q : Bool → Hp → Prop) => ∃ k, TruV X.K x H1 k ∧ Q k H1) (k := fun ρ x g1 => lift (toBL x) g1) s fun F ρ g σ H S Q x d e R hx G => ?_
  cases hx with
  | @lst p vs ds h hs =>
    simp only [toBL, lift] at G
    refine ⟨!vs.isEmpty, .inl ⟨vs, SqL.of (R.sub _ _ h), rfl⟩, ?_⟩
    have el : vs.isEmpty = ds.isEmpty := by
      cases hs <;> rfl
    rw [el]
    exact G.ret R rfl
  | _ => simp only [toBL, lift] at G; exact G.elim
end
end FD
set_option Elab.async false
set_option linter.all false
set_option maxRecDepth 100000
set_option maxHeartbeats 2000000
namespace FD
open PySem L2 PyProof.Rows
/-! # own errors whose __init__ keeps nothing -/
def spExN (C : Addr) : Sp := fun vs H Q _ => ∃ a : Addr, vs = [.ref a] ∧ H a = some (exo a C none) ∧ Q .non H
def ExcOk0 (P : Program) (w : World) (K : PySem.W.Frag) (mg : Str → Option Value) (base : Heap) (x : Str) : Prop :=
  ∃ C fI fd ps, mg x = some (.ref C) ∧ OexC K C ∧ PySem.W.findIn K (.ref C) "__init__" = some (some (.ref fI)) ∧ PySem.W.typeIn K (.ref fI) = some (.type "function") ∧ FnOk P w K mg base CX0 1 fI fd ps (spExN C) ∧ Binds K fd ps [] ∧ PySem.W.exmOne K (.ref C) (.ref C) = some true
section
variable {X : Cx} {ah : Option Addr} {E : XK} {c : DC}
/-- pass, the whole body -/
theorem exc_init0 {P : Program} {w : World} {K : PySem.W.Frag} {mg : Str → Option Value} {base : Heap} {qual : Str} {st : Stmt} {fI C : Addr} {fd : FuncData} {p1 : Pos} (F : Fun K "__init__" qual st fI fd) (Sc : FnScope ["self"] ["self"] (defScope st)) (hb : defBody st = [.Pass p1]) :
    FnOk P w K mg base CX0 1 fI fd ["self"] (spExN C) := by
  refine F.ok Sc (fun vs H Q E h => ?_) (fun cdv A outer s H vs Q E hr h => ?_)
  · obtain ⟨a, rfl, _⟩ := h
    rfl
  · obtain ⟨a, rfl, ha, k⟩ := h
    rw [hb]
    exact ⟨_, pss_one ps_pass, k⟩
/-- the error is let go: it had no dict -/
theorem mk_endN {pins : List (Addr × Obj)} {σ : L2.St} {H : Hp} {Q : XK} {h0 h1 h2 : Heap} {g g2 : Array GenState} {d d2 : Drawn} {t t2 : Nat} {os os2 : OsState} {a C : Addr} (T : Raises X (.ref C)) (I : Inv X pins σ H ⟨h0, g, d, t, os⟩)
    (ha : h0.objs.size ≤ a) (k : ∀ b o, h0.get? b = some o → h1.get? b = some o) (un : Un (frs X.stack) [] (upd H a (exo a C none)) (upd H a (exo a C none)) h1 h2) (hok : HOk X.prog X.w (upd H a (exo a C none)) h2) (ho : os2 = os) (hb : AllBare g2) (q : Q (.ref C) none H) : MkP X pins σ Q (.ref a) ⟨h2, g2, d2, t2, os2⟩ := by
  obtain ⟨t0, hoe⟩ := exo_at hok upd_same
  have na : H a = none := I.hok.fresh ha
  have old : ∀ {b : Addr} {o : Obj}, h0.get? b = some o → b ≠ a := fun z => Nat.ne_of_lt (Nat.lt_of_lt_of_le (Heap.lt_size z) ha)
  obtain ⟨G, r1, r2⟩ := restrict h2 fun b => decide (b ≠ a)
  have gk : ∀ {b}, b ≠ a → G.get? b = h2.get? b := fun h => r1 _ (decide_eq_true h)
  have ga : G.get? a = none := r2 a (decide_eq_false fun h => h rfl)
  have st : ∀ {b}, b ≠ a → upd H a (exo a C none) b = H b := fun h => upd_ne h
  have U : Un (frs X.stack) [] H H h0 G := {
    keep := fun b o z n hf hx => (gk (old z)).trans (un.keep b o (k b o z) ((st (old z)).trans n) hf hx)
    slot := fun b o z n hf hx => by
      obtain ⟨sl, e⟩ := un.slot b o (k b o z) ((st (old z)).trans n) hf hx
      exact ⟨sl, (gk (old z)).trans e⟩
    free := fun b o z n hx => n
    there := fun b o z hx => by
      obtain ⟨o', e⟩ := un.there b o (k b o z) hx
      exact ⟨o', (gk (old z)).trans e⟩
    tups := fun b xs z => z
    frzs := fun b o u z => z
    tbls := fun b ps z => ⟨#[], by rw [z]; simp⟩ }
  have O : HOk X.prog X.w H G := fun b o z => by
    have ba : b ≠ a := fun e => by rw [e, na] at z; cases z
    refine (hok b o ((st ba).trans z)).stay (fun c v hc y => (gk ?_).trans y) (fun c hc => ?_) fun c xs hc => ?_
    · intro e
      rcases hc with hc | hc
      · exact ba (hc.symm.trans e)
      · rw [e, upd_same] at hc
        exact exo_own (Option.some.inj hc)
    · have ca : c ≠ a := fun e => by
        rw [e, upd_same] at hc
        exact exo_own (Option.some.inj hc)
      rw [st ca] at hc; exact hc
    · have ca : c ≠ a := fun e => by
        rw [e, upd_same] at hc
        exact exo_tup (Option.some.inj hc)
      rw [st ca] at hc; exact hc
  have J : Inv X pins σ H ⟨G, g2, d2, t2, os2⟩ := I.call' (ch := []) ho U O hb (fun b z => by simp at z)
  refine ⟨a, _, _, ⟨G, g2, d2, t2, os2⟩, _, .ref C, none, rfl, J, fun b o z => ?_, ga, hoe, ⟨rfl, rfl⟩, rfl, rfl, na, rfl, hb, T, q⟩
  by_cases ba : b = a
  · rw [ba, ga] at z; cases z
  · exact (gk ba).symm.trans z
/-- C() -/
theorem pmk_oexN {CX : CXT} {x : Str} {C fI : Addr} {k : Nat} {fd : FuncData} {ps : List Str} {p pos : Pos} (T : OexC X.K C) (iC : PySem.W.findIn X.K (.ref C) "__init__" = some (some (.ref fI))) (tI : PySem.W.typeIn X.K (.ref fI) = some (.type "function"))
    (F1 : FnOk X.prog X.w X.K X.mg X.base CX k fI fd ps (spExN C)) (hr : Room (k + 1) X.A) (hb : Binds X.K fd ps []) (hx : Passes CX X (fun _ _ _ => False)) (hg : Gl X x) (hm : X.mg x = some (.ref C)) (hdb : (x == ("__debug__" : Str)) = false := by decide) :
    PMk X (.Call (.Name x p) [] [] pos) (fun _ H Q => Q (.ref C) none H) := by
  intro pins s σ H Q I h
  obtain ⟨nm, qn, N, bs, bm, sn, sub, ab, col, dd, k0, k1, k2, k3, k5, hC, hbm⟩ := T.cls
  refine wpAny_Call_Name_kw (ld_glob I hg hm ?_ hdb)
  refine PySem.W.callWith_K0 I.kIn T.kC ?_
  show wpAny _ _ (call (.ref C) []) _ _ _
  obtain ⟨hp, g, dr, tk, os⟩ := s
  have hsz : hp.objs.size ≤ hp.objs.size + 1 := Nat.le_succ _
  have up2 : ∀ b o, hp.get? b = some o → ((hp.push (PySem.W.kdv_tup [])).push (PySem.HandSPX.excO C hp.objs.size)).get? b = some o := fun b o e => Heap.get?_push_of_some _ (Heap.get?_push_of_some _ e)
  have there : ((hp.push (PySem.W.kdv_tup [])).push (PySem.HandSPX.excO C hp.objs.size)).get? (hp.objs.size + 1) = some (PySem.HandSPX.excO C hp.objs.size) := by heap_get
  have I2 : Inv X pins σ (upd H (hp.objs.size + 1) (exo (hp.objs.size + 1) C none)) ⟨(hp.push (PySem.W.kdv_tup [])).push (PySem.HandSPX.excO C hp.objs.size), g, dr, tk, os⟩ := I.laid (t' := tk) (a := hp.objs.size + 1) (o := exo (hp.objs.size + 1) C none) (h' := (hp.push (PySem.W.kdv_tup [])).push (PySem.HandSPX.excO C hp.objs.size)) up2 hsz (exo_ok there)
  have r2 : Vals [V.ref (hp.objs.size + 1)] [Value.ref (hp.objs.size + 1)] := .cons rfl .nil
  have hq : spExN C [V.ref (hp.objs.size + 1)] (upd H (hp.objs.size + 1) (exo (hp.objs.size + 1) C none)) (fun v H2 => v = .non ∧ H2 = upd H (hp.objs.size + 1) (exo (hp.objs.size + 1) C none)) (fun _ _ _ => False) := ⟨_, rfl, upd_same, rfl, rfl⟩
  have hl : ([Value.ref (hp.objs.size + 1)] : List Value).length = ps.length := by
    have e := r2.length
    rw [F1.len _ _ _ _ hq] at e
    exact e.symm
  refine wpAny_call (PySem.HandSPX.call_own F.excBase_ValueError (fun Y => PySem.HandSPX.refsVE_contains Y bm hbm) (I.kIn _ _ hC) (PySem.W.looks_findIn I.kIn iC) (fun self => PySem.W.bind_fn I.kIn self tI) (by rw [sizeLine_eq]; simp)
    (codeAny_mono (F1.run _ X.stack _ _ ⟨[Value.ref (hp.objs.size + 1)], []⟩ [Value.ref (hp.objs.size + 1)] _ _ (fun _ _ _ => False) (hr.make C [] []) (I2.env0.make C [] []) (hb _ [Value.ref (hp.objs.size + 1)] I2.kIn (by rw [List.append_nil]; exact hl)) r2 hq) fun r s' hq' => ?_))
  cases r with
  | error er => exact hx pins σ _ _ er s' I2 hq'
  | ok fl =>
    cases fl with
    | ret u =>
      obtain ⟨v, H2, os2, bare2, un2, hok2, rv, rfl, rfl⟩ := hq'
      obtain ⟨h2, g2, d2, t2, os'⟩ := s'
      exact ⟨rv, mk_endN (raises_own T.exC T.tyC) I hsz up2 un2 hok2 os2 bare2 h⟩
    | next => exact False.elim hq'
    | brk => exact False.elim hq'
    | cont => exact False.elim hq'
/-- raise X() -/
@[simp] def sRaise0 (x : Str) : FS := fun _ g => some (.ex x [] [] g)
theorem pfs_raise0 {x : Str} {p pos rpos : Pos} (hc : X.calm = true) (tk : Takes X (fun cls d _ H => E cls d H)) (G : ExcOk0 X.prog X.w X.K X.mg X.base x) (hr : Room 2 X.A) (hg : Gl X x := by rfl) (hdb : (x == ("__debug__" : Str)) = false := by decide) :
    PFS X ah E (.Raise (some (.Call (.Name x p) [] [] pos)) none rpos) (sRaise0 x) := by
  obtain ⟨C, fI, fd, ps, hm, T, iC, tI, F, hb, _⟩ := G
  refine ⟨_, ps_raise hc tk (pmk_oexN (p := p) (CX := CX0) T iC tI F hr hb pass0 hg hm hdb), ⟨fun F ρ g σ H S Z e R G => ?_⟩⟩
  exact G C none H S (by rw [e]; exact hm) (Same.refl S) R.bare ⟨[], rfl, rfl, .nil⟩
end
/-- what the end of the top leaves of such an error -/
def excB0 (K : PySem.W.Frag) (x : Str) : Bool := He.eqO (PySem.W.nsIn K mainGlobals x) (some (some (.ref (He.ga K x)))) && (oexB K (He.ga K x) && (He.eqO (PySem.W.findIn K (.ref (He.ga K x)) "__init__") (some (some (.ref (He.ma K (He.ga K x) "__init__")))) && (decide (PySem.W.typeIn K (.ref (He.ma K (He.ga K x) "__init__")) = some (.type "function")) && decide (PySem.W.exmOne K (.ref (He.ga K x)) (.ref (He.ga K x)) = some true))))
theorem excB0_ok {P : Program} {w : World} {K : PySem.W.Frag} {h : Heap} {mg : Str → Option Value} {base : Heap} {x : Str} (X : K.In h) (G : h.Ns mainGlobals mg) (c : excB0 K x = true) {fd : FuncData} {ps : List Str} (F : FnOk P w K mg base CX0 1 (He.ma K (He.ga K x) "__init__") fd ps (spExN (He.ga K x))) (b : Binds K fd ps []) : ExcOk0 P w K mg base x := by
  obtain ⟨c1, c⟩ := He.ba c
  obtain ⟨c2, c⟩ := He.ba c
  obtain ⟨c5, c⟩ := He.ba c
  obtain ⟨c6, c7⟩ := He.ba c
  exact ⟨_, _, fd, ps, He.glo_ok X G (x := x) c1, oexB_ok c2, He.eqO_ok c5, of_decide_eq_true c6, F, b, of_decide_eq_true c7⟩
end FD
set_option Elab.async false
set_option linter.all false
set_option maxRecDepth 100000
set_option maxHeartbeats 2000000
namespace FD
open PySem L2 PyProof.Rows
/-! # while, least and greatest of a list -/
/-- so many turns at most -/
def whileN (fc : FT) (fb : FS) : Nat → FS
  | 0, _, _ => none
  | n + 1, ρ, g => match fc ρ g with
    | none => none
    | some (.ex c ks es g1) => some (.ex c ks es g1)
    | some (.ok false g1) => some (.ok (.nx ρ) g1)
    | some (.ok true g1) => match fb ρ g1 with
      | none => none
      | some (.ok (.nx ρ2) g2) => whileN fc fb n ρ2 g2
      | some (.ok (.ct ρ2) g2) => whileN fc fb n ρ2 g2
      | some (.ok (.bk ρ2) g2) => some (.ok (.nx ρ2) g2)
      | some (.ok (.rt d) g2) => some (.ok (.rt d) g2)
      | some (.ex c ks es g2) => some (.ex c ks es g2)
section
variable {X : Cx} {ah : Option Addr} {E : XK} {c : DC}
theorem rs_while {tc : TT} {fc : FT} {tb : TS} {fb : FS} (n : Nat) (hc : RT c (fun _ => E) tc fc) (hb : RS c E tb fb) : RS c E (tWhile tc tb) (whileN fc fb n) := by
  refine ⟨fun F ρ g σ H S Z e R G => ?_⟩
  refine ⟨fun m σ H => ∃ ρ g S1, Same S S1 ∧ Rep F ρ g σ H S1 ∧ GotS F S1 E Z (whileN fc fb m ρ g), ⟨n, ρ, g, S, Same.refl S, R, G⟩, ?_⟩
  rintro m σ H ⟨ρ, g, S1, sm, R, G⟩
  cases m with
  | zero => exact G.elim
  | succ m =>
    unfold whileN at G
    refine hc.run F ρ g σ H S1 _ e R ?_
    cases h1 : fc ρ g with
    | none => rw [h1] at G; exact G
    | some o =>
      rw [h1] at G
      cases o with
      | ex cc ks es g1 => exact G
      | ok b g1 =>
        intro b' H1 S2 s2 R1 rb
        cases rb
        cases b with
        | false =>
          show Z.nx σ H1
          exact G σ H1 S2 s2 R1
        | true =>
          refine ⟨fun σ' H' => ∃ ρ g S1, Same S S1 ∧ Rep F ρ g σ' H' S1 ∧ GotS F S1 E Z (whileN fc fb m ρ g), fun σ' H' p => ⟨m, Nat.lt_succ_self m, p⟩, ?_⟩
          refine hb.run F ρ g1 σ H1 S2 _ e R1 ?_
          have G := G.mono s2
          dsimp only at G
          cases h2 : fb ρ g1 with
          | none => rw [h2] at G; exact G
          | some o =>
            rw [h2] at G
            cases o with
            | ex _ _ _ _ => exact G
            | ok f g2 =>
              cases f with
              | nx ρ2 => exact fun σ3 H3 S3 s3 R3 => ⟨ρ2, g2, S3, sm.trans (s2.trans s3), R3, G.mono s3⟩
              | ct ρ2 => exact fun σ3 H3 S3 s3 R3 => ⟨ρ2, g2, S3, sm.trans (s2.trans s3), R3, G.mono s3⟩
              | bk ρ2 => exact G
              | rt d => exact G
theorem pfs_while {e : Expr} {b : List Stmt} {fc : FT} {fb : FS} {pos : Pos} (n : Nat) (hp : PassesOwn (model X.prog X.w) X.A X.env X.xe) (hc : PFT X ah (fun _ => E) e fc) (hb : PFSs X ah E b fb) : PFS X ah E (.While e b [] pos) (whileN fc fb n) := by
  obtain ⟨t, p, r⟩ := hc
  obtain ⟨u, q, s⟩ := hb
  exact ⟨_, ps_while hp p q, rs_while n r s⟩
/-! ### min(xs), max(xs) of a list of numbers -/
def intsD : List D → Option (List Int)
  | [] => some []
  | .int i :: ds => (intsD ds).map (i :: ·)
  | _ => none
theorem intsD_of {S : Hp} : ∀ {vs : List V} {ds : List D} {ns : List Int}, Dns c S vs ds → intsD ds = some ns → vs = ns.map V.int
  | _, _, _, .nil, e => by simp [intsD] at e; subst e; rfl
  | _, _, _, .cons h hs, e => by
    cases h <;> simp only [intsD] at e <;> try cases e
    rw [Option.map_eq_some_iff] at e
    obtain ⟨ns, e1, rfl⟩ := e
    rw [intsD_of hs e1]; rfl
theorem intsD_map : ∀ ns : List Int, intsD (ns.map .int) = some ns
  | [] => rfl
  | n :: ns => by simp [intsD, intsD_map ns]
def minI : List Int → Int
  | [] => 0
  | [n] => n
  | n :: m :: ns => if n ≤ minI (m :: ns) then n else minI (m :: ns)
def maxI : List Int → Int
  | [] => 0
  | [n] => n
  | n :: m :: ns => if maxI (m :: ns) ≤ n then n else maxI (m :: ns)
theorem minI_ok : ∀ {ns : List Int}, ns ≠ [] → minI ns ∈ ns ∧ ∀ y ∈ ns, minI ns ≤ y
  | [], h => (h rfl).elim
  | [n], _ => by simp [minI]
  | n :: m :: ns, _ => by
    obtain ⟨h1, h2⟩ := minI_ok (ns := m :: ns) (by simp)
    unfold minI
    split
    · rename_i h
      refine ⟨by simp, fun y hy => ?_⟩
      rcases List.mem_cons.mp hy with rfl | hy
      · exact Int.le_refl _
      · exact Int.le_trans h (h2 y hy)
    · rename_i h
      refine ⟨List.mem_cons_of_mem _ h1, fun y hy => ?_⟩
      rcases List.mem_cons.mp hy with rfl | hy
      · omega
      · exact h2 y hy
theorem maxI_ok : ∀ {ns : List Int}, ns ≠ [] → maxI ns ∈ ns ∧ ∀ y ∈ ns, y ≤ maxI ns
  | [], h => (h rfl).elim
  | [n], _ => by simp [maxI]
  | n :: m :: ns, _ => by
    obtain ⟨h1, h2⟩ := maxI_ok (ns := m :: ns) (by simp)
    unfold maxI
    split
    · rename_i h
      refine ⟨by simp, fun y hy => ?_⟩
      rcases List.mem_cons.mp hy with rfl | hy
      · exact Int.le_refl _
      · exact Int.le_trans (h2 y hy) h
    · rename_i h
      refine ⟨List.mem_cons_of_mem _ h1, fun y hy => ?_⟩
      rcases List.mem_cons.mp hy with rfl | hy
      · omega
      · exact h2 y hy
def minD : List D → Option D
  | [.lst ds] => if ds = [] then none else (intsD ds).map fun ns => .int (minI ns)
  | _ => none
def maxD : List D → Option D
  | [.lst ds] => if ds = [] then none else (intsD ds).map fun ns => .int (maxI ns)
  | _ => none
theorem cs_min : CallS c (rMin c.K) minD := by
  intro E F ρ g σ H S Q vs ds e R hx G
  subst e
  unfold minD at G
  split at G
  · rename_i ds
    split at G
    · exact G.elim
    rename_i hne
    obtain ⟨v, rfl, hv⟩ := hx.one
    cases hv with
    | lst h hs =>
      cases q : intsD ds with
      | none => rw [q] at G; exact G.elim
      | some ns =>
        rw [q] at G
        have hv := intsD_of hs q
        subst hv
        have nn : ns ≠ [] := fun z => by
          subst z
          have := hs.length
          exact hne (List.eq_nil_of_length_eq_zero (by simpa using this.symm))
        refine ⟨_, ns, rfl, SqL.of (R.sub _ _ h), List.length_pos_iff.mpr nn, fun m m1 m2 => ?_⟩
        obtain ⟨k1, k2⟩ := minI_ok nn
        have : m = minI ns := Int.le_antisymm (m2 _ k1) (k2 _ m1)
        rw [this]
        exact G.ret R (.int _)
  · exact G.elim
theorem cs_max : CallS c (rMax c.K) maxD := by
  intro E F ρ g σ H S Q vs ds e R hx G
  subst e
  unfold maxD at G
  split at G
  · rename_i ds
    split at G
    · exact G.elim
    rename_i hne
    obtain ⟨v, rfl, hv⟩ := hx.one
    cases hv with
    | lst h hs =>
      cases q : intsD ds with
      | none => rw [q] at G; exact G.elim
      | some ns =>
        rw [q] at G
        have hv := intsD_of hs q
        subst hv
        have nn : ns ≠ [] := fun z => by
          subst z
          have := hs.length
          exact hne (List.eq_nil_of_length_eq_zero (by simpa using this.symm))
        refine ⟨_, ns, rfl, SqL.of (R.sub _ _ h), List.length_pos_iff.mpr nn, fun m m1 m2 => ?_⟩
        obtain ⟨k1, k2⟩ := maxI_ok nn
        have : m = maxI ns := Int.le_antisymm (k2 _ m1) (m2 _ k1)
        rw [this]
        exact G.ret R (.int _)
  · exact G.elim
/-! ### x += e, x -= e of numbers -/
def augD (sub : Bool) : D → D → Option D
  | .int i, .int j => some (.int (if sub then i - j else i + j))
  | _, _ => none
@[simp] def sAug (i : Nat) (sub : Bool) (a : FE) : FS := fun ρ g => match ρ[i]? with
  | some (.dt x) => (a ρ g).bd fun y g1 => match augD sub x y with
    | some z => some (.ok (.nx (ρ.set i (.dt z))) g1)
    | none => none
  | _ => none
theorem pfs_augA (i : Nat) {x : Str} {e : Expr} {a : FE} {p' pos : Pos} (hN : X.N.Nodup) (ha : PF X ah (fun _ => E) e a) (hi : X.N[i]? = some x := by rfl) (hx : Loc X.env.scope x := by first | exact Or.inl rfl | exact Or.inr rfl)
    (hf : X.fn x = true ∨ X.env.scope.names.lookup x = some .local := by first | exact .inl rfl | exact .inr rfl) : PFS X ah E (.AugAssign (.Name x p') .Add e pos) (sAug i false a) := by
  obtain ⟨t, q, r⟩ := ha
  refine ⟨_, ps_aug hN hi hx q in_add hf, ⟨fun F ρ g σ H S Z e R G => ?_⟩⟩
  simp only [sAug] at G
  split at G
  case h_2 => exact G.elim
  rename_i d hd
  obtain ⟨so, h1, v, rfl, hv⟩ := R.slots i _ hd
  refine ⟨v, h1, ?_⟩
  refine r.stepS e R G fun H2 S2 g2 y dy sm2 R2 hy G => ?_
  unfold augD at G
  split at G
  case h_2 => exact G.elim
  rename_i z hz
  split at hz
  case h_2 => cases hz
  rename_i i1 j1
  cases hz
  cases hv.intE
  cases hy.intE
  exact ⟨i1, j1, rfl, rfl, G _ _ S2 (Same.refl _) (R2.set i (.int _))⟩
theorem pfs_augS (i : Nat) {x : Str} {e : Expr} {a : FE} {p' pos : Pos} (hN : X.N.Nodup) (ha : PF X ah (fun _ => E) e a) (hi : X.N[i]? = some x := by rfl) (hx : Loc X.env.scope x := by first | exact Or.inl rfl | exact Or.inr rfl)
    (hf : X.fn x = true ∨ X.env.scope.names.lookup x = some .local := by first | exact .inl rfl | exact .inr rfl) : PFS X ah E (.AugAssign (.Name x p') .Sub e pos) (sAug i true a) := by
  obtain ⟨t, q, r⟩ := ha
  refine ⟨_, ps_aug hN hi hx q in_sub hf, ⟨fun F ρ g σ H S Z e R G => ?_⟩⟩
  simp only [sAug] at G
  split at G
  case h_2 => exact G.elim
  rename_i d hd
  obtain ⟨so, h1, v, rfl, hv⟩ := R.slots i _ hd
  refine ⟨v, h1, ?_⟩
  refine r.stepS e R G fun H2 S2 g2 y dy sm2 R2 hy G => ?_
  unfold augD at G
  split at G
  case h_2 => exact G.elim
  rename_i z hz
  split at hz
  case h_2 => cases hz
  rename_i i1 j1
  cases hz
  cases hv.intE
  cases hy.intE
  exact ⟨i1, j1, rfl, rfl, G _ _ S2 (Same.refl _) (R2.set i (.int _))⟩
end
end FD
set_option Elab.async false
set_option linter.all false
set_option maxRecDepth 100000
set_option maxHeartbeats 2000000
namespace FD
open PySem L2 PyProof.Rows
/-! # try with two except clauses, each telling a word -/
def ExcNe (K : PySem.W.Frag) (mg : Str → Option Value) (x y : Str) : Prop := ∀ A C, mg x = some (.ref A) → mg y = some (.ref C) → PySem.W.exmOne K (.ref A) (.ref C) = some false
def excNeB (K : PySem.W.Frag) (x y : Str) : Bool := He.eqO (PySem.W.nsIn K mainGlobals x) (some (some (.ref (He.ga K x)))) && (He.eqO (PySem.W.nsIn K mainGlobals y) (some (some (.ref (He.ga K y)))) && decide (PySem.W.exmOne K (.ref (He.ga K x)) (.ref (He.ga K y)) = some false))
theorem excNeB_ok {K : PySem.W.Frag} {h : Heap} {mg : Str → Option Value} {x y : Str} (X : K.In h) (G : h.Ns mainGlobals mg) (c : excNeB K x y = true) : ExcNe K mg x y := by
  obtain ⟨c1, c⟩ := He.ba c
  obtain ⟨c2, c3⟩ := He.ba c
  intro A C hA hC
  have e1 := (He.glo_ok X G (x := x) c1).symm.trans hA
  have e2 := (He.glo_ok X G (x := y) c2).symm.trans hC
  cases e1
  cases e2
  exact of_decide_eq_true c3
section
variable {X : Cx} {ah : Option Addr} {E : L2.St → XK}
theorem pfws_nil : PFws X ah E [] sNx := ⟨_, pss_nil, ⟨fun F ρ g σ H S Z e R G => G σ H S (Same.refl _) R⟩⟩
theorem pfw_if {c : Expr} {a b : List Stmt} {fc : FT} {fa fb : FS} {pos : Pos} (hc : PFT X ah E c fc) (ha : PFws X ah E a fa) (hb : PFws X ah E b fb) : PFw X ah E (.If c a b pos) (sIf fc fa fb) := by
  obtain ⟨t, p, r⟩ := hc
  obtain ⟨u, q, s⟩ := ha
  obtain ⟨v, q', s'⟩ := hb
  refine ⟨_, ps_if p q q', ⟨fun F ρ g σ H S Z e R G => ?_⟩⟩
  refine r.stepW (k := fun x g1 => if x = true then fa ρ g1 else fb ρ g1) e R G fun H1 S1 g1 w x sm R1 rb G => ?_
  cases rb
  cases w with
  | true => exact s.run F ρ g1 σ H1 S1 Z e R1 G
  | false => exact s'.run F ρ g1 σ H1 S1 Z e R1 G
@[simp] def sTry2 (fb : FS) (x sx y sy : Str) : FS := fun ρ g => match fb ρ g with
  | some (.ex c _ _ g1) => if c = x then some (.ok (.rt (.str sx)) g1) else if c = y then some (.ok (.rt (.str sy)) g1) else none
  | m => m
theorem pfs_try2 {E : XK} {x y sx sy : Str} {body : List Stmt} {fb : FS} {jx jy : _} {n1 n2 p1 p2 r1 r2 q1 q2 pos : Pos} (Gx : ExcOk0 X.prog X.w X.K X.mg X.base x) (Gy : ExcOk0 X.prog X.w X.K X.mg X.base y) (ne : ExcNe X.K X.mg y x)
    (hbody : ∀ (W : WX) (pn : List (Addr × Obj)) (xe : Value → Shared → Prop), Takes (X.tr pn xe) W → PassesOwn (model X.prog X.w) X.A X.env xe → PFws (X.tr pn xe) ah (WE W) body fb)
    (hs : X.stack = X.env :: X.outer := by rfl) (hf : X.env.frame = some X.env.locals := by rfl) (hgx : Gl X x := by rfl) (hdx : (x == ("__debug__" : Str)) = false := by decide) (hgy : Gl X y := by rfl) (hdy : (y == ("__debug__" : Str)) = false := by decide) :
    PFS X ah E (.Try body [.ExceptHandler (some (.Name x n1)) none [.Return (some (.Constant (.str sx) jx p1)) r1] q1, .ExceptHandler (some (.Name y n2)) none [.Return (some (.Constant (.str sy) jy p2)) r2] q2] [] [] pos) (sTry2 fb x sx y sy) := by
  obtain ⟨A, fA, fdA, psA, hmA, TA, iA, tA, FA, bA, teA⟩ := Gx
  obtain ⟨B, fB, fdB, psB, hmB, TB, iB, tB, FB, bB, teB⟩ := Gy
  have ch := fun W => choose_ws (X := X) (ah := ah) (W := W) (hbody W)
  refine ⟨_, ps_try_many (tb := fun W => (ch W).choose) (Wout := fun _ _ _ _ => False) (l := [(.ref A, fun a cls d => tRet (tC (.str sx))), (.ref B, fun a cls d => tRet (tC (.str sy)))]) hs hf takes0 (fun W pn xe tk hp => (ch W).choose_spec.1 pn xe tk hp)
    (.cons ⟨hgx, hdx, .inl hmA⟩ (fun a oe cls d pn hz hof => pss_one (ps_ret pe_str)) (.cons ⟨hgy, hdy, .inl hmB⟩ (fun a oe cls d pn hz hof => pss_one (ps_ret pe_str)) .nil)), ⟨fun F ρ g σ H S Z e R G => ?_⟩⟩
  refine (ch _).choose_spec.2.run F ρ g σ H S Z e R ?_
  simp only [sTry2] at G
  cases h : fb ρ g with
  | none => rw [h] at G; exact G
  | some o => cases o with
    | ok fl g1 => rw [h] at G; cases fl <;> exact G
    | ex cc ks ds g1 =>
      rw [h] at G
      dsimp only at G
      intro C dd H' S' hC sm R' hx
      rw [e] at hC
      by_cases h1 : cc = x
      · rw [if_pos h1] at G
        subst h1
        have hC' : C = A := by
          have : some (Value.ref C) = some (Value.ref A) := hC.symm.trans hmA
          injection this with this
          injection this
        subst hC'
        refine ⟨true, teA, fun _ a na => ?_, fun z => by cases z⟩
        exact G (.str sx) H' S' sm R' (.str sx)
      · rw [if_neg h1] at G
        by_cases h2 : cc = y
        · rw [if_pos h2] at G
          subst h2
          have hC' : C = B := by
            have : some (Value.ref C) = some (Value.ref B) := hC.symm.trans hmB
            injection this with this
            injection this
          subst hC'
          refine ⟨false, ne C A hmB hmA, (fun z => by cases z), fun _ => ⟨true, teB, fun _ a na => ?_, fun z => by cases z⟩⟩
          exact G (.str sy) H' S' sm R' (.str sy)
        · rw [if_neg h2] at G; exact G.elim
end
end FD
set_option Elab.async false
set_option linter.all false
set_option maxRecDepth 100000
set_option maxHeartbeats 2000000
namespace FD
open PySem PySem.Spec PyProof.Rows L2
/-! # {el for t0 in i0 for t1 in i1}, of whole numbers -/
abbrev twoFor (el t0 i0 t1 i1 : Expr) (sc : Scope) (ps : Pos) : Expr := .SetComp el [⟨t0, i0, [], 0⟩, ⟨t1, i1, [], 0⟩] sc ps
theorem turn_outer (el t0 i0 t1 i1 : Expr) (sc : Scope) (ps : Pos) (it acc : Value) (env : Env) : compTurn (twoFor el t0 i0 t1 i1 sc ps) 0 it acc env = (do
    standAt i0.pos
    match ← pyNext it with
    | none => pure (.done .next)
    | some v => (do
      letOwnedTupleGo t0 it v
      assign t0 env v
      let x ← eval i1 env
      standAt i1.pos
      let y ← foldedSetIterable i1 env x
      let j ← holding [y] (pyIter y)
      let _ ← runOwn (.compStart (twoFor el t0 i0 t1 i1 sc ps) 1 j acc env) env
      again (.compLoop (twoFor el t0 i0 t1 i1 sc ps) 0 it acc env))) := by rfl
theorem turn_inner (el t0 i0 t1 i1 : Expr) (sc : Scope) (ps : Pos) (it acc : Value) (env : Env) : compTurn (twoFor el t0 i0 t1 i1 sc ps) 1 it acc env = (do
    standAt i1.pos
    match ← pyNext it with
    | none => pure (.done .next)
    | some v => (do
      letOwnedTupleGo t1 it v
      assign t1 env v
      (do
        let x ← eval el env
        standAt el.pos
        let _ ← call (.builtin "set.add") [acc, x])
      again (.compLoop (twoFor el t0 i0 t1 i1 sc ps) 1 it acc env))) := by rfl
section
variable {prog : Program} {w : World} {A : Around} {R : Result → Shared → Prop} {el t0 i0 t1 i1 : Expr} {sc : Scope} {ps : Pos} {it acc : Value} {env : Env}
/-- how an error leaves the block -/
abbrev NoteR (prog : Program) (w : World) (A : Around) (R : Result → Shared → Prop) (env : Env) : Value → Shared → Prop := notedBy (model prog w) A env fun e u => R (.error e) u
/-- all turns of the first for -/
theorem outer_for (hs : ∀ x, foldedSetIterable i1 env x = pure x) (I : Nat → Shared → Prop)
    (turn : ∀ n s, I n s → wpAny (model prog w) A (pyNext it) (fun r s1 => match r with
      | none => R (.ok .next) s1
      | some v => wpAny (model prog w) A (letOwnedTupleGo t0 it v) (fun _ s2 => wpAny (model prog w) A (assign t0 env v) (fun _ s3 => wpAny (model prog w) A (eval i1 env) (fun x s4 => wpAny (model prog w) A (pyIter x) (fun j s5 =>
          codeAny (model prog w) A (.compStart (twoFor el t0 i0 t1 i1 sc ps) 1 j acc env) (fun r u => match r with
            | .ok _ => ∃ m, m < n ∧ I m u
            | .error _ => False) s5) (NoteR prog w A R env) s4) (NoteR prog w A R env) s3) (NoteR prog w A R env) s2) (NoteR prog w A R env) s1) (NoteR prog w A R env) s)
    (n : Nat) (s : Shared) (h : I n s) : codeAny (model prog w) A (.compLoop (twoFor el t0 i0 t1 i1 sc ps) 0 it acc env) R s := by
  refine codeAny_loop rfl I (fun n s hI => ?_) n h
  show wpAny _ A ((compTurn (twoFor el t0 i0 t1 i1 sc ps) 0 it acc env).onRaise (fun x => do noteFrame x env; theTreesLotGoes x)) _ _ s
  refine wpAny_noted ?_
  rw [turn_outer]
  refine wpAny_bind (wpAny_standAt (wpAny_bind (wpAny_mono (turn n s hI) (fun r s1 q1 => ?_) fun _ _ z => z)))
  cases r with
  | none => exact wpAny_pure q1
  | some v =>
    refine wpAny_bind (wpAny_mono q1 (fun _ s2 q2 => wpAny_bind (wpAny_mono q2 (fun _ s3 q3 => wpAny_bind (wpAny_mono q3 (fun x s4 q4 => ?_) fun _ _ z => z)) fun _ _ z => z)) fun _ _ z => z)
    refine wpAny_bind (wpAny_standAt (wpAny_bind (wpAny_of_eq (hs x) (wpAny_bind (wpAny_holding (wpAny_mono q4 (fun j s5 q5 => ?_) fun _ _ z => z))))))
    refine wpAny_bind (wpAny_runOwn ?_)
    rw [Around.mark_none]
    refine codeAny_mono q5 fun r u hr => ?_
    cases r with
    | error e => exact hr.elim
    | ok f => first | exact wpAny_pure ⟨rfl, hr⟩ | exact wpAny_bind (wpAny_pure (wpAny_pure ⟨rfl, hr⟩))
/-- all turns of the second -/
theorem inner_for (I : Nat → Shared → Prop)
    (turn : ∀ n s, I n s → wpAny (model prog w) A (pyNext it) (fun r s1 => match r with
      | none => R (.ok .next) s1
      | some v => wpAny (model prog w) A (letOwnedTupleGo t1 it v) (fun _ s2 => wpAny (model prog w) A (assign t1 env v) (fun _ s3 => wpAny (model prog w) A (eval el env) (fun x s4 =>
          wpAny (model prog w) A (call (.builtin "set.add") [acc, x]) (fun _ u => ∃ m, m < n ∧ I m u) (NoteR prog w A R env) s4) (NoteR prog w A R env) s3) (NoteR prog w A R env) s2) (NoteR prog w A R env) s1) (NoteR prog w A R env) s)
    (n : Nat) (s : Shared) (h : I n s) : codeAny (model prog w) A (.compLoop (twoFor el t0 i0 t1 i1 sc ps) 1 it acc env) R s := by
  refine codeAny_loop rfl I (fun n s hI => ?_) n h
  show wpAny _ A ((compTurn (twoFor el t0 i0 t1 i1 sc ps) 1 it acc env).onRaise (fun x => do noteFrame x env; theTreesLotGoes x)) _ _ s
  refine wpAny_noted ?_
  rw [turn_inner]
  refine wpAny_bind (wpAny_standAt (wpAny_bind (wpAny_mono (turn n s hI) (fun r s1 q1 => ?_) fun _ _ z => z)))
  cases r with
  | none => exact wpAny_pure q1
  | some v =>
    refine wpAny_bind (wpAny_mono q1 (fun _ s2 q2 => wpAny_bind (wpAny_mono q2 (fun _ s3 q3 => ?_) fun _ _ z => z)) fun _ _ z => z)
    exact wpAny_bind (wpAny_bind (wpAny_mono q3 (fun x s4 q4 => wpAny_bind (wpAny_standAt (wpAny_bind (wpAny_mono q4 (fun _ u hu => wpAny_pure (wpAny_pure ⟨rfl, hu⟩)) fun _ _ z => z)))) fun _ _ z => z))
/-- the second for begins -/
theorem inner_begins {s : Shared} (h0 : codeAny (model prog w) A (.compLoop (twoFor el t0 i0 t1 i1 sc ps) 1 it acc env) R s)
    (h : wpAny (model prog w) A (pyIter it) (fun j u => codeAny (model prog w) A (.compLoop (twoFor el t0 i0 t1 i1 sc ps) 1 j acc env) R u) (NoteR prog w A R env) s) : codeAny (model prog w) A (.compStart (twoFor el t0 i0 t1 i1 sc ps) 1 it acc env) R s := by
  refine codeAny_of_tree ?_
  show wpAny _ _ ((compStart (twoFor el t0 i0 t1 i1 sc ps) 1 it acc env).onRaise (fun x => do noteFrame x env; standAt theWindowsPlace)) _ _ s
  refine wpAny_notedAt ?_
  unfold compStart
  show wpAny _ _ (ask >>= _) _ _ s
  refine wpAny_bind (wpAny_askSetting (wpAny_ite ?_))
  split
  · first | exact wpAny_pure (And.intro rfl h0) | exact wpAny_bind (wpAny_pure (wpAny_pure (And.intro rfl h0)))
  · refine wpAny_bind (wpAny_rule ?_)
    show wpAny _ _ (standAt i1.pos >>= _) _ _ s
    exact wpAny_bind (wpAny_standAt (wpAny_bind (wpAny_mono h (fun j u q => wpAny_pure (And.intro rfl q)) fun _ _ z => z)))
end
end FD
set_option Elab.async false
set_option linter.all false
set_option maxRecDepth 100000
set_option maxHeartbeats 4000000
namespace FD
open PySem PySem.Spec PyProof.Rows L2
/-- the set so far, with one number more -/
abbrev withK (w : World) (D : Addr) (S : Int → Bool) (n : Nat) (k : Int) : HO := SetO w D (fun j => S j || decide (j = k)) (if S k = true then n else n + 1)
/-- {el for t0 in i0 for t1 in i1}: W goes with the turns of the first for, V with those of the second -/
def tSc2 (w : World) (ti : TI) (g : TG) (ti1 : TI) (g1 : TG) (te : TE) (vs vs1 : List Nat) : TE := fun σ H Q => ti σ H fun J H1 => ∀ D, H1 D = none → ∃ W : Nat → Nat → Hp → Prop, (∃ m, W 0 m (upd H1 D (SetO w D (fun _ => false) 0))) ∧ ∀ i m H, W i m H →
  (J.stop i H ∧ Q (.ref D) H) ∨ (J.go i H ∧ ∃ B : Hp → Prop, (∀ H', B H' → ∃ m', m' < m ∧ W (i + 1) m' H') ∧ ∀ x H', J.yld i H x H' → g x (wipe σ vs) H' fun σ2 H2 => wipe σ2 vs = wipe σ vs ∧ ti1 σ2 H2 fun J1 H3 => ∃ V : Nat → Nat → Hp → Prop, (∃ k, V 0 k H3) ∧ ∀ j k H, V j k H →
    (J1.stop j H ∧ B H) ∨ (J1.go j H ∧ ∃ B1 : Hp → Prop, (∀ H', B1 H' → ∃ k', k' < k ∧ V (j + 1) k' H') ∧ ∀ x H', J1.yld j H x H' → g1 x (wipe σ2 vs1) H' fun σ3 H4 => wipe σ3 vs1 = wipe σ2 vs1 ∧
      te σ3 H4 fun y H5 => ∃ (c : Int) (S : Int → Bool) (n : Nat), y = .int c ∧ H5 D = some (SetO w D S n) ∧ n + 1 < scanBound ∧ B1 (upd H5 D (withK w D S n c))))
section
variable {X : Cx}
theorem addK_ok {pins : List (Addr × Obj)} {σ : L2.St} {H : Hp} {s : Shared} {E : Value → Shared → Prop} {D : Addr} {S : Int → Bool} {n : Nat} {y : Int} {v : Value} {Q : Value → Shared → Prop} (I : Inv X pins σ H s) (hD : H D = some (SetO X.w D S n)) (room : n + 1 < scanBound) (r : RelV (.int y) v)
    (h : ∀ u, Inv X pins σ (upd H D (withK X.w D S n y)) u → Q .none u) : wpAny (model X.prog X.w) X.A (call (.builtin "set.add") [.ref D, v]) Q E s := by
  obtain ⟨tk, rfl⟩ := r
  refine setR_add (setO_get I hD) room fun h' sb new => ?_
  have there : ∃ u, h'.get? D = some u := by
    obtain ⟨o, _, _, _, ho, _⟩ := id new
    exact ⟨o, ho⟩
  exact h _ (I.write (e := D) (t' := s.toks + 1) (by rw [hD]; trivial) (.inl rfl) (fun b u hb hu => (sb.2 b hb).trans hu) there (setO_new new))
theorem sc2_ok {pins : List (Addr × Obj)} {s : Shared} {σ : L2.St} {H : Hp} {Q : VK} {el t0 i0 t1 i1 : Expr} {scope : Scope} {own : List (PySem.Str × Nat)} {vs1 : List Nat} {pos pos' : Pos} {ti ti1 : TI} {g g1 : TG} {te : TE} {use : Option (Value → Sem Unit)} {Qf : Value → Shared → Prop}
    (hc : X.calm = true) (hN : X.N.Nodup) (I : Inv X pins σ H s) (hi : PI X t0 i0 ti) (ok : BlkOk X.N X.env.scope scope own) (hv : ∀ i ∈ vs1, i ∈ own.map (·.2))
    (hb : ∀ (s : Shared) (H : Hp) (C : Addr) (cl : List (PySem.Str × Addr)) (fp : List Addr), PG (X.blk s H scope (compEnvC scope cl C X.env) fp) t0 g ∧ PI (X.blk s H scope (compEnvC scope cl C X.env) fp) t1 i1 ti1 ∧ PG (X.blk s H scope (compEnvC scope cl C X.env) fp) t1 g1 ∧ PE (X.blk s H scope (compEnvC scope cl C X.env) fp) el te)
    (hs : ∀ x, foldedSetIterable i0 X.env x = pure x) (hs1 : ∀ env x, foldedSetIterable i1 env x = pure x) (h : tSc2 X.w ti g ti1 g1 te (own.map (·.2)) vs1 σ H Q)
    (hR : ∀ D C u m H', Inv X pins σ H' u → Q (.ref D) H' → u.heap.Ns C m → FpOk X pins H' C → compPost (model X.prog X.w) X.A X.xe use Qf (.ref D) C (.ok .next) u) :
    wpAny (model X.prog X.w) X.A (comprehension (twoFor el t0 i0 t1 i1 scope pos) scope X.env pos' (newSet (.type "set")) false (eval i0 X.env) use) Qf X.xe s := by
  have free : ∀ y ∈ scope.names, y.2 = .free → ∃ c, X.env.cells.lookup y.1 = some c := fun y hy e => (ok.free y hy e).elim (fun k => I.ok.has _ (.inl k)) fun k => I.ok.has _ (.inr k)
  refine wpAny_comprehension_free (use := use) rfl hs (closure_ok free) ok.kind (fun y hy e => by rw [ok.uniq y hy, e]) (thn (hi.run pins s σ H _ I h) fun xv sa hx => thn hx fun itv sb hb2 => ?_)
  obtain ⟨it, fp, tn, J, H2, rfl, I2, T, st2, f2, q⟩ := hb2
  refine PpSet.newSet_ok (newEnv_comp ?_)
  generalize hD : sb.heap.objs.size = D
  obtain ⟨W, ⟨m0, w0⟩, turn⟩ := q D (I2.hok.fresh (Nat.le_of_eq hD))
  -- the set is laid
  generalize hsc : ({ sb with heap := sb.heap.push { cls := .type "set", dict := none, data := .set #[] 0 (.fresh 0 0 (!X.w.params.followText "set-order")) } } : Shared) = sc
  have hph : sc.heap = sb.heap.push { cls := .type "set", dict := none, data := .set #[] 0 (.fresh 0 0 (!X.w.params.followText "set-order")) } := by rw [← hsc]
  have Ic : Inv X pins σ (upd H2 D (SetO X.w D (fun _ => false) 0)) sc := by
    rw [← hsc]
    refine I2.laid (t' := sb.toks) (fun b o e => Heap.get?_push_of_some _ e) (Nat.le_of_eq hD) ?_
    rw [← hD]
    exact setO_new (setR_fresh X.w)
  have below : ∀ b ∈ fp, b < sb.heap.objs.size := fun b hb => by
    obtain ⟨o, e, _⟩ := T.obj _ _ st2 b hb
    exact Heap.lt_size e
  have fc : ∀ b ∈ fp, FpOk X pins (upd H2 D (SetO X.w D (fun _ => false) 0)) b ∧ b < sc.heap.objs.size := fun b hb => by
    refine ⟨⟨?_, (f2 b hb).2⟩, by rw [hph, Heap.size_push]; exact Nat.lt_succ_of_lt (below b hb)⟩
    rw [upd_ne (by rw [← hD]; exact Nat.ne_of_lt (below b hb))]
    exact (f2 b hb).1
  have stc : tn 0 sc.heap := T.keep _ _ _ st2 fun b _ o e => by rw [hph]; exact Heap.get?_push_of_some _ e
  have Id := block_start Ic ok hN fc
  obtain ⟨pg, pi1, pg1, pe⟩ := hb sc (upd H2 D (SetO X.w D (fun _ => false) 0)) sc.heap.objs.size (cellsFrom (sc.heap.objs.size + 1) scope.names (cloFrom X.env.cells scope.names [])) fp
  show codeAny _ _ (.compStart (twoFor el t0 i0 t1 i1 scope pos) 0 (.ref it) (.ref D) (compEnvC scope (cellsFrom (sc.heap.objs.size + 1) scope.names (cloFrom X.env.cells scope.names [])) sc.heap.objs.size X.env)) (compPost (model X.prog X.w) X.A X.xe use Qf (.ref D) sc.heap.objs.size) { sc with heap := pushCells (sc.heap.push { cls := .type "dict", data := .dict #[] }) scope.names }
  have nfp : ∀ b ∈ fp, (upd H2 D (SetO X.w D (fun _ => false) 0)) b = none := fun b hb => (fc b hb).1.1
  generalize hce : compEnvC scope (cellsFrom (sc.heap.objs.size + 1) scope.names (cloFrom X.env.cells scope.names [])) sc.heap.objs.size X.env = ce at Id pg pi1 pg1 pe ⊢
  have cL : ce.locals = sc.heap.objs.size := by subst hce; rfl
  generalize hHc : upd H2 D (SetO X.w D (fun _ => false) 0) = Hc at Ic Id pg pi1 pg1 pe w0 nfp fc
  generalize hsd : ({ sc with heap := pushCells (sc.heap.push { cls := .type "dict", data := .dict #[] }) scope.names } : Shared) = sd at Id ⊢
  have std : tn 0 sd.heap := T.keep _ _ _ stc fun b _ o e => by rw [← hsd]; exact pushCells_keeps _ _ _ _ (Heap.get?_push_of_some _ e)
  have at0 : ∀ {σ' : L2.St} {H' : Hp} {u : Shared}, Inv (X.blk sc Hc scope ce fp) [] σ' H' u → (∀ b ∈ fp, H' b = none) → ∀ b ∈ fp, FpOk (X.blk sc Hc scope ce fp) [] H' b := fun {σ' H' u} K hn b hb =>
    ⟨hn b hb, (K.ok.exf b hb).1, K.ok.exfs b hb, .inl hb, fun x c e => (K.ok.exf b hb).2 x c e, fun p hp => absurd (show p ∈ ([] : List (Addr × Obj)) ++ [] from hp) (by simp)⟩
  let ρ0 := wipe σ (own.map (·.2))
  let P0 : Nat → Shared → Prop := fun n u => ∃ i H', Inv (X.blk sc Hc scope ce fp) [] ρ0 H' u ∧ tn i u.heap ∧ (∀ b ∈ fp, H' b = none) ∧ W i n H'
  have loop : codeAny (model X.prog X.w) X.A (.compLoop (twoFor el t0 i0 t1 i1 scope pos) 0 (.ref it) (.ref D) ce) (compPost (model X.prog X.w) X.A X.xe use Qf (.ref D) sc.heap.objs.size) sd := by
    refine outer_for (hs1 ce) P0 ?_ m0 sd ⟨0, Hc, Id, std, nfp, w0⟩
    rintro n s5 ⟨i, H5, I5, st5, n5, w5⟩
    rcases turn i n H5 w5 with ⟨stop, qq⟩ | ⟨go, B, hB, goes⟩
    · refine thnF (T.done (X.blk sc Hc scope ce fp) rfl rfl rfl hc i [] s5 _ H5 (fun _ _ => False) I5 (at0 I5 n5) st5 stop) fun r s6 ⟨hr, I6⟩ => ?_
      subst hr
      have I7 : Inv X pins σ H5 s6 := Ic.call' (ch := fp) I6.os I6.base I6.hok I6.bare fun b hb => ⟨(fc b hb).1.2.2.2.1, (fc b hb).1.2.1, (fc b hb).1.2.2.2.2.1, (fc b hb).1.2.2.2.2.2⟩
      have nC : H5 sc.heap.objs.size = none := cL ▸ (I6.free : H5 ce.locals = none)
      obtain ⟨m, hn, _⟩ := I6.loc
      exact hR D sc.heap.objs.size s6 m H5 I7 qq (cL ▸ (hn : s6.heap.Ns ce.locals m)) (Ic.fpOk (Nat.le_refl _) nC)
    · refine thnF (T.item (X.blk sc Hc scope ce fp) rfl rfl rfl hc i [] s5 _ H5 (fun _ _ => False) I5 (at0 I5 n5) st5 go) fun r s6 ⟨u, hr, h6⟩ => ?_
      subst hr
      refine thnF h6 fun _ s7 ⟨x, H7, I7, r7, y7, st7, n7⟩ => ?_
      refine thnF (pg.run _ s7 _ H7 x u _ (I7.pinned (at0 I7 n7) (T.obj _ _ st7)) r7 (goes x H7 y7)) fun _ s8 ⟨σ8, H8, I8, hw8, q8⟩ => ?_
      refine thnF (pi1.run _ s8 σ8 H8 _ I8 q8) fun xv s9 hx => thnF hx fun jv sA hA => ?_
      obtain ⟨it1, fp1, tn1, J1, HA, rfl, IA, T1, stA, fA, V, ⟨k0, v0⟩, turn1⟩ := hA
      have len8 : ρ0.length = σ8.length := by show (wipe σ (own.map (·.2))).length = _; rw [← hw8, wipe_length]
      have keep8 : ∀ (j : Nat) v, ρ0[j]? = some (some v) → (wipe σ8 vs1)[j]? = some (some v) := fun j v e => by
        have e : (wipe σ (own.map (·.2)))[j]? = some (some v) := e
        rw [← hw8] at e
        obtain ⟨e1, e2⟩ := wipe_some e
        rw [wipe_out fun z => e2 (hv j z)]
        exact e1
      -- one turn of the first for is done
      have fin : ∀ {u : Shared} {H' : Hp}, Inv (X.blk sc Hc scope ce fp) ([] ++ pinsAt fp s7.heap) (wipe σ8 vs1) H' u → B H' → ∃ m, m < n ∧ P0 m u := fun {u H'} K bb => by
        obtain ⟨m', hm, w'⟩ := hB H' bb
        have pin : ∀ b ∈ fp, ∀ o, s7.heap.get? b = some o → u.heap.get? b = some o ∧ H' b = none := fun b hb o e =>
          let z := K.pin (b, o) (List.mem_append_right _ (List.mem_append_right _ (mem_pinsAt hb e)))
          ⟨z.1, z.2.1⟩
        refine ⟨m', hm, i + 1, H', (K.unpinned (pins := [])).weak (len8.trans (wipe_length σ8 vs1).symm) keep8, T.keep _ _ _ st7 fun b hb o e => (pin b hb o e).1, fun b hb => ?_, w'⟩
        obtain ⟨o, e, _⟩ := T.obj _ _ st7 b hb
        exact (pin b hb o e).2
      have at1 : ∀ {H' : Hp}, (∀ b ∈ fp1, H' b = none) → ∀ b ∈ fp1, FpOk (X.blk sc Hc scope ce fp) ([] ++ pinsAt fp s7.heap) H' b := fun hn b hb => ⟨hn b hb, (fA b hb).2⟩
      let P1 : Nat → Shared → Prop := fun k u => ∃ j H', Inv (X.blk sc Hc scope ce fp) ([] ++ pinsAt fp s7.heap) (wipe σ8 vs1) H' u ∧ tn1 j u.heap ∧ (∀ b ∈ fp1, H' b = none) ∧ V j k H'
      have loop1 : codeAny (model X.prog X.w) X.A (.compLoop (twoFor el t0 i0 t1 i1 scope pos) 1 (.ref it1) (.ref D) ce) (fun r u => match r with
          | .ok _ => ∃ m, m < n ∧ P0 m u
          | .error _ => False) sA := by
        refine inner_for P1 ?_ k0 sA ⟨0, HA, IA.weak (wipe_length _ _) (fun j v e => (wipe_some e).1), stA, fun b hb => (fA b hb).1, v0⟩
        rintro k sB ⟨j, HB, IB, stB, nB, vB⟩
        rcases turn1 j k HB vB with ⟨stop1, b1⟩ | ⟨go1, B1, hB1, goes1⟩
        · refine thnF (T1.done (X.blk sc Hc scope ce fp) rfl rfl rfl hc j _ sB (wipe σ8 vs1) HB (fun _ _ => False) IB (at1 nB) stB stop1) fun r sC ⟨hr, IC⟩ => ?_
          subst hr
          exact fin IC b1
        · refine thnF (T1.item (X.blk sc Hc scope ce fp) rfl rfl rfl hc j _ sB (wipe σ8 vs1) HB (fun _ _ => False) IB (at1 nB) stB go1) fun r sC ⟨u1, hr, hC⟩ => ?_
          subst hr
          refine thnF hC fun _ sE ⟨x1, HE, IE, rE, yE, stE, nE⟩ => ?_
          refine thnF (pg1.run _ sE (wipe σ8 vs1) HE x1 u1 _ (IE.pinned (at1 nE) (T1.obj _ _ stE)) rE (goes1 x1 HE yE)) fun _ sF ⟨σF, HF, IF, hwF, qF⟩ => ?_
          refine thnF (pe.run _ sF σF HF _ IF qF) fun z sG ⟨yv, HG, IG, rG, c, S, num, ey, hDG, room, bb⟩ => ?_
          subst ey
          refine addK_ok (X := X.blk sc Hc scope ce fp) IG hDG room rG fun sH IH => ?_
          obtain ⟨k', hk, v'⟩ := hB1 _ bb
          have pin : ∀ b ∈ fp1, ∀ o, sE.heap.get? b = some o → sH.heap.get? b = some o ∧ _ = none := fun b hb o e =>
            let z := IH.pin (b, o) (List.mem_append_right _ (List.mem_append_right _ (mem_pinsAt hb e)))
            ⟨z.1, z.2.1⟩
          refine ⟨k', hk, j + 1, _, IH.unpinned.weak (by rw [← hwF, wipe_length]) (fun j v e => by rw [← hwF] at e; exact (wipe_some e).1), T1.keep _ _ _ stE fun b hb o e => (pin b hb o e).1, fun b hb => ?_, v'⟩
          obtain ⟨o, e, _⟩ := T1.obj _ _ stE b hb
          exact (pin b hb o e).2
      exact inner_begins loop1 (T1.self X.A 0 _ _ _ stA loop1)
  exact PpSet.codeAny_compStart_set loop (T.self X.A 0 _ _ _ std loop)
end
end FD
set_option Elab.async false
set_option linter.all false
set_option maxRecDepth 100000
set_option maxHeartbeats 4000000
namespace FD
open PySem PySem.Spec PyProof.Rows L2
/-! # sorted({x for l in s for x in l}), three names -/
def lotsOf : List D → Option (List (List Int))
  | [] => some []
  | .tup xs :: ds => (intsOf xs).bind fun ns => (lotsOf ds).map (ns :: ·)
  | _ => none
def unionD : D → Option D
  | .lst ds => (lotsOf ds).bind fun Ls => if Ls.flatten.eraseDups.length ≤ 60 then some (.lst ((sortSet Ls.flatten).map .int)) else none
  | _ => none
@[simp] def cUnion (s l x : Nat) : FE := fun ρ g => match ρ[s]? with
  | some (.dt d) => if (ρ[l]?).isSome = true ∧ (ρ[x]?).isSome = true ∧ l ≠ x then lift (unionD d) g else none
  | _ => none
section
variable {X : Cx} {ah : Option Addr} {E : L2.St → XK} {c : DC}
theorem lots_at {S : Hp} : ∀ {vs : List V} {ds : List D} {Ls : List (List Int)}, Dns c S vs ds → lotsOf ds = some Ls → vs.length = Ls.length ∧ ∀ (i : Nat) (L : List Int), Ls[i]? = some L → ∃ a, vs[i]? = some (.ref a) ∧ SqT c.K S a (L.map V.int)
  | _, _, _, .nil, e => by
    simp [lotsOf] at e
    subst e
    exact ⟨rfl, fun i L h => by simp at h⟩
  | _, _, _, .cons h hs, e => by
    cases h <;> simp only [lotsOf] at e <;> try cases e
    rename_i a ws xs ht hw
    cases q : intsOf xs with
    | none => rw [q] at e; cases e
    | some ns =>
      rw [q] at e
      simp only [Option.bind_some, Option.map_eq_some_iff] at e
      obtain ⟨Ls, e1, rfl⟩ := e
      obtain ⟨k1, k2⟩ := lots_at hs e1
      have hv := intsOf_ok hw q
      subst hv
      refine ⟨by simp [k1], fun i L h => ?_⟩
      cases i with
      | zero =>
        have : ns = L := by simpa using h
        subst this
        exact ⟨a, rfl, ht⟩
      | succ i => exact k2 i L (by simpa using h)
theorem Rep.junk {F : Fx} {ρ : List En} {g : Gh} {σ : L2.St} {H S : Hp} (R : Rep F ρ g σ H S) {p : Addr} (o : HO) (hp : H p = none) : Rep F ρ g σ (upd H p o) S := by
  refine ⟨fun b u e => by rw [upd_ne (ne_of_none (R.sub _ _ e) hp)]; exact R.sub _ _ e, R.hand.up1 (R.new_ah hp), fun b u e h => by rw [upd_ne (ne_of_none (R.keep b u e h) hp)]; exact R.keep b u e h, R.stay, fun j e h => ?_, R.apart⟩
  obtain ⟨so, h1, h2⟩ := R.slots j e h
  refine ⟨so, h1, ?_⟩
  cases e with
  | un => trivial
  | dt d => exact h2
  | hold ks zs =>
    obtain ⟨q, vs, e1, e2, e3, e4, e5, e6⟩ := h2
    exact ⟨q, vs, e1, e2, e3, e4, by rw [upd_ne (ne_of_none e5 hp)]; exact e5, e6⟩
theorem wipe2 (σ : L2.St) (vs : List Nat) : L2.wipe (L2.wipe σ vs) vs = L2.wipe σ vs := by
  apply List.ext_getElem?
  intro j
  rw [wipe_get, wipe_get, wipe_length]
  split <;> rfl
theorem SqT.junk {K : PySem.W.Frag} {H : Hp} {a D : Addr} {o : HO} {xs : List V} (h : SqT K H a xs) (hD : H D = none) : SqT K (upd H D o) a xs := Same.tup (Same.upd_new hD) h
theorem SqL.junk {K : PySem.W.Frag} {H : Hp} {a D : Addr} {o : HO} {xs : List V} (h : SqL K H a xs) (hD : H D = none) : SqL K (upd H D o) a xs := Same.sql (Same.upd_new hD) h
theorem ed_append (as bs : List Int) : (as ++ bs).eraseDups.length = as.eraseDups.length + ((bs.removeAll as).eraseDups).length := by
  rw [List.eraseDups_append, List.length_append]
theorem ed_one (as : List Int) (c : Int) : (as ++ [c]).eraseDups.length = if c ∈ as then as.eraseDups.length else as.eraseDups.length + 1 := by
  rw [ed_append]
  by_cases h : c ∈ as
  · rw [if_pos h]
    have : [c].removeAll as = [] := by simp [List.removeAll, h]
    rw [this]; rfl
  · rw [if_neg h]
    have : [c].removeAll as = [c] := by simp [List.removeAll, h]
    rw [this]; rfl
theorem re_union {w : World} (s l x : Nat) : RE c E (fun σ H Q => tSc2 w (iSeq c.K (tVar s)) (gName l) (iSeq c.K (tVar l)) (gName x) (tVar x) [l, x] [x] σ H fun v H2 => rSortedSet w [v] H2 Q) (cUnion s l x) := by
  refine ⟨fun F ρ g σ H S Q e R G => ?_⟩
  simp only [cUnion] at G
  split at G
  case h_2 => exact G.elim
  rename_i d hd
  by_cases hc : (ρ[l]?).isSome = true ∧ (ρ[x]?).isSome = true ∧ l ≠ x
  case neg => rw [if_neg hc] at G; exact G.elim
  rw [if_pos hc] at G
  obtain ⟨cl, cx, nlx⟩ := hc
  have inσ : ∀ {j : Nat}, (ρ[j]?).isSome = true → j < σ.length := fun {j} h => by
    obtain ⟨en, hen⟩ := Option.isSome_iff_exists.mp h
    obtain ⟨so, k, _⟩ := R.slots j en hen
    exact (List.getElem?_eq_some_iff.mp k).1
  have ll := inσ cl
  have lx := inσ cx
  obtain ⟨so, h1, v, rfl, hv⟩ := R.slots s _ hd
  cases hv with
  | @lst a vs ds ha hvs =>
    simp only [unionD] at G
    cases q : lotsOf ds with
    | none => rw [q] at G; exact G.elim
    | some Ls =>
    rw [q] at G
    simp only [Option.bind_some] at G
    by_cases hn : Ls.flatten.eraseDups.length ≤ 60
    case neg => rw [if_neg hn] at G; exact G.elim
    rw [if_pos hn] at G
    obtain ⟨len, each⟩ := lots_at hvs q
    rw [e] at each
    have hA : SqL c.K H a vs := SqL.of (R.sub _ _ ha)
    have hE : ∀ (i : Nat) (L : List Int), Ls[i]? = some L → ∃ b, vs[i]? = some (.ref b) ∧ SqT c.K H b (L.map V.int) := fun i L h => by
      obtain ⟨b, k1, k2⟩ := each i L h
      exact ⟨b, k1, Same.tup R.sub k2⟩
    refine ⟨.ref a, h1, a, rfl, .inl ⟨⟨vs, hA⟩, fun D hD => ?_⟩⟩
    have neA : ∀ (St : Int → Bool) (n : Nat), SqL c.K (upd H D (SetO w D St n)) a vs := fun St n => SqL.junk hA hD
    let W : Nat → Nat → Hp → Prop := fun i m H' => m = Ls.length - i ∧ i ≤ Ls.length ∧ ∃ (St : Int → Bool) (n : Nat), H' = upd H D (SetO w D St n) ∧ (∀ k, St k = true ↔ k ∈ (Ls.take i).flatten) ∧ n = (Ls.take i).flatten.eraseDups.length
    refine ⟨W, ⟨Ls.length, by simp, Nat.zero_le _, _, 0, rfl, fun k => by simp, by simp⟩, ?_⟩
    rintro i m _ ⟨rfl, hi, St, n, rfl, hS, hnl⟩
    by_cases hlt : i < Ls.length
    · obtain ⟨L, hL⟩ : ∃ L, Ls[i]? = some L := ⟨_, List.getElem?_eq_getElem hlt⟩
      obtain ⟨b, vb, tb⟩ := hE i L hL
      have tk : Ls.take (i + 1) = Ls.take i ++ [L] := by
        rw [List.take_succ, hL]; rfl
      have fk : (Ls.take (i + 1)).flatten = (Ls.take i).flatten ++ L := by rw [tk]; simp
      have cut : Ls.flatten = (Ls.take i).flatten ++ L ++ (Ls.drop (i + 1)).flatten := by
        have := congrArg List.flatten (List.take_append_drop (i + 1) Ls)
        rw [List.flatten_append, fk] at this
        exact this.symm
      have le : ∀ j, ((Ls.take i).flatten ++ L.take j).eraseDups.length ≤ 60 := fun j => by
        have e : Ls.flatten = ((Ls.take i).flatten ++ L.take j) ++ (L.drop j ++ (Ls.drop (i + 1)).flatten) := by
          rw [cut]
          simp only [List.append_assoc]
          congr 1
          rw [← List.append_assoc, List.take_append_drop]
        rw [e, ed_append] at hn
        omega
      refine .inr ⟨⟨vs, _, neA St n, vb⟩, W (i + 1) (Ls.length - (i + 1)), fun H' p => ⟨_, by omega, p⟩, ?_⟩
      rintro y _ ⟨rfl, hy⟩
      have ey : y = .ref b := by
        have := hy vs (neA St n)
        rw [vb] at this
        exact (Option.some.inj this).symm
      subst ey
      have w0 : (L2.wipe σ [l, x]).length = σ.length := wipe_length _ _
      refine ⟨(wipe_set (by simp)).trans (wipe2 σ [l, x]), .ref b, by rw [List.getElem?_set_self (by omega)], b, rfl, .inr ⟨⟨_, SqT.junk tb hD⟩, ?_⟩⟩
      let VV2 : Nat → Nat → Hp → Prop := fun j k H' => k = L.length - j ∧ j ≤ L.length ∧ ∃ (St : Int → Bool) (n : Nat), H' = upd H D (SetO w D St n) ∧ (∀ k, St k = true ↔ k ∈ (Ls.take i).flatten ++ L.take j) ∧ n = ((Ls.take i).flatten ++ L.take j).eraseDups.length
      refine ⟨VV2, ⟨L.length, by simp, Nat.zero_le _, St, n, rfl, by simpa using hS, by simpa using hnl⟩, ?_⟩
      rintro j k _ ⟨rfl, hj, St1, n1, rfl, hS1, hn1⟩
      have tbD : SqT c.K (upd H D (SetO w D St1 n1)) b (L.map V.int) := SqT.junk tb hD
      by_cases hjt : j < L.length
      · obtain ⟨z, hz⟩ : ∃ z, L[j]? = some z := ⟨_, List.getElem?_eq_getElem hjt⟩
        have vz : (L.map V.int)[j]? = some (.int z) := by rw [List.getElem?_map, hz]; rfl
        refine .inr ⟨⟨_, _, tbD, vz⟩, VV2 (j + 1) (L.length - (j + 1)), fun H' p => ⟨_, by omega, p⟩, ?_⟩
        rintro y _ ⟨rfl, hy⟩
        have ey : y = .int z := by
          have := hy _ tbD
          rw [vz] at this
          exact (Option.some.inj this).symm
        subst ey
        have tz : L.take (j + 1) = L.take j ++ [z] := by rw [List.take_succ, hz]; rfl
        have ln := le j
        refine ⟨(wipe_set (by simp)).trans (wipe2 _ [x]), .int z, by rw [List.getElem?_set_self (by rw [wipe_length, List.length_set, wipe_length]; omega)], z, St1, n1, rfl, upd_same, by unfold scanBound; omega, rfl, by omega, _, _, upd_upd, fun k => ?_, ?_⟩
        · rw [tz, ← List.append_assoc, List.mem_append, ← hS1 k]
          simp
        · rw [tz, ← List.append_assoc, ed_one, hn1]
          by_cases hm : z ∈ (Ls.take i).flatten ++ L.take j
          · rw [if_pos hm, if_pos ((hS1 z).mpr hm)]
          · rw [if_neg hm, if_neg (fun h => hm ((hS1 z).mp h))]
      · have ej : j = L.length := by omega
        subst ej
        refine .inl ⟨⟨_, tbD, by simp⟩, rfl, by omega, St1, n1, rfl, fun k => ?_, ?_⟩
        · rw [fk, hS1 k, List.take_length]
        · rw [fk]; rw [List.take_length] at hn1; exact hn1
    · have ei : i = Ls.length := by omega
      subst ei
      rw [List.take_length] at hS hnl
      refine .inl ⟨⟨vs, neA St n, by omega⟩, D, St, n, rfl, upd_same, by omega, fun out p so mem ln hp => ?_⟩
      have eo : out = sortSet Ls.flatten := sortSet_of so fun k => (mem k).trans (hS k)
      subst eo
      exact G.new (R.junk _ hD) hp (.lst upd_same (Dns.ints _))
  | _ => simp only [unionD, lift] at G; exact G.elim
end
end FD
set_option Elab.async false
set_option linter.all false
set_option maxRecDepth 100000
set_option maxHeartbeats 4000000
namespace FD
open PySem PySem.Spec PyProof.Rows L2
section
variable {X : Cx} {ah : Option Addr} {E : L2.St → XK}
theorem pe_sc2 {el t0 i0 t1 i1 : Expr} {scope : Scope} {own : List (PySem.Str × Nat)} {vs1 : List Nat} {pos : Pos} {ti ti1 : TI} {g g1 : TG} {te : TE} (hc : X.calm = true) (hN : X.N.Nodup) (hi : PI X t0 i0 ti) (ok : BlkOk X.N X.env.scope scope own) (hv : ∀ i ∈ vs1, i ∈ own.map (·.2))
    (hb : ∀ (s : Shared) (H : Hp) (C : Addr) (cl : List (PySem.Str × Addr)) (fp : List Addr), PG (X.blk s H scope (compEnvC scope cl C X.env) fp) t0 g ∧ PI (X.blk s H scope (compEnvC scope cl C X.env) fp) t1 i1 ti1 ∧ PG (X.blk s H scope (compEnvC scope cl C X.env) fp) t1 g1 ∧ PE (X.blk s H scope (compEnvC scope cl C X.env) fp) el te)
    (hs : ∀ x, foldedSetIterable i0 X.env x = pure x) (hs1 : ∀ env x, foldedSetIterable i1 env x = pure x) : PE X (twoFor el t0 i0 t1 i1 scope pos) (tSc2 X.w ti g ti1 g1 te (own.map (·.2)) vs1) := by
  refine ⟨fun pins s σ H Q I h => ?_⟩
  rw [PpSet.eval_SetComp]
  refine sc2_ok hc hN I hi ok hv hb hs hs1 h fun D C u m H' K q hn f => ⟨m, hn, fun h'' sb => ?_⟩
  obtain ⟨f0, f1, f2, f3, f4, f5⟩ := f
  exact ⟨.ref D, H', K.turned (t' := u.toks) (fun b o hb e => (sb.2 b hb).trans e) f0 f1 f3 f4 f5, rfl, q⟩
/-- sorted({x for l in s for x in l}) -/
theorem pf_union (s l x : Nat) {sn ln xn : Str} {scope : Scope} {p p0 p1 p2 p3 p4 q pos : Pos} (hm : X.mg "sorted" = none) (hN : X.N.Nodup) (ok : BlkOk X.N X.env.scope scope [(ln, l), (xn, x)])
    (hs : PE X (.Name sn p1) (tVar s)) (h0 : ∀ i : BI, PG (bx X scope i) (.Name ln p0) (gName l)) (h1 : ∀ i : BI, PE (bx X scope i) (.Name ln p3) (tVar l)) (h2 : ∀ i : BI, PG (bx X scope i) (.Name xn p2) (gName x)) (h3 : ∀ i : BI, PE (bx X scope i) (.Name xn p4) (tVar x))
    (hg : Gl X "sorted" := by rfl) (hc : X.calm = true := by rfl) (hf0 : ∀ y, foldedSetIterable (.Name sn p1) X.env y = pure y := by intro _; rfl) (hf1 : ∀ env y, foldedSetIterable (.Name ln p3) env y = pure y := by intro _ _; rfl)
    (na : starEach [twoFor (.Name xn p4) (.Name ln p0) (.Name sn p1) (.Name xn p2) (.Name ln p3) scope q] X.env = (false, eval (twoFor (.Name xn p4) (.Name ln p0) (.Name sn p1) (.Name xn p2) (.Name ln p3) scope q) X.env) :: starEach [] X.env := by rfl) :
    PF X ah E (.Call (.Name "sorted" p) [twoFor (.Name xn p4) (.Name ln p0) (.Name sn p1) (.Name xn p2) (.Name ln p3) scope q] [] pos) (cUnion s l x) := by
  have e := pe_sc2 (X := X) (vs1 := [x]) (pos := q) (ti1 := iSeq X.K (tVar l)) (g := gName l) (g1 := gName x) (te := tVar x) hc hN (pi_seq hs) ok (by simp) (fun a b C cl fp => ⟨h0 (a, b, C, cl, fp), pi_seq (h1 (a, b, C, cl, fp)), h2 (a, b, C, cl, fp), h3 (a, b, C, cl, fp)⟩) hf0 hf1
  exact ⟨_, pe_callB (cr_sortedSet hc) hg hm (by decide +kernel) (pa_cons e pa_nil na) (by decide) (by decide) na rfl, re_union (w := X.w) s l x⟩
end
end FD
set_option Elab.async false
set_option linter.all false
set_option maxRecDepth 100000
set_option maxHeartbeats 2000000
namespace FD
open PySem L2 PyProof.Rows
/-! # rows of a try that store nothing, and raise or not -/
def GotK (F : Fx) (S : Hp) (σ : L2.St) (E : XK) (Z : Ends) : M Fl → Prop
  | some (.ok (.nx ρ) g) => ∀ H' S', Same S S' → Rep F ρ g σ H' S' → Z.nx σ H'
  | m => GotS F S E Z m
structure RSk (c : DC) (E : L2.St → XK) (t : TS) (f : FS) : Prop where
  run : ∀ (F : Fx) (ρ : List En) (g : Gh) (σ : L2.St) (H S : Hp) (Z : Ends), F.c = c → Rep F ρ g σ H S → GotK F S σ (E σ) Z (f ρ g) → t Z σ H
def PFK (X : Cx) (ah : Option Addr) (E : L2.St → XK) (s : Stmt) (f : FS) : Prop := ∃ t, PS X s t ∧ RSk (dc X ah) E t f
section
variable {X : Cx} {ah : Option Addr} {E : L2.St → XK}
theorem GotK.toS {F : Fx} {S : Hp} {σ : L2.St} {E : XK} {Z : Ends} {m : M Fl} (G : GotK F S σ E Z m) (h : ∀ ρ g, m ≠ some (.ok (.nx ρ) g)) : GotS F S E Z m := by
  cases m with
  | none => exact G
  | some o => cases o with
    | ok f g => cases f with
      | nx ρ => exact (h ρ g rfl).elim
      | bk ρ => exact G
      | ct ρ => exact G
      | rt d => exact G
    | ex c ks ds g => exact G
theorem pfk_ifret {c e : Expr} {fc : FT} {fe : FE} {p pos : Pos} (hc : PFT X ah E c fc) (he : PF X ah E e fe) : PFK X ah E (.If c [.Return (some e) p] [] pos) (sIf fc (sRet fe) sNx) := by
  obtain ⟨t, p1, r⟩ := hc
  obtain ⟨u, q, s⟩ := pfws_one (pfw_ret (pos := p) he)
  refine ⟨_, ps_if p1 q pss_nil, ⟨fun F ρ g σ H S Z e R G => ?_⟩⟩
  refine r.run F ρ g σ H S _ e R ?_
  simp only [sIf] at G
  cases h : fc ρ g with
  | none => simp only [M.bd, h] at G; exact G
  | some o => cases o with
    | ok a g1 =>
      simp only [M.bd, h] at G
      intro w H1 S1 sm R1 rl
      cases rl
      cases a with
      | true =>
        rw [if_pos rfl] at G
        refine s.run F ρ g1 σ H1 S1 Z e R1 ?_
        have G' : GotS F S (E σ) Z (sRet fe ρ g1) := by
          refine GotK.toS G fun ρ2 g2 z => ?_
          simp only [sRet] at z
          cases hz : fe ρ g1 with
          | none => rw [hz] at z; cases z
          | some o => cases o with
            | ok a g1 => rw [hz] at z; cases z
            | ex a b c d => rw [hz] at z; cases z
        exact G'.mono sm
      | false =>
        rw [if_neg (by decide)] at G
        exact G H1 S1 sm R1
    | ex a b c d => simp only [M.bd, h] at G; exact G
theorem pfws_consK {s : Stmt} {rest : List Stmt} {a b : FS} (ha : PFK X ah E s a) (hb : PFws X ah E rest b) : PFws X ah E (s :: rest) (sSeq a b) := by
  obtain ⟨t, p, r⟩ := ha
  obtain ⟨u, q, s⟩ := hb
  refine ⟨_, pss_cons p q, ⟨fun F ρ g σ H S Z e R G => r.run F ρ g σ H S _ e R ?_⟩⟩
  unfold sSeq at G
  cases h : a ρ g with
  | none => rw [h] at G; exact G
  | some o => cases o with
    | ok f g1 => cases f with
      | nx ρ1 => rw [h] at G; exact fun H' S' sm R' => s.run F ρ1 g1 σ H' S' Z e R' (GotS.mono G sm)
      | bk ρ1 => rw [h] at G; exact G
      | ct ρ1 => rw [h] at G; exact G
      | rt d => rw [h] at G; exact G
    | ex cc ks ds g1 => rw [h] at G; exact G
end
end FD
set_option Elab.async false
set_option linter.all false
set_option maxRecDepth 100000
set_option maxHeartbeats 2000000
namespace FD
open PySem L2 PyProof.Rows
/-! # x[e] of a list that x alone holds -/
@[simp] def cOIx (i : Nat) (b : FE) : FE := fun ρ g => match ρ[i]? with
  | some (.hold none xs) => (b ρ g).bd fun k g2 => match k with
    | .int n => lift (atI xs n) g2
    | _ => none
  | _ => none
section
variable {X : Cx} {ah : Option Addr} {Es : L2.St → XK} {c : DC}
theorem pf_oix (i : Nat) {x : Str} {e1 : Expr} {b : FE} {p1 pos : Pos} (hb : PF X ah Es e1 b) (hS : PlainIx e1) (hN : X.N[i]? = some x := by rfl) (hv : Vis X.env.scope x := by first | exact Or.inl rfl | exact Or.inr (Or.inl rfl) | exact Or.inr (Or.inr rfl)) (hd : (x == ("__debug__" : Str)) = false := by decide)
    (hcd : (x == ("__classdict__" : Str)) = false := by decide) : PF X ah Es (.Subscript (.Name x p1) e1 pos) (cOIx i b) := by
  obtain ⟨t2, q2, r2⟩ := hb
  refine ⟨_, pe_ix ix_list (pe_var hN hv hd hcd) q2 hS, ⟨fun F ρ g σ H S Q e R G => ?_⟩⟩
  simp only [cOIx] at G
  split at G
  case h_2 => exact G.elim
  rename_i xs hi
  obtain ⟨so, h1, p, vs, rfl, h2, h3, h4, h5, h6⟩ := R.slots i _ hi
  refine ⟨.ref p, h1, ?_⟩
  refine r2.step e R G fun H2 S2 g2 k dk sm2 R2 hk G => ?_
  split at G
  case h_2 => exact G.elim
  rename_i n
  cases hk.intE
  obtain ⟨so, k1, p', ws, k0, k2, k3, k4, k5, k6⟩ := R2.slots i _ hi
  rw [h1] at k1; cases k1; cases k0
  cases ho : atI xs n with
  | none => rw [ho] at G; exact G.elim
  | some d =>
    rw [ho] at G
    obtain ⟨v, e1, e2⟩ := atI_map k6 ho
    have k5' : H2 p = some (.lst ws) := k5
    exact ⟨p, ws, n, v, rfl, rfl, SqL.of k5', e1, G.ret R2 e2⟩
end
section
variable {X : Cx} {ah : Option Addr} {E : XK} {c : DC}
/-- x = list(e), a list that x alone holds -/
@[simp] def sOwnC (i : Nat) (a : FA) : FS := fun ρ g => (a ρ g).bd fun xs g1 => match listD xs with
  | some (.lst ys) => some (.ok (.nx (ρ.set i (.own ys))) g1)
  | _ => none
theorem pfs_ownC (i : Nat) {x : Str} {e : Expr} {es : List Expr} {a : FA} {p p1 pos pos' : Pos} (hN : X.N.Nodup) (hm : X.mg "list" = none) (ha : PFA X ah (fun _ => E) (e :: es) a) (hi : X.N[i]? = some x := by rfl) (hx : Loc X.env.scope x := by first | exact Or.inl rfl | exact Or.inr rfl) (hs : swapsWith (.Call (.Name "list" p) (e :: es) [] p1) (some (.Name x pos')) pos.line X.env = pure false := by rfl)
    (hf : X.fn x = true ∨ X.env.scope.names.lookup x = some .local := by first | exact .inl rfl | exact .inr rfl)
    (hg : Gl X "list" := by rfl) (he : starEach (e :: es) X.env = (false, eval e X.env) :: starEach es X.env := by rfl) (hpl : (backTo p1 (starEach es X.env)).any (·.1) = false := by rfl) : PFS X ah E (.Assign [.Name x pos'] (.Call (.Name "list" p) (e :: es) [] p1) pos) (sOwnC i a) := by
  obtain ⟨t, q, r⟩ := ha
  refine ⟨_, ps_set hN hi hx (pe_callTy call_list_of hg hm (by decide +kernel) q (by decide) (by decide) he hpl) hs hf, ⟨fun F ρ g σ H S Z e R G => ?_⟩⟩
  simp only [sOwnC] at G
  refine r.stepS e R G fun H1 S1 g1 vs ds sm R1 hv G => ?_
  split at G
  case h_2 => exact G.elim
  rename_i ys hl
  unfold listD at hl
  split at hl
  · cases hl
    obtain ⟨v, rfl, hw⟩ := hv.one
    cases hw with
    | tup h hs => exact ⟨_, _, rfl, .inr (Same.tup R1.sub h), fun l hl => G _ _ S1 (Same.refl S1) (R1.setOwn i hl (e.symm ▸ hs))⟩
  · cases hl
    obtain ⟨v, rfl, hw⟩ := hv.one
    cases hw with
    | lst h hs => exact ⟨_, _, rfl, .inl (SqL.of (R1.sub _ _ h)), fun l hl => G _ _ S1 (Same.refl S1) (R1.setOwn i hl (e.symm ▸ hs))⟩
  · cases hl
end
section
variable {X : Cx} {ah : Option Addr} {E : L2.St → XK} {c : DC}
/-- a tuple as a test -/
def toBU : D → Option Bool
  | .tup xs => some (!xs.isEmpty)
  | _ => none
@[simp] def cTU (a : FE) : FT := fun ρ g => (a ρ g).bd fun x g1 => lift (toBU x) g1
theorem pft_tupT {e : Expr} {a : FE} (ha : PF X ah E e a) (he : ∀ whole, isTrue e X.env whole = (do let v ← whole; standAt e.pos; holding [v] (truthy v)) := by intro _; rfl) : PFT X ah E e (cTU a) := by
  obtain ⟨t, q, s⟩ := ha
  refine ⟨_, pt_truth q he, ?_⟩
  refine RG.bind (r := fun σ x H1 (Q : Bool → Hp → Prop) => ∃ k, TruV X.K x H1 k ∧ Q k H1) (k := fun ρ x g1 => lift (toBU x) g1) s fun F ρ g σ H S Q x d e R hx G => ?_
  cases hx with
  | @tup p vs ds h hs =>
    simp only [toBU, lift] at G
    have eK : F.c.K = X.K := by rw [e]
    refine ⟨!vs.isEmpty, .inr (.inl ⟨vs, by have := Same.tup R.sub h; exact this, rfl⟩), ?_⟩
    have el : vs.isEmpty = ds.isEmpty := by
      cases hs <;> rfl
    rw [el]
    exact G.ret R rfl
  | _ => simp only [toBU, lift] at G; exact G.elim
end
end FD
set_option Elab.async false
set_option linter.all false
set_option maxRecDepth 100000
set_option maxHeartbeats 2000000
namespace FD
open PySem L2 PyProof.Rows
section
variable {X : Cx} {ah : Option Addr} {E : L2.St → XK} {c : DC}
/-! # sum of a list of numbers, a list backwards -/
def sumD : List D → Option D
  | [.lst ds] => (intsD ds).map fun ns => .int ns.sum
  | _ => none
theorem cs_sum : CallS c (rSum c.K) sumD := by
  intro E F ρ g σ H S Q vs ds e R hx G
  subst e
  unfold sumD at G
  split at G
  · rename_i ds
    obtain ⟨v, rfl, hv⟩ := hx.one
    cases hv with
    | lst h hs =>
      cases q : intsD ds with
      | none => rw [q] at G; exact G.elim
      | some ns =>
        rw [q] at G
        have hv := intsD_of hs q
        subst hv
        exact ⟨_, ns, rfl, SqL.of (R.sub _ _ h), G.ret R (.int _)⟩
  · exact G.elim
def revD : D → Option D
  | .lst xs => some (.lst xs.reverse)
  | _ => none
theorem Dns.reverse {c : DC} {H : Hp} : ∀ {vs : List V} {ds : List D}, Dns c H vs ds → Dns c H vs.reverse ds.reverse
  | _, _, .nil => .nil
  | _, _, .cons h hs => by
    rw [List.reverse_cons, List.reverse_cons]
    exact (Dns.reverse hs).append (.cons h .nil)
theorem pf_rev {e : Expr} {a : FE} {k : Nat} {p1 p2 p3 pos : Pos} (ha : PF X ah E e a) : PF X ah E (.Subscript e (.Slice none none (some (.UnaryOp .USub (.Constant (.int 1) k p1) p2)) p3) pos) (c1 revD a) := by
  obtain ⟨t, q, s⟩ := ha
  refine ⟨_, pe_revL q, ?_⟩
  refine RG.bind (r := fun σ x H1 (Q : VK) => ∃ a xs, x = .ref a ∧ SqL X.K H1 a xs ∧ ∀ p, H1 p = none → Q (.ref p) (upd H1 p (.lst xs.reverse))) (k := fun ρ x g1 => lift (revD x) g1) s fun F ρ g σ H S Q x d e R hx G => ?_
  cases hx with
  | @lst p vs ds h hs =>
    simp only [revD, lift] at G
    exact ⟨_, vs, rfl, SqL.of (R.sub _ _ h), fun l hl => G.new R hl (.lst upd_same ((Dns.reverse (e.symm ▸ hs)).mono (R.tosame _ hl)))⟩
  | _ => simp only [revD, lift] at G; exact G.elim
end
end FD
set_option Elab.async false
set_option linter.all false
set_option maxRecDepth 100000
set_option maxHeartbeats 2000000
namespace FD
open PySem PySem.Spec PyProof.Rows L2
/-! # the top's run, looked at piece by piece (a kernel run each: less memory) -/
noncomputable abbrev topEnd (r : PySem.W.OpenRow) (M : Nat) (w : World) (os : OsState) : Option PySem.W.SharedT := HandSHeadRun.endF (HandSHeadRun.stepQ (HandSHeadRun.denQ HandSHeadRun.tabQ) r.prog w) M r.prog w os
noncomputable abbrev topK (n : Nat) (s : PySem.W.SharedT) : PySem.W.Frag := He.frG (HandSHeadRun.getT s) (He.asD (HandSHeadRun.getT s) n)
theorem run_join {r : PySem.W.OpenRow} {q : Program} {M n : Nat} {loose : List Str} {w : World} {fas : List He.Fa} {fns : List He.DefD} {ex : PySem.W.Frag → Bool} (k : Nat)
    (a : HandSHeadRun.RunEq r q PySem.W.Hook.none (fun _ => ()) M loose w)
    (b : ∀ os, (topEnd r M w os).map (fun s => fas.all fun f => f.ok (topK n s)) = some true)
    (c1 : ∀ os, (topEnd r M w os).map (fun s => (fns.take k).all fun d => d.ok (topK n s)) = some true)
    (c2 : ∀ os, (topEnd r M w os).map (fun s => (fns.drop k).all fun d => d.ok (topK n s)) = some true)
    (d : ∀ os, (topEnd r M w os).map (fun s => fns.map fun d => He.fnW (topK n s) d.at_) = some (fns.map He.DefD.val))
    (e : ∀ os, (topEnd r M w os).map (fun s => ex (topK n s)) = some true) :
    HandSHeadRun.RunEq r q (hookF n fas fns ex) (fun s => obsF n fas fns ex (HandSHeadRun.getT s)) M loose w := by
  intro os
  have a := a os
  have b := b os
  have c1 := c1 os
  have c2 := c2 os
  have d := d os
  have e := e os
  show (topEnd r M w os).map _ = _
  have a : (topEnd r M w os).map _ = _ := a
  cases h : topEnd r M w os with
  | none => rw [h] at e; cases e
  | some s =>
    rw [h] at a b c1 c2 d e
    have a := Option.some.inj a
    have b : (fas.all fun f => f.ok (topK n s)) = true := Option.some.inj b
    have c1 : ((fns.take k).all fun d => d.ok (topK n s)) = true := Option.some.inj c1
    have c2 : ((fns.drop k).all fun d => d.ok (topK n s)) = true := Option.some.inj c2
    have d : fns.map (fun d => He.fnW (topK n s) d.at_) = fns.map He.DefD.val := Option.some.inj d
    have e : ex (topK n s) = true := Option.some.inj e
    have a1 := congrArg Prod.fst a
    have a2 := congrArg (fun z => z.2.1) a
    refine congrArg some (Prod.ext a1 (Prod.ext a2 ?_))
    show (He.obsD fas fns (topK n s), ex (topK n s)) = (He.valD fns, true)
    have hc : (fns.all fun d => d.ok (topK n s)) = true := by
      rw [← List.take_append_drop k fns, List.all_append, c1, c2]; rfl
    unfold He.obsD He.valD
    rw [b, hc, d, e]; rfl
end FD
set_option Elab.async false
set_option linter.all false
set_option maxRecDepth 100000
set_option maxHeartbeats 4000000
namespace Kk03
open PySem L2 PyProof.Rows FD
/-! ### the text -/
def top (i : Nat) : Stmt := PySem.Challenge.pw_onepicture_k03_whole_weavings_of_all_kin.main.body.getD i (.Pass ⟨0, 0, 0, 0⟩)
def k_FIRST_CELL : D := .tup [.int 0, .int 0, .non]
def k_MANNERS : D := .tup [.str "sweep", .str "twice", .str "borrow"]
def k_KINDS : D := .tup [.str "sweep", .str "twice", .str "borrow", .str "levels", .str "names", .str "near", .str "chain"]
def k_MOST_HANDS : D := .int 5
def k_MOST_DEEDS : D := .int 6
def k_MOST_ROUNDS : D := .int 6
def k_NEAR_MOST : D := .int 1000
def k_NUMBER_LIMIT : D := .int 1000
def k_LOT_LIMIT : D := .int 20
structure Txt (P : Program) (w : World) (K : PySem.W.Frag) (mg : Str → Option Value) (base : Heap) : Prop where
  b_all : mg "all" = none
  b_bool : mg "bool" = none
  b_enumerate : mg "enumerate" = none
  b_int : mg "int" = none
  b_isinstance : mg "isinstance" = none
  b_len : mg "len" = none
  b_list : mg "list" = none
  b_max : mg "max" = none
  b_min : mg "min" = none
  b_range : mg "range" = none
  b_set : mg "set" = none
  b_sorted : mg "sorted" = none
  b_str : mg "str" = none
  b_tuple : mg "tuple" = none
  b_type : mg "type" = none
  b_zip : mg "zip" = none
  c_FIRST_CELL : ConstOk K mg "FIRST_CELL" k_FIRST_CELL
  c_KINDS : ConstOk K mg "KINDS" k_KINDS
  c_LOT_LIMIT : ConstOk K mg "LOT_LIMIT" k_LOT_LIMIT
  c_MANNERS : ConstOk K mg "MANNERS" k_MANNERS
  c_MOST_DEEDS : ConstOk K mg "MOST_DEEDS" k_MOST_DEEDS
  c_MOST_HANDS : ConstOk K mg "MOST_HANDS" k_MOST_HANDS
  c_MOST_ROUNDS : ConstOk K mg "MOST_ROUNDS" k_MOST_ROUNDS
  c_NEAR_MOST : ConstOk K mg "NEAR_MOST" k_NEAR_MOST
  c_NUMBER_LIMIT : ConstOk K mg "NUMBER_LIMIT" k_NUMBER_LIMIT
  x_BadPlay : ExcOk P w K mg base "BadPlay" "part"
  x_NoWeaving : ExcOk P w K mg base "NoWeaving" "index"
  x_NoHand : ExcOk0 P w K mg base "NoHand"
  x_NoStep : ExcOk0 P w K mg base "NoStep"
  play : ∀ C, mg "Play" = some (.ref C) → ClsI K C
  play_kind : ∀ C, mg "Play" = some (.ref C) → NoAttr K C "kind"
  play_inputs : ∀ C, mg "Play" = some (.ref C) → NoAttr K C "inputs"
abbrev s_can_step : Stmt := top 56
theorem sc_can_step : FnScope ["play", "standing", "hand", "state"] ["play", "standing"] (defScope s_can_step) := ⟨rfl, rfl, rfl, by decide +kernel, rfl, by decide +kernel, by decide +kernel⟩
noncomputable def b_can_step : FS := (sRet (cCall tupleD (cC (cLc (iEn (cC (cOp ixD (cV 1) (cD (.int 1))) cN)) [2, 3] (gT 2 (gsC (gN 2) (gsC (gN 3) gsN))) (cT (cOp notND (cV 3) (cD .non))) (cV 2)) cN)))
noncomputable def f_can_step : List D → Gh → M D := fun ds g => noX (fnOf 4 b_can_step ds g)
theorem d_can_step {P : Program} {w : World} {K : PySem.W.Frag} {mg : Str → Option Value} {base : Heap} (T : Txt P w K mg base) (A : DefAt K mg "can_step" s_can_step ["play", "standing"])  : DefOk P w K mg base CX0 "can_step" 1 2 f_can_step :=
  A.ok sc_can_step rfl (by decide) fun f cdv A outer s H E ah hr => by
    exact (pfss_one (pfs_ret (pf_callTy call_tuple_of cs_tuple T.b_tuple (by decide +kernel) (pfa_cons (pf_lc [("hand", 2), ("state", 3)] sc_can_step.nd (pfi_enum T.b_enumerate (pfa_cons (pf_ix ix_D os_ix (pf_v 1) pf_int (fun _ _ => rfl)) pfa_nil)) (fun _ => (pfg_tup rfl (pfgs_cons (pfg_n 2 sc_can_step.nd) (pfgs_cons (pfg_n 3 sc_can_step.nd) pfgs_nil)))) (fun _ => (pfts_one (pft_cmp op_notN os_notN (pf_v 3) pf_non (nomark _)))) (fun _ => (pf_v 2)) (blkOk_by (N := ["play", "standing", "hand", "state"]) (sc := defScope s_can_step) (by decide +kernel))) pfa_nil))))
abbrev s_many_hands : Stmt := top 40
theorem sc_many_hands : FnScope ["play"] ["play"] (defScope s_many_hands) := ⟨rfl, rfl, rfl, by decide +kernel, rfl, by decide +kernel, by decide +kernel⟩
noncomputable def b_many_hands : FS := (sSeq (sIf (cT (cOp eqD (c1 (fldD "kind") (cV 0)) (cD (.str "near")))) (sRet (cCall lenD (cC (cOp ixD (c1 (fldD "inputs") (cV 0)) (cD (.int 1))) cN))) sNx) (sRet (cCall lenD (cC (c1 (fldD "inputs") (cV 0)) cN))))
noncomputable def f_many_hands : List D → Gh → M D := fun ds g => noX (fnOf 1 b_many_hands ds g)
theorem d_many_hands {P : Program} {w : World} {K : PySem.W.Frag} {mg : Str → Option Value} {base : Heap} (T : Txt P w K mg base) (A : DefAt K mg "many_hands" s_many_hands ["play"])  : DefOk P w K mg base CX0 "many_hands" 1 1 f_many_hands :=
  A.ok sc_many_hands rfl (by decide) fun f cdv A outer s H E ah hr => by
    exact (pfss_cons (pfs_if (pft_cmp (op_eqD (hu64 hr)) os_eq (pf_fld (fun C h => ⟨(T.play C h).cl, T.play_kind C h⟩) (pf_v 0)) pf_str (nomark _)) (pfss_one (pfs_ret (pf_len T.b_len (pfa_cons (pf_ix ix_D os_ix (pf_fld (fun C h => ⟨(T.play C h).cl, T.play_inputs C h⟩) (pf_v 0)) pf_int (fun _ _ => rfl)) pfa_nil)))) pfss_nil) (pfss_one (pfs_ret (pf_len T.b_len (pfa_cons (pf_fld (fun C h => ⟨(T.play C h).cl, T.play_inputs C h⟩) (pf_v 0)) pfa_nil)))))
abbrev s_first_in_levels : Stmt := top 7
theorem sc_first_in_levels : FnScope ["play"] ["play"] (defScope s_first_in_levels) := ⟨rfl, rfl, rfl, by decide +kernel, rfl, by decide +kernel, by decide +kernel⟩
noncomputable def b_first_in_levels : FS := (sRet (cTup (cC (cD .non) (cC (cTup (cC (cOp addD (cCall lenD (cC (c1 (fldD "inputs") (cV 0)) cN)) (cD (.int 1))) (cC (cD .non) cN))) cN))))
noncomputable def f_first_in_levels : List D → Gh → M D := fun ds g => noX (fnOf 1 b_first_in_levels ds g)
theorem d_first_in_levels {P : Program} {w : World} {K : PySem.W.Frag} {mg : Str → Option Value} {base : Heap} (T : Txt P w K mg base) (A : DefAt K mg "first_in_levels" s_first_in_levels ["play"])  : DefOk P w K mg base CX0 "first_in_levels" 1 1 f_first_in_levels :=
  A.ok sc_first_in_levels rfl (by decide) fun f cdv A outer s H E ah hr => by
    exact (pfss_one (pfs_ret (pf_tup (pfa_cons pf_non (pfa_cons (pf_tup (pfa_cons (pf_bin op_addD os_add (pf_len T.b_len (pfa_cons (pf_fld (fun C h => ⟨(T.play C h).cl, T.play_inputs C h⟩) (pf_v 0)) pfa_nil)) pf_int) (pfa_cons pf_non pfa_nil))) pfa_nil)))))
abbrev s_state_ahead : Stmt := top 13
theorem sc_state_ahead : FnScope ["script", "done"] ["script", "done"] (defScope s_state_ahead) := ⟨rfl, rfl, rfl, by decide +kernel, rfl, by decide +kernel, by decide +kernel⟩
noncomputable def b_state_ahead : FS := (sSeq (sIf (cT (cOp eqD (cV 1) (cCall lenD (cC (cV 0) cN)))) (sRet (cD .non)) sNx) (sRet (cTup (cC (cV 1) (cC (cD .non) (cC (cD .non) (cC (cTup cN) (cC (cD .non) cN))))))))
noncomputable def f_state_ahead : List D → Gh → M D := fun ds g => noX (fnOf 2 b_state_ahead ds g)
theorem d_state_ahead {P : Program} {w : World} {K : PySem.W.Frag} {mg : Str → Option Value} {base : Heap} (T : Txt P w K mg base) (A : DefAt K mg "state_ahead" s_state_ahead ["script", "done"])  : DefOk P w K mg base CX0 "state_ahead" 1 2 f_state_ahead :=
  A.ok sc_state_ahead rfl (by decide) fun f cdv A outer s H E ah hr => by
    exact (pfss_cons (pfs_if (pft_cmp (op_eqD (hu64 hr)) os_eq (pf_v 1) (pf_len T.b_len (pfa_cons (pf_v 0) pfa_nil)) (nomark _)) (pfss_one (pfs_ret pf_non)) pfss_nil) (pfss_one (pfs_ret (pf_tup (pfa_cons (pf_v 1) (pfa_cons pf_non (pfa_cons pf_non (pfa_cons (pf_tup pfa_nil) (pfa_cons pf_non pfa_nil)))))))))
abbrev s_first_in_manner : Stmt := top 14
theorem sc_first_in_manner : FnScope ["play", "hand"] ["play", "hand"] (defScope s_first_in_manner) := ⟨rfl, rfl, rfl, by decide +kernel, rfl, by decide +kernel, by decide +kernel⟩
noncomputable def b_first_in_manner : FS := (sRet (cTup (cC (cD k_FIRST_CELL) (cC (cFn 2 f_state_ahead (cC (cOp ixD (c1 (fldD "inputs") (cV 0)) (cV 1)) (cC (cD (.int 0)) cN))) cN))))
noncomputable def f_first_in_manner : List D → Gh → M D := fun ds g => noX (fnOf 2 b_first_in_manner ds g)
theorem d_first_in_manner {P : Program} {w : World} {K : PySem.W.Frag} {mg : Str → Option Value} {base : Heap} (T : Txt P w K mg base) (A : DefAt K mg "first_in_manner" s_first_in_manner ["play", "hand"]) (d_state_ahead : DefOk P w K mg base CX0 "state_ahead" 1 2 f_state_ahead) : DefOk P w K mg base CX0 "first_in_manner" 2 2 f_first_in_manner :=
  A.ok sc_first_in_manner rfl (by decide) fun f cdv A outer s H E ah hr => by
    exact (pfss_one (pfs_ret (pf_tup (pfa_cons (pf_const T.c_FIRST_CELL) (pfa_cons (pf_call d_state_ahead (hr.mono (by decide)) (pfa_cons (pf_ix ix_D os_ix (pf_fld (fun C h => ⟨(T.play C h).cl, T.play_inputs C h⟩) (pf_v 0)) (pf_v 1) (fun _ _ => rfl)) (pfa_cons pf_int pfa_nil))) pfa_nil)))))
abbrev s_first_in_seeing : Stmt := top 47
theorem sc_first_in_seeing : FnScope ["play", "hand"] ["play", "hand"] (defScope s_first_in_seeing) := ⟨rfl, rfl, rfl, by decide +kernel, rfl, by decide +kernel, by decide +kernel⟩
noncomputable def b_first_in_seeing : FS := (sSeq (sIf (cT (cOp eqD (c1 (fldD "kind") (cV 0)) (cD (.str "names")))) (sRet (cTup (cC (cD .non) (cC (cTup (cC (cD (.int 1)) (cC (cD (.bl false)) cN))) cN)))) sNx) (sSeq (sIf (cT (cOp eqD (c1 (fldD "kind") (cV 0)) (cD (.str "near")))) (sRet (cTup (cC (cTup cN) (cC (cTup (cC (cD (.int 0)) (cC (cOp ixD (cOp ixD (c1 (fldD "inputs") (cV 0)) (cD (.int 1))) (cV 1)) (cC (cD (.bl false)) cN)))) cN)))) sNx) (sRet (cTup (cC (cD .non) (cC (cTup (cC (cD (.bl false)) cN)) cN))))))
noncomputable def f_first_in_seeing : List D → Gh → M D := fun ds g => noX (fnOf 2 b_first_in_seeing ds g)
theorem d_first_in_seeing {P : Program} {w : World} {K : PySem.W.Frag} {mg : Str → Option Value} {base : Heap} (T : Txt P w K mg base) (A : DefAt K mg "first_in_seeing" s_first_in_seeing ["play", "hand"])  : DefOk P w K mg base CX0 "first_in_seeing" 1 2 f_first_in_seeing :=
  A.ok sc_first_in_seeing rfl (by decide) fun f cdv A outer s H E ah hr => by
    exact (pfss_cons (pfs_if (pft_cmp (op_eqD (hu64 hr)) os_eq (pf_fld (fun C h => ⟨(T.play C h).cl, T.play_kind C h⟩) (pf_v 0)) pf_str (nomark _)) (pfss_one (pfs_ret (pf_tup (pfa_cons pf_non (pfa_cons (pf_tup (pfa_cons pf_int (pfa_cons pf_bl pfa_nil))) pfa_nil))))) pfss_nil) (pfss_cons (pfs_if (pft_cmp (op_eqD (hu64 hr)) os_eq (pf_fld (fun C h => ⟨(T.play C h).cl, T.play_kind C h⟩) (pf_v 0)) pf_str (nomark _)) (pfss_one (pfs_ret (pf_tup (pfa_cons (pf_tup pfa_nil) (pfa_cons (pf_tup (pfa_cons pf_int (pfa_cons (pf_ix ix_D os_ix (pf_ix ix_D os_ix (pf_fld (fun C h => ⟨(T.play C h).cl, T.play_inputs C h⟩) (pf_v 0)) pf_int (fun _ _ => rfl)) (pf_v 1) (fun _ _ => rfl)) (pfa_cons pf_bl pfa_nil)))) pfa_nil))))) pfss_nil) (pfss_one (pfs_ret (pf_tup (pfa_cons pf_non (pfa_cons (pf_tup (pfa_cons pf_bl pfa_nil)) pfa_nil)))))))
abbrev s_first_of_hand : Stmt := top 65
theorem sc_first_of_hand : FnScope ["play", "hand"] ["play", "hand"] (defScope s_first_of_hand) := ⟨rfl, rfl, rfl, by decide +kernel, rfl, by decide +kernel, by decide +kernel⟩
noncomputable def b_first_of_hand : FS := (sSeq (sIf (cT (cOp inD (c1 (fldD "kind") (cV 0)) (cD k_MANNERS))) (sRet (cFn 2 f_first_in_manner (cC (cV 0) (cC (cV 1) cN)))) sNx) (sSeq (sIf (cT (cOp eqD (c1 (fldD "kind") (cV 0)) (cD (.str "levels")))) (sRet (cFn 1 f_first_in_levels (cC (cV 0) cN))) sNx) (sRet (cFn 2 f_first_in_seeing (cC (cV 0) (cC (cV 1) cN))))))
noncomputable def f_first_of_hand : List D → Gh → M D := fun ds g => noX (fnOf 2 b_first_of_hand ds g)
theorem d_first_of_hand {P : Program} {w : World} {K : PySem.W.Frag} {mg : Str → Option Value} {base : Heap} (T : Txt P w K mg base) (A : DefAt K mg "first_of_hand" s_first_of_hand ["play", "hand"]) (d_first_in_manner : DefOk P w K mg base CX0 "first_in_manner" 2 2 f_first_in_manner) (d_first_in_levels : DefOk P w K mg base CX0 "first_in_levels" 1 1 f_first_in_levels) (d_first_in_seeing : DefOk P w K mg base CX0 "first_in_seeing" 1 2 f_first_in_seeing) : DefOk P w K mg base CX0 "first_of_hand" 3 2 f_first_of_hand :=
  A.ok sc_first_of_hand rfl (by decide) fun f cdv A outer s H E ah hr => by
    exact (pfss_cons (pfs_if (pft_cmp op_in_seq os_in (pf_fld (fun C h => ⟨(T.play C h).cl, T.play_kind C h⟩) (pf_v 0)) (pf_const T.c_MANNERS) rfl) (pfss_one (pfs_ret (pf_call d_first_in_manner (hr.mono (by decide)) (pfa_cons (pf_v 0) (pfa_cons (pf_v 1) pfa_nil))))) pfss_nil) (pfss_cons (pfs_if (pft_cmp (op_eqD (hu64 hr)) os_eq (pf_fld (fun C h => ⟨(T.play C h).cl, T.play_kind C h⟩) (pf_v 0)) pf_str (nomark _)) (pfss_one (pfs_ret (pf_call d_first_in_levels (hr.mono (by decide)) (pfa_cons (pf_v 0) pfa_nil)))) pfss_nil) (pfss_one (pfs_ret (pf_call d_first_in_seeing (hr.mono (by decide)) (pfa_cons (pf_v 0) (pfa_cons (pf_v 1) pfa_nil)))))))
abbrev s_first_standing : Stmt := top 55
theorem sc_first_standing : FnScope ["play", "hands", "firsts", "cells", "states", "hand", "cell", "_", "state"] ["play"] (defScope s_first_standing) := ⟨rfl, rfl, rfl, by decide +kernel, rfl, by decide +kernel, by decide +kernel⟩
noncomputable def b_first_standing : FS := (sSeq (sAsg (cCall rngV (cC (cFn 1 f_many_hands (cC (cV 0) cN)) cN)) (gN 1)) (sSeq (sAsg (cLc (iRv (cV 1)) [5] (gN 5) tY (cFn 2 f_first_of_hand (cC (cV 0) (cC (cV 5) cN)))) (gN 2)) (sSeq (sAsg (cCall tupleD (cC (cLc (iS (cV 2)) [6, 7] (gT 2 (gsC (gN 6) (gsC (gN 7) gsN))) tY (cV 6)) cN)) (gN 3)) (sSeq (sAsg (cCall tupleD (cC (cLc (iS (cV 2)) [7, 8] (gT 2 (gsC (gN 7) (gsC (gN 8) gsN))) tY (cV 8)) cN)) (gN 4)) (sRet (cTup (cC (cV 3) (cC (cV 4) (cC (cCall tupleD (cC (cLc (iRv (cV 1)) [7] (gN 7) tY (cTup cN)) cN)) cN)))))))))
noncomputable def f_first_standing : List D → Gh → M D := fun ds g => noX (fnOf 9 b_first_standing ds g)
theorem d_first_standing {P : Program} {w : World} {K : PySem.W.Frag} {mg : Str → Option Value} {base : Heap} (T : Txt P w K mg base) (A : DefAt K mg "first_standing" s_first_standing ["play"]) (d_many_hands : DefOk P w K mg base CX0 "many_hands" 1 1 f_many_hands) (d_first_of_hand : DefOk P w K mg base CX0 "first_of_hand" 3 2 f_first_of_hand) : DefOk P w K mg base CX0 "first_standing" 4 1 f_first_standing :=
  A.ok sc_first_standing rfl (by decide) fun f cdv A outer s H E ah hr => by
    exact (pfss_cons (pfs_set 1 sc_first_standing.nd (pf_rng1 T.b_range (pfa_cons (pf_call d_many_hands (hr.mono (by decide)) (pfa_cons (pf_v 0) pfa_nil)) pfa_nil))) (pfss_cons (pfs_lc 2 [("hand", 5)] sc_first_standing.nd (pfi_rngV (pf_v 1)) (fun _ => (pfg_n 5 sc_first_standing.nd)) (fun _ => pfts_nil) (fun _ => (pf_call d_first_of_hand (hr.mono (by decide)) (pfa_cons (pf_v 0) (pfa_cons (pf_v 5) pfa_nil)))) (blkOk_by (N := ["play", "hands", "firsts", "cells", "states", "hand", "cell", "_", "state"]) (sc := defScope s_first_standing) (by decide +kernel)) (sw_true rfl rfl rfl (by decide +kernel))) (pfss_cons (pfs_set 3 sc_first_standing.nd (pf_callTy call_tuple_of cs_tuple T.b_tuple (by decide +kernel) (pfa_cons (pf_lc [("cell", 6), ("_", 7)] sc_first_standing.nd (pfi_seq (pf_v 2)) (fun _ => (pfg_tup rfl (pfgs_cons (pfg_n 6 sc_first_standing.nd) (pfgs_cons (pfg_n 7 sc_first_standing.nd) pfgs_nil)))) (fun _ => pfts_nil) (fun _ => (pf_v 6)) (blkOk_by (N := ["play", "hands", "firsts", "cells", "states", "hand", "cell", "_", "state"]) (sc := defScope s_first_standing) (by decide +kernel))) pfa_nil))) (pfss_cons (pfs_set 4 sc_first_standing.nd (pf_callTy call_tuple_of cs_tuple T.b_tuple (by decide +kernel) (pfa_cons (pf_lc [("_", 7), ("state", 8)] sc_first_standing.nd (pfi_seq (pf_v 2)) (fun _ => (pfg_tup rfl (pfgs_cons (pfg_n 7 sc_first_standing.nd) (pfgs_cons (pfg_n 8 sc_first_standing.nd) pfgs_nil)))) (fun _ => pfts_nil) (fun _ => (pf_v 8)) (blkOk_by (N := ["play", "hands", "firsts", "cells", "states", "hand", "cell", "_", "state"]) (sc := defScope s_first_standing) (by decide +kernel))) pfa_nil))) (pfss_one (pfs_ret (pf_tup (pfa_cons (pf_v 3) (pfa_cons (pf_v 4) (pfa_cons (pf_callTy call_tuple_of cs_tuple T.b_tuple (by decide +kernel) (pfa_cons (pf_lc [("_", 7)] sc_first_standing.nd (pfi_rngV (pf_v 1)) (fun _ => (pfg_n 7 sc_first_standing.nd)) (fun _ => pfts_nil) (fun _ => (pf_tup pfa_nil)) (blkOk_by (N := ["play", "hands", "firsts", "cells", "states", "hand", "cell", "_", "state"]) (sc := defScope s_first_standing) (by decide +kernel))) pfa_nil)) pfa_nil))))))))))
abbrev s_is_whole : Stmt := top 25
theorem sc_is_whole : FnScope ["thing"] ["thing"] (defScope s_is_whole) := ⟨rfl, rfl, rfl, by decide +kernel, rfl, by decide +kernel, by decide +kernel⟩
noncomputable def b_is_whole : FS := (sRet (cAndV (cIs "int" (cV 0)) (c1 nB (cIs "bool" (cV 0)))))
noncomputable def f_is_whole : List D → Gh → M D := fun ds g => noX (fnOf 1 b_is_whole ds g)
theorem d_is_whole {P : Program} {w : World} {K : PySem.W.Frag} {mg : Str → Option Value} {base : Heap} (T : Txt P w K mg base) (A : DefAt K mg "is_whole" s_is_whole ["thing"])  : DefOk P w K mg base CX0 "is_whole" 1 1 f_is_whole :=
  A.ok sc_is_whole rfl (by decide) fun f cdv A outer s H E ah hr => by
    exact (pfss_one (pfs_ret (pf_and (pf_is (t := "int") (by simp) T.play T.b_isinstance T.b_int (by decide +kernel) (pf_v 0)) (pf_one (pf_not (pf_is (t := "bool") (by simp) T.play T.b_isinstance T.b_bool (by decide +kernel) (pf_v 0)))))))
abbrev s_is_whole_within : Stmt := top 26
theorem sc_is_whole_within : FnScope ["least", "most", "thing"] ["least", "most", "thing"] (defScope s_is_whole_within) := ⟨rfl, rfl, rfl, by decide +kernel, rfl, by decide +kernel, by decide +kernel⟩
noncomputable def b_is_whole_within : FS := (sRet (cAndV (cFn 1 f_is_whole (cC (cV 2) cN)) (cChain leD leD (cV 0) (cV 2) (cV 1))))
noncomputable def f_is_whole_within : List D → Gh → M D := fun ds g => noX (fnOf 3 b_is_whole_within ds g)
theorem d_is_whole_within {P : Program} {w : World} {K : PySem.W.Frag} {mg : Str → Option Value} {base : Heap} (T : Txt P w K mg base) (A : DefAt K mg "is_whole_within" s_is_whole_within ["least", "most", "thing"]) (d_is_whole : DefOk P w K mg base CX0 "is_whole" 1 1 f_is_whole) : DefOk P w K mg base CX0 "is_whole_within" 2 3 f_is_whole_within :=
  A.ok sc_is_whole_within rfl (by decide) fun f cdv A outer s H E ah hr => by
    exact (pfss_one (pfs_ret (pf_and (pf_call d_is_whole (hr.mono (by decide)) (pfa_cons (pf_v 2) pfa_nil)) (pf_one (pf_chain op_le op_le fs_int os_le (pf_v 0) (pf_v 2) (pf_v 1))))))
abbrev s_is_number_below : Stmt := top 27
theorem sc_is_number_below : FnScope ["limit", "thing"] ["limit", "thing"] (defScope s_is_number_below) := ⟨rfl, rfl, rfl, by decide +kernel, rfl, by decide +kernel, by decide +kernel⟩
noncomputable def b_is_number_below : FS := (sRet (cFn 3 f_is_whole_within (cC (cD (.int 0)) (cC (cOp subD (cV 0) (cD (.int 1))) (cC (cV 1) cN)))))
noncomputable def f_is_number_below : List D → Gh → M D := fun ds g => noX (fnOf 2 b_is_number_below ds g)
theorem d_is_number_below {P : Program} {w : World} {K : PySem.W.Frag} {mg : Str → Option Value} {base : Heap} (T : Txt P w K mg base) (A : DefAt K mg "is_number_below" s_is_number_below ["limit", "thing"]) (d_is_whole_within : DefOk P w K mg base CX0 "is_whole_within" 2 3 f_is_whole_within) : DefOk P w K mg base CX0 "is_number_below" 3 2 f_is_number_below :=
  A.ok sc_is_number_below rfl (by decide) fun f cdv A outer s H E ah hr => by
    exact (pfss_one (pfs_ret (pf_call d_is_whole_within (hr.mono (by decide)) (pfa_cons pf_int (pfa_cons (pf_bin op_sub os_sub (pf_v 0) pf_int) (pfa_cons (pf_v 1) pfa_nil))))))
abbrev s_is_hand : Stmt := top 63
theorem sc_is_hand : FnScope ["play", "thing"] ["play", "thing"] (defScope s_is_hand) := ⟨rfl, rfl, rfl, by decide +kernel, rfl, by decide +kernel, by decide +kernel⟩
noncomputable def b_is_hand : FS := (sRet (cFn 2 f_is_number_below (cC (cFn 1 f_many_hands (cC (cV 0) cN)) (cC (cV 1) cN))))
noncomputable def f_is_hand : List D → Gh → M D := fun ds g => noX (fnOf 2 b_is_hand ds g)
theorem d_is_hand {P : Program} {w : World} {K : PySem.W.Frag} {mg : Str → Option Value} {base : Heap} (T : Txt P w K mg base) (A : DefAt K mg "is_hand" s_is_hand ["play", "thing"]) (d_many_hands : DefOk P w K mg base CX0 "many_hands" 1 1 f_many_hands) (d_is_number_below : DefOk P w K mg base CX0 "is_number_below" 3 2 f_is_number_below) : DefOk P w K mg base CX0 "is_hand" 4 2 f_is_hand :=
  A.ok sc_is_hand rfl (by decide) fun f cdv A outer s H E ah hr => by
    exact (pfss_one (pfs_ret (pf_call d_is_number_below (hr.mono (by decide)) (pfa_cons (pf_call d_many_hands (hr.mono (by decide)) (pfa_cons (pf_v 0) pfa_nil)) (pfa_cons (pf_v 1) pfa_nil)))))
abbrev s_those_below : Stmt := top 10
theorem sc_those_below : FnScope ["level", "cells", "hand", "cell"] ["level", "cells"] (defScope s_those_below) := ⟨rfl, rfl, rfl, by decide +kernel, rfl, by decide +kernel, by decide +kernel⟩
noncomputable def b_those_below : FS := (sRet (cCall tupleD (cC (cLc (iEn (cC (cV 1) cN)) [2, 3] (gT 2 (gsC (gN 2) (gsC (gN 3) gsN))) (cAnd (cT (cOp notND (cV 3) (cD .non))) (cT (cOp leD (cOp ixD (cV 3) (cD (.int 0))) (cV 0)))) (cTup (cC (cV 2) (cC (cOp ixD (cV 3) (cD (.int 1))) cN)))) cN)))
noncomputable def f_those_below : List D → Gh → M D := fun ds g => noX (fnOf 4 b_those_below ds g)
theorem d_those_below {P : Program} {w : World} {K : PySem.W.Frag} {mg : Str → Option Value} {base : Heap} (T : Txt P w K mg base) (A : DefAt K mg "those_below" s_those_below ["level", "cells"])  : DefOk P w K mg base CX0 "those_below" 1 2 f_those_below :=
  A.ok sc_those_below rfl (by decide) fun f cdv A outer s H E ah hr => by
    exact (pfss_one (pfs_ret (pf_callTy call_tuple_of cs_tuple T.b_tuple (by decide +kernel) (pfa_cons (pf_lc [("hand", 2), ("cell", 3)] sc_those_below.nd (pfi_enum T.b_enumerate (pfa_cons (pf_v 1) pfa_nil)) (fun _ => (pfg_tup rfl (pfgs_cons (pfg_n 2 sc_those_below.nd) (pfgs_cons (pfg_n 3 sc_those_below.nd) pfgs_nil)))) (fun _ => (pfts_one (pft_w (pfw_and (pft_cmp op_notN os_notN (pf_v 3) pf_non (nomark _)) (pfw_and1 (pft_cmp op_le os_le (pf_ix ix_D os_ix (pf_v 3) pf_int (fun _ _ => rfl)) (pf_v 0) (nomark _))))))) (fun _ => (pf_tup (pfa_cons (pf_v 2) (pfa_cons (pf_ix ix_D os_ix (pf_v 3) pf_int (fun _ _ => rfl)) pfa_nil)))) (blkOk_by (N := ["level", "cells", "hand", "cell"]) (sc := defScope s_those_below) (by decide +kernel))) pfa_nil))))
abbrev s_step_in_levels : Stmt := top 9
theorem sc_step_in_levels : FnScope ["play", "cells", "state", "hand", "now", "below", "level"] ["play", "cells", "state", "hand"] (defScope s_step_in_levels) := ⟨rfl, rfl, rfl, by decide +kernel, rfl, by decide +kernel, by decide +kernel⟩
noncomputable def b_step_in_levels : FS := (sSeq (sAsg (cV 2) (gT 2 (gsC (gN 6) (gsC (gN 4) gsN)))) (sSeq (sIf (cT (cOp isND (cV 4) (cD .non))) (sRet (cTup (cC (cTup (cC (cOp subD (cV 6) (cD (.int 1))) (cC (cOp ixD (c1 (fldD "inputs") (cV 0)) (cV 3)) cN))) (cC (cTup (cC (cOp subD (cV 6) (cD (.int 1))) (cC (cTup cN) cN))) (cC (cTup cN) cN))))) sNx) (sSeq (sAsg (cOp addD (cV 4) (cTup (cC (cOp ixD (cV 1) (cCall lenD (cC (cV 4) cN))) cN))) (gN 4)) (sSeq (sIf (cT (cOp ltD (cCall lenD (cC (cV 4) cN)) (cCall lenD (cC (cV 1) cN)))) (sRet (cTup (cC (cOp ixD (cV 1) (cV 3)) (cC (cTup (cC (cV 6) (cC (cV 4) cN))) (cC (cTup cN) cN))))) sNx) (sSeq (sAsg (cFn 2 f_those_below (cC (cV 6) (cC (cV 4) cN))) (gN 5)) (sSeq (sIf (cT (cOp geD (cCall lenD (cC (cV 5) cN)) (cV 6))) (sRet (cTup (cC (cOp ixD (cV 1) (cV 3)) (cC (cD .non) (cC (cTup (cC (cV 5) cN)) cN))))) sNx) (sRet (cTup (cC (cOp ixD (cV 1) (cV 3)) (cC (cTup (cC (cV 6) (cC (cD .non) cN))) (cC (cTup cN) cN)))))))))))
noncomputable def f_step_in_levels : List D → Gh → M D := fun ds g => noX (fnOf 7 b_step_in_levels ds g)
theorem d_step_in_levels {P : Program} {w : World} {K : PySem.W.Frag} {mg : Str → Option Value} {base : Heap} (T : Txt P w K mg base) (A : DefAt K mg "step_in_levels" s_step_in_levels ["play", "cells", "state", "hand"]) (d_those_below : DefOk P w K mg base CX0 "those_below" 1 2 f_those_below) : DefOk P w K mg base CX0 "step_in_levels" 2 4 f_step_in_levels :=
  A.ok sc_step_in_levels rfl (by decide) fun f cdv A outer s H E ah hr => by
    exact (pfss_cons (pfs_asg (pf_v 2) (pfg_tup rfl (pfgs_cons (pfg_n 6 sc_step_in_levels.nd) (pfgs_cons (pfg_n 4 sc_step_in_levels.nd) pfgs_nil)))) (pfss_cons (pfs_if (pft_cmp op_isN os_isN (pf_v 4) pf_non (nomark _)) (pfss_one (pfs_ret (pf_tup (pfa_cons (pf_tup (pfa_cons (pf_bin op_sub os_sub (pf_v 6) pf_int) (pfa_cons (pf_ix ix_D os_ix (pf_fld (fun C h => ⟨(T.play C h).cl, T.play_inputs C h⟩) (pf_v 0)) (pf_v 3) (fun _ _ => rfl)) pfa_nil))) (pfa_cons (pf_tup (pfa_cons (pf_bin op_sub os_sub (pf_v 6) pf_int) (pfa_cons (pf_tup pfa_nil) pfa_nil))) (pfa_cons (pf_tup pfa_nil) pfa_nil)))))) pfss_nil) (pfss_cons (pfs_set 4 sc_step_in_levels.nd (pf_bin op_addD os_add (pf_v 4) (pf_tup (pfa_cons (pf_ix ix_D os_ix (pf_v 1) (pf_len T.b_len (pfa_cons (pf_v 4) pfa_nil)) (fun _ _ => rfl)) pfa_nil)))) (pfss_cons (pfs_if (pft_cmp op_lt os_lt (pf_len T.b_len (pfa_cons (pf_v 4) pfa_nil)) (pf_len T.b_len (pfa_cons (pf_v 1) pfa_nil)) (nomark _)) (pfss_one (pfs_ret (pf_tup (pfa_cons (pf_ix ix_D os_ix (pf_v 1) (pf_v 3) (fun _ _ => rfl)) (pfa_cons (pf_tup (pfa_cons (pf_v 6) (pfa_cons (pf_v 4) pfa_nil))) (pfa_cons (pf_tup pfa_nil) pfa_nil)))))) pfss_nil) (pfss_cons (pfs_set 5 sc_step_in_levels.nd (pf_call d_those_below (hr.mono (by decide)) (pfa_cons (pf_v 6) (pfa_cons (pf_v 4) pfa_nil)))) (pfss_cons (pfs_if (pft_cmp op_ge os_ge (pf_len T.b_len (pfa_cons (pf_v 5) pfa_nil)) (pf_v 6) (nomark _)) (pfss_one (pfs_ret (pf_tup (pfa_cons (pf_ix ix_D os_ix (pf_v 1) (pf_v 3) (fun _ _ => rfl)) (pfa_cons pf_non (pfa_cons (pf_tup (pfa_cons (pf_v 5) pfa_nil)) pfa_nil)))))) pfss_nil) (pfss_one (pfs_ret (pf_tup (pfa_cons (pf_ix ix_D os_ix (pf_v 1) (pf_v 3) (fun _ _ => rfl)) (pfa_cons (pf_tup (pfa_cons (pf_v 6) (pfa_cons pf_non pfa_nil))) (pfa_cons (pf_tup pfa_nil) pfa_nil))))))))))))
abbrev s_puts_next : Stmt := top 16
theorem sc_puts_next : FnScope ["play", "hand", "state"] ["play", "hand", "state"] (defScope s_puts_next) := ⟨rfl, rfl, rfl, by decide +kernel, rfl, by decide +kernel, by decide +kernel⟩
noncomputable def b_puts_next : FS := (sSeq (sIf (cT (cOp neD (cOp ixD (cOp ixD (cOp ixD (c1 (fldD "inputs") (cV 0)) (cV 1)) (cOp ixD (cV 2) (cD (.int 0)))) (cD (.int 0))) (cD (.str "put")))) (sRet (cD (.bl false))) sNx) (sRet (cOrV (cOp neD (c1 (fldD "kind") (cV 0)) (cD (.str "borrow"))) (cOp notND (cOp ixD (cV 2) (cD (.int 4))) (cD .non)))))
noncomputable def f_puts_next : List D → Gh → M D := fun ds g => noX (fnOf 3 b_puts_next ds g)
theorem d_puts_next {P : Program} {w : World} {K : PySem.W.Frag} {mg : Str → Option Value} {base : Heap} (T : Txt P w K mg base) (A : DefAt K mg "puts_next" s_puts_next ["play", "hand", "state"])  : DefOk P w K mg base CX0 "puts_next" 1 3 f_puts_next :=
  A.ok sc_puts_next rfl (by decide) fun f cdv A outer s H E ah hr => by
    exact (pfss_cons (pfs_if (pft_cmp (op_neD (hu64 hr)) os_ne (pf_ix ix_D os_ix (pf_ix ix_D os_ix (pf_ix ix_D os_ix (pf_fld (fun C h => ⟨(T.play C h).cl, T.play_inputs C h⟩) (pf_v 0)) (pf_v 1) (fun _ _ => rfl)) (pf_ix ix_D os_ix (pf_v 2) pf_int (fun _ _ => rfl)) (fun _ _ => rfl)) pf_int (fun _ _ => rfl)) pf_str (nomark _)) (pfss_one (pfs_ret pf_bl)) pfss_nil) (pfss_one (pfs_ret (pf_or (pf_cmp (op_neD (hu64 hr)) os_ne (pf_fld (fun C h => ⟨(T.play C h).cl, T.play_kind C h⟩) (pf_v 0)) pf_str (nomark _)) (pf_one (pf_cmp op_notN os_notN (pf_ix ix_D os_ix (pf_v 2) pf_int (fun _ _ => rfl)) pf_non (nomark _)))))))
abbrev s_behind_put : Stmt := top 18
theorem sc_behind_put : FnScope ["script", "cell", "state", "done", "ready"] ["script", "cell", "state"] (defScope s_behind_put) := ⟨rfl, rfl, rfl, by decide +kernel, rfl, by decide +kernel, by decide +kernel⟩
noncomputable def b_behind_put : FS := (sSeq (sPar 3 4 (cC (cOp ixD (cV 2) (cD (.int 0))) (cC (cOp ixD (cV 2) (cD (.int 4))) cN))) (sSeq (sAsg (cTup (cC (cOp addD (cOp ixD (cV 1) (cD (.int 0))) (cD (.int 1))) (cC (cOp ixD (cOp ixD (cV 0) (cV 3)) (cD (.int 1))) (cC (cV 4) cN)))) (gN 1)) (sRet (cTup (cC (cV 1) (cC (cFn 2 f_state_ahead (cC (cV 0) (cC (cOp addD (cV 3) (cD (.int 1))) cN))) (cC (cTup cN) cN)))))))
noncomputable def f_behind_put : List D → Gh → M D := fun ds g => noX (fnOf 5 b_behind_put ds g)
theorem d_behind_put {P : Program} {w : World} {K : PySem.W.Frag} {mg : Str → Option Value} {base : Heap} (T : Txt P w K mg base) (A : DefAt K mg "behind_put" s_behind_put ["script", "cell", "state"]) (d_state_ahead : DefOk P w K mg base CX0 "state_ahead" 1 2 f_state_ahead) : DefOk P w K mg base CX0 "behind_put" 2 3 f_behind_put :=
  A.ok sc_behind_put rfl (by decide) fun f cdv A outer s H E ah hr => by
    exact (pfss_cons (pfs_par 3 4 rfl sc_behind_put.nd (pfa_cons (pf_ix ix_D os_ix (pf_v 2) pf_int (fun _ _ => rfl)) (pfa_cons (pf_ix ix_D os_ix (pf_v 2) pf_int (fun _ _ => rfl)) pfa_nil))) (pfss_cons (pfs_set 1 sc_behind_put.nd (pf_tup (pfa_cons (pf_bin op_addD os_add (pf_ix ix_D os_ix (pf_v 1) pf_int (fun _ _ => rfl)) pf_int) (pfa_cons (pf_ix ix_D os_ix (pf_ix ix_D os_ix (pf_v 0) (pf_v 3) (fun _ _ => rfl)) pf_int (fun _ _ => rfl)) (pfa_cons (pf_v 4) pfa_nil))))) (pfss_one (pfs_ret (pf_tup (pfa_cons (pf_v 1) (pfa_cons (pf_call d_state_ahead (hr.mono (by decide)) (pfa_cons (pf_v 0) (pfa_cons (pf_bin op_addD os_add (pf_v 3) pf_int) pfa_nil))) (pfa_cons (pf_tup pfa_nil) pfa_nil))))))))
abbrev s_behind_picture : Stmt := top 20
theorem sc_behind_picture : FnScope ["script", "done", "picture"] ["script", "done", "picture"] (defScope s_behind_picture) := ⟨rfl, rfl, rfl, by decide +kernel, rfl, by decide +kernel, by decide +kernel⟩
noncomputable def b_behind_picture : FS := (sSeq (sIf (cT (cOp eqD (cOp ixD (cOp ixD (cV 0) (cV 1)) (cD (.int 0))) (cD (.str "put")))) (sRet (cTup (cC (cTup (cC (cV 1) (cC (cD .non) (cC (cD .non) (cC (cTup cN) (cC (cV 2) cN)))))) (cC (cTup cN) cN)))) sNx) (sRet (cTup (cC (cFn 2 f_state_ahead (cC (cV 0) (cC (cOp addD (cV 1) (cD (.int 1))) cN))) (cC (cTup (cC (cV 2) cN)) cN)))))
noncomputable def f_behind_picture : List D → Gh → M D := fun ds g => noX (fnOf 3 b_behind_picture ds g)
theorem d_behind_picture {P : Program} {w : World} {K : PySem.W.Frag} {mg : Str → Option Value} {base : Heap} (T : Txt P w K mg base) (A : DefAt K mg "behind_picture" s_behind_picture ["script", "done", "picture"]) (d_state_ahead : DefOk P w K mg base CX0 "state_ahead" 1 2 f_state_ahead) : DefOk P w K mg base CX0 "behind_picture" 2 3 f_behind_picture :=
  A.ok sc_behind_picture rfl (by decide) fun f cdv A outer s H E ah hr => by
    exact (pfss_cons (pfs_if (pft_cmp (op_eqD (hu64 hr)) os_eq (pf_ix ix_D os_ix (pf_ix ix_D os_ix (pf_v 0) (pf_v 1) (fun _ _ => rfl)) pf_int (fun _ _ => rfl)) pf_str (nomark _)) (pfss_one (pfs_ret (pf_tup (pfa_cons (pf_tup (pfa_cons (pf_v 1) (pfa_cons pf_non (pfa_cons pf_non (pfa_cons (pf_tup pfa_nil) (pfa_cons (pf_v 2) pfa_nil)))))) (pfa_cons (pf_tup pfa_nil) pfa_nil))))) pfss_nil) (pfss_one (pfs_ret (pf_tup (pfa_cons (pf_call d_state_ahead (hr.mono (by decide)) (pfa_cons (pf_v 0) (pfa_cons (pf_bin op_addD os_add (pf_v 1) pf_int) pfa_nil))) (pfa_cons (pf_tup (pfa_cons (pf_v 2) pfa_nil)) pfa_nil))))))
abbrev s_numbers_of : Stmt := top 21
theorem sc_numbers_of : FnScope ["cells", "cell"] ["cells"] (defScope s_numbers_of) := ⟨rfl, rfl, rfl, by decide +kernel, rfl, by decide +kernel, by decide +kernel⟩
noncomputable def b_numbers_of : FS := (sRet (cCall tupleD (cC (cLc (iS (cV 0)) [1] (gN 1) tY (cOp ixD (cV 1) (cD (.int 0)))) cN)))
noncomputable def f_numbers_of : List D → Gh → M D := fun ds g => noX (fnOf 2 b_numbers_of ds g)
theorem d_numbers_of {P : Program} {w : World} {K : PySem.W.Frag} {mg : Str → Option Value} {base : Heap} (T : Txt P w K mg base) (A : DefAt K mg "numbers_of" s_numbers_of ["cells"])  : DefOk P w K mg base CX0 "numbers_of" 1 1 f_numbers_of :=
  A.ok sc_numbers_of rfl (by decide) fun f cdv A outer s H E ah hr => by
    exact (pfss_one (pfs_ret (pf_callTy call_tuple_of cs_tuple T.b_tuple (by decide +kernel) (pfa_cons (pf_lc [("cell", 1)] sc_numbers_of.nd (pfi_seq (pf_v 0)) (fun _ => (pfg_n 1 sc_numbers_of.nd)) (fun _ => pfts_nil) (fun _ => (pf_ix ix_D os_ix (pf_v 1) pf_int (fun _ _ => rfl))) (blkOk_by (N := ["cells", "cell"]) (sc := defScope s_numbers_of) (by decide +kernel))) pfa_nil))))
abbrev s_borrowed : Stmt := top 23
theorem sc_borrowed : FnScope ["first", "now", "number", "cell"] ["first", "now"] (defScope s_borrowed) := ⟨rfl, rfl, rfl, by decide +kernel, rfl, by decide +kernel, by decide +kernel⟩
noncomputable def b_borrowed : FS := (sSeq (sFor (iZ (cC (cV 0) (cC (cV 1) cN))) (gT 2 (gsC (gN 2) (gsC (gN 3) gsN))) (sIf (cT (cOp geD (cOp ixD (cV 3) (cD (.int 0))) (cOp addD (cV 2) (cD (.int 2))))) (sRet (cOp ixD (cV 3) (cD (.int 2)))) sNx)) (sRet (cD .non)))
noncomputable def f_borrowed : List D → Gh → M D := fun ds g => noX (fnOf 4 b_borrowed ds g)
theorem d_borrowed {P : Program} {w : World} {K : PySem.W.Frag} {mg : Str → Option Value} {base : Heap} (T : Txt P w K mg base) (A : DefAt K mg "borrowed" s_borrowed ["first", "now"])  : DefOk P w K mg base CX0 "borrowed" 1 2 f_borrowed :=
  A.ok sc_borrowed rfl (by decide) fun f cdv A outer s H E ah hr => by
    exact (pfss_cons (pfs_for PassesOwn.never rfl (pfi_zip T.b_zip (pfa_cons (pf_v 0) (pfa_cons (pf_v 1) pfa_nil))) (pfg_tup rfl (pfgs_cons (pfg_n 2 sc_borrowed.nd) (pfgs_cons (pfg_n 3 sc_borrowed.nd) pfgs_nil))) (pfss_one (pfs_if (pft_cmp op_ge os_ge (pf_ix ix_D os_ix (pf_v 3) pf_int (fun _ _ => rfl)) (pf_bin op_addD os_add (pf_v 2) pf_int) (nomark _)) (pfss_one (pfs_ret (pf_ix ix_D os_ix (pf_v 3) pf_int (fun _ _ => rfl)))) pfss_nil))) (pfss_one (pfs_ret pf_non)))
abbrev s_picture_of_sweep : Stmt := top 22
theorem sc_picture_of_sweep : FnScope ["kind", "first", "last", "now", "cell"] ["kind", "first", "last", "now"] (defScope s_picture_of_sweep) := ⟨rfl, rfl, rfl, by decide +kernel, rfl, by decide +kernel, by decide +kernel⟩
noncomputable def b_picture_of_sweep : FS := (sSeq (sIf (cOr (cT (cOp eqD (cV 0) (cD (.str "sweep")))) (cT (cOp eqD (cFn 1 f_numbers_of (cC (cV 3) cN)) (cV 2)))) (sRet (cCall tupleD (cC (cLc (iS (cV 3)) [4] (gN 4) tY (cTup (cC (cOp ixD (cV 4) (cD (.int 0))) (cC (cOp ixD (cV 4) (cD (.int 1))) cN)))) cN))) sNx) (sSeq (sIf (cAnd (cT (cOp eqD (cV 0) (cD (.str "borrow")))) (cT (cOp notND (cV 1) (cD .non)))) (sRet (cFn 2 f_borrowed (cC (cV 1) (cC (cV 3) cN)))) sNx) (sRet (cD .non))))
noncomputable def f_picture_of_sweep : List D → Gh → M D := fun ds g => noX (fnOf 5 b_picture_of_sweep ds g)
theorem d_picture_of_sweep {P : Program} {w : World} {K : PySem.W.Frag} {mg : Str → Option Value} {base : Heap} (T : Txt P w K mg base) (A : DefAt K mg "picture_of_sweep" s_picture_of_sweep ["kind", "first", "last", "now"]) (d_numbers_of : DefOk P w K mg base CX0 "numbers_of" 1 1 f_numbers_of) (d_borrowed : DefOk P w K mg base CX0 "borrowed" 1 2 f_borrowed) : DefOk P w K mg base CX0 "picture_of_sweep" 2 4 f_picture_of_sweep :=
  A.ok sc_picture_of_sweep rfl (by decide) fun f cdv A outer s H E ah hr => by
    exact (pfss_cons (pfs_if (pft_w (pfw_or (pft_cmp (op_eqD (hu64 hr)) os_eq (pf_v 0) pf_str (nomark _)) (pfw_or1 (pft_cmp (op_eqD (hu64 hr)) os_eq (pf_call d_numbers_of (hr.mono (by decide)) (pfa_cons (pf_v 3) pfa_nil)) (pf_v 2) (nomark _))))) (pfss_one (pfs_ret (pf_callTy call_tuple_of cs_tuple T.b_tuple (by decide +kernel) (pfa_cons (pf_lc [("cell", 4)] sc_picture_of_sweep.nd (pfi_seq (pf_v 3)) (fun _ => (pfg_n 4 sc_picture_of_sweep.nd)) (fun _ => pfts_nil) (fun _ => (pf_tup (pfa_cons (pf_ix ix_D os_ix (pf_v 4) pf_int (fun _ _ => rfl)) (pfa_cons (pf_ix ix_D os_ix (pf_v 4) pf_int (fun _ _ => rfl)) pfa_nil)))) (blkOk_by (N := ["kind", "first", "last", "now", "cell"]) (sc := defScope s_picture_of_sweep) (by decide +kernel))) pfa_nil)))) pfss_nil) (pfss_cons (pfs_if (pft_w (pfw_and (pft_cmp (op_eqD (hu64 hr)) os_eq (pf_v 0) pf_str (nomark _)) (pfw_and1 (pft_cmp op_notN os_notN (pf_v 1) pf_non (nomark _))))) (pfss_one (pfs_ret (pf_call d_borrowed (hr.mono (by decide)) (pfa_cons (pf_v 1) (pfa_cons (pf_v 3) pfa_nil))))) pfss_nil) (pfss_one (pfs_ret pf_non))))
abbrev s_behind_look : Stmt := top 19
theorem sc_behind_look : FnScope ["play", "cells", "state", "hand", "now", "picture", "numbers", "done", "first", "last", "ready"] ["play", "cells", "state", "hand"] (defScope s_behind_look) := ⟨rfl, rfl, rfl, by decide +kernel, rfl, by decide +kernel, by decide +kernel⟩
noncomputable def b_behind_look : FS := (sSeq (sAsg (cV 2) (gT 5 (gsC (gN 7) (gsC (gN 8) (gsC (gN 9) (gsC (gN 4) (gsC (gN 10) gsN))))))) (sSeq (sAsg (cOp addD (cV 4) (cTup (cC (cOp ixD (cV 1) (cCall lenD (cC (cV 4) cN))) cN))) (gN 4)) (sSeq (sIf (cT (cOp ltD (cCall lenD (cC (cV 4) cN)) (cCall lenD (cC (cV 1) cN)))) (sRet (cTup (cC (cTup (cC (cV 7) (cC (cV 8) (cC (cV 9) (cC (cV 4) (cC (cV 10) cN)))))) (cC (cTup cN) cN)))) sNx) (sSeq (sAsg (cFn 4 f_picture_of_sweep (cC (c1 (fldD "kind") (cV 0)) (cC (cV 8) (cC (cV 9) (cC (cV 4) cN))))) (gN 5)) (sSeq (sIf (cT (cOp notND (cV 5) (cD .non))) (sRet (cFn 3 f_behind_picture (cC (cOp ixD (c1 (fldD "inputs") (cV 0)) (cV 3)) (cC (cV 7) (cC (cV 5) cN))))) sNx) (sSeq (sAsg (cFn 1 f_numbers_of (cC (cV 4) cN)) (gN 6)) (sSeq (sIf (cT (cOp isND (cV 8) (cD .non))) (sAsg (cV 6) (gN 8)) sNx) (sRet (cTup (cC (cTup (cC (cV 7) (cC (cV 8) (cC (cV 6) (cC (cTup cN) (cC (cV 10) cN)))))) (cC (cTup cN) cN)))))))))))
noncomputable def f_behind_look : List D → Gh → M D := fun ds g => noX (fnOf 11 b_behind_look ds g)
theorem d_behind_look {P : Program} {w : World} {K : PySem.W.Frag} {mg : Str → Option Value} {base : Heap} (T : Txt P w K mg base) (A : DefAt K mg "behind_look" s_behind_look ["play", "cells", "state", "hand"]) (d_picture_of_sweep : DefOk P w K mg base CX0 "picture_of_sweep" 2 4 f_picture_of_sweep) (d_behind_picture : DefOk P w K mg base CX0 "behind_picture" 2 3 f_behind_picture) (d_numbers_of : DefOk P w K mg base CX0 "numbers_of" 1 1 f_numbers_of) : DefOk P w K mg base CX0 "behind_look" 3 4 f_behind_look :=
  A.ok sc_behind_look rfl (by decide) fun f cdv A outer s H E ah hr => by
    exact (pfss_cons (pfs_asg (pf_v 2) (pfg_tup rfl (pfgs_cons (pfg_n 7 sc_behind_look.nd) (pfgs_cons (pfg_n 8 sc_behind_look.nd) (pfgs_cons (pfg_n 9 sc_behind_look.nd) (pfgs_cons (pfg_n 4 sc_behind_look.nd) (pfgs_cons (pfg_n 10 sc_behind_look.nd) pfgs_nil))))))) (pfss_cons (pfs_set 4 sc_behind_look.nd (pf_bin op_addD os_add (pf_v 4) (pf_tup (pfa_cons (pf_ix ix_D os_ix (pf_v 1) (pf_len T.b_len (pfa_cons (pf_v 4) pfa_nil)) (fun _ _ => rfl)) pfa_nil)))) (pfss_cons (pfs_if (pft_cmp op_lt os_lt (pf_len T.b_len (pfa_cons (pf_v 4) pfa_nil)) (pf_len T.b_len (pfa_cons (pf_v 1) pfa_nil)) (nomark _)) (pfss_one (pfs_ret (pf_tup (pfa_cons (pf_tup (pfa_cons (pf_v 7) (pfa_cons (pf_v 8) (pfa_cons (pf_v 9) (pfa_cons (pf_v 4) (pfa_cons (pf_v 10) pfa_nil)))))) (pfa_cons (pf_tup pfa_nil) pfa_nil))))) pfss_nil) (pfss_cons (pfs_set 5 sc_behind_look.nd (pf_call d_picture_of_sweep (hr.mono (by decide)) (pfa_cons (pf_fld (fun C h => ⟨(T.play C h).cl, T.play_kind C h⟩) (pf_v 0)) (pfa_cons (pf_v 8) (pfa_cons (pf_v 9) (pfa_cons (pf_v 4) pfa_nil)))))) (pfss_cons (pfs_if (pft_cmp op_notN os_notN (pf_v 5) pf_non (nomark _)) (pfss_one (pfs_ret (pf_call d_behind_picture (hr.mono (by decide)) (pfa_cons (pf_ix ix_D os_ix (pf_fld (fun C h => ⟨(T.play C h).cl, T.play_inputs C h⟩) (pf_v 0)) (pf_v 3) (fun _ _ => rfl)) (pfa_cons (pf_v 7) (pfa_cons (pf_v 5) pfa_nil)))))) pfss_nil) (pfss_cons (pfs_set 6 sc_behind_look.nd (pf_call d_numbers_of (hr.mono (by decide)) (pfa_cons (pf_v 4) pfa_nil))) (pfss_cons (pfs_if (pft_cmp op_isN os_isN (pf_v 8) pf_non (nomark _)) (pfss_one (pfs_set 8 sc_behind_look.nd (pf_v 6))) pfss_nil) (pfss_one (pfs_ret (pf_tup (pfa_cons (pf_tup (pfa_cons (pf_v 7) (pfa_cons (pf_v 8) (pfa_cons (pf_v 6) (pfa_cons (pf_tup pfa_nil) (pfa_cons (pf_v 10) pfa_nil)))))) (pfa_cons (pf_tup pfa_nil) pfa_nil))))))))))))
abbrev s_step_in_manner : Stmt := top 17
theorem sc_step_in_manner : FnScope ["play", "cells", "state", "hand", "news"] ["play", "cells", "state", "hand"] (defScope s_step_in_manner) := ⟨rfl, rfl, rfl, by decide +kernel, rfl, by decide +kernel, by decide +kernel⟩
noncomputable def b_step_in_manner : FS := (sSeq (sIf (cT (cFn 3 f_puts_next (cC (cV 0) (cC (cV 3) (cC (cV 2) cN))))) (sRet (cFn 3 f_behind_put (cC (cOp ixD (c1 (fldD "inputs") (cV 0)) (cV 3)) (cC (cOp ixD (cV 1) (cV 3)) (cC (cV 2) cN))))) sNx) (sSeq (sAsg (cFn 4 f_behind_look (cC (cV 0) (cC (cV 1) (cC (cV 2) (cC (cV 3) cN))))) (gT 2 (gsC (gN 2) (gsC (gN 4) gsN)))) (sRet (cTup (cC (cOp ixD (cV 1) (cV 3)) (cC (cV 2) (cC (cV 4) cN)))))))
noncomputable def f_step_in_manner : List D → Gh → M D := fun ds g => noX (fnOf 5 b_step_in_manner ds g)
theorem d_step_in_manner {P : Program} {w : World} {K : PySem.W.Frag} {mg : Str → Option Value} {base : Heap} (T : Txt P w K mg base) (A : DefAt K mg "step_in_manner" s_step_in_manner ["play", "cells", "state", "hand"]) (d_puts_next : DefOk P w K mg base CX0 "puts_next" 1 3 f_puts_next) (d_behind_put : DefOk P w K mg base CX0 "behind_put" 2 3 f_behind_put) (d_behind_look : DefOk P w K mg base CX0 "behind_look" 3 4 f_behind_look) : DefOk P w K mg base CX0 "step_in_manner" 4 4 f_step_in_manner :=
  A.ok sc_step_in_manner rfl (by decide) fun f cdv A outer s H E ah hr => by
    exact (pfss_cons (pfs_if (pft_val (pf_call d_puts_next (hr.mono (by decide)) (pfa_cons (pf_v 0) (pfa_cons (pf_v 3) (pfa_cons (pf_v 2) pfa_nil))))) (pfss_one (pfs_ret (pf_call d_behind_put (hr.mono (by decide)) (pfa_cons (pf_ix ix_D os_ix (pf_fld (fun C h => ⟨(T.play C h).cl, T.play_inputs C h⟩) (pf_v 0)) (pf_v 3) (fun _ _ => rfl)) (pfa_cons (pf_ix ix_D os_ix (pf_v 1) (pf_v 3) (fun _ _ => rfl)) (pfa_cons (pf_v 2) pfa_nil)))))) pfss_nil) (pfss_cons (pfs_asg (pf_call d_behind_look (hr.mono (by decide)) (pfa_cons (pf_v 0) (pfa_cons (pf_v 1) (pfa_cons (pf_v 2) (pfa_cons (pf_v 3) pfa_nil))))) (pfg_tup rfl (pfgs_cons (pfg_n 2 sc_step_in_manner.nd) (pfgs_cons (pfg_n 4 sc_step_in_manner.nd) pfgs_nil)))) (pfss_one (pfs_ret (pf_tup (pfa_cons (pf_ix ix_D os_ix (pf_v 1) (pf_v 3) (fun _ _ => rfl)) (pfa_cons (pf_v 2) (pfa_cons (pf_v 4) pfa_nil))))))))
abbrev s_free_number : Stmt := top 51
theorem sc_free_number : FnScope ["rank", "taken", "number"] ["rank", "taken"] (defScope s_free_number) := ⟨rfl, rfl, rfl, by decide +kernel, rfl, by decide +kernel, by decide +kernel⟩
noncomputable def b_free_number : FS := (sSeq (sAsg (cD (.int 0)) (gN 2)) (sSeq (whileN (cT (cOp gtD (cV 0) (cD (.int 0)))) (sSeq (sAug 2 false (cD (.int 1))) (sIf (cT (cOp notInD (cV 2) (cV 1))) (sAug 0 true (cD (.int 1))) sNx)) 1000) (sRet (cV 2))))
noncomputable def f_free_number : List D → Gh → M D := fun ds g => noX (fnOf 3 b_free_number ds g)
theorem d_free_number {P : Program} {w : World} {K : PySem.W.Frag} {mg : Str → Option Value} {base : Heap} (T : Txt P w K mg base) (A : DefAt K mg "free_number" s_free_number ["rank", "taken"])  : DefOk P w K mg base CX0 "free_number" 1 2 f_free_number :=
  A.ok sc_free_number rfl (by decide) fun f cdv A outer s H E ah hr => by
    exact (pfss_cons (pfs_set 2 sc_free_number.nd pf_int) (pfss_cons (pfs_while 1000 PassesOwn.never (pft_cmp op_gt os_gt (pf_v 0) pf_int (nomark _)) (pfss_cons (pfs_augA 2 sc_free_number.nd pf_int) (pfss_one (pfs_if (pft_cmp op_notIn_seq os_notIn (pf_v 2) (pf_v 1) rfl) (pfss_one (pfs_augS 0 sc_free_number.nd pf_int)) pfss_nil)))) (pfss_one (pfs_ret (pf_v 2)))))
abbrev s_step_in_names : Stmt := top 50
theorem sc_step_in_names : FnScope ["play", "cells", "state", "hand", "taken", "rank", "wish", "is_put", "other", "cell"] ["play", "cells", "state", "hand"] (defScope s_step_in_names) := ⟨rfl, rfl, rfl, by decide +kernel, rfl, by decide +kernel, by decide +kernel⟩
noncomputable def b_step_in_names : FS := (sSeq (sAsg (cV 2) (gT 2 (gsC (gN 6) (gsC (gN 7) gsN)))) (sSeq (sIf (cNot (cT (cV 7))) (sRet (cTup (cC (cTup (cC (cOp ixD (c1 (fldD "inputs") (cV 0)) (cV 3)) (cC (cV 6) cN))) (cC (cTup (cC (cV 6) (cC (cD (.bl true)) cN))) (cC (cTup cN) cN))))) sNx) (sSeq (sAsg (cLc (iEn (cC (cV 1) cN)) [8, 9] (gT 2 (gsC (gN 8) (gsC (gN 9) gsN))) (cAnd (cT (cOp neD (cV 8) (cV 3))) (cT (cOp notND (cV 9) (cD .non)))) (cOp ixD (cV 9) (cD (.int 1)))) (gN 4)) (sSeq (sIf (cT (cOp notInD (cV 6) (cV 4))) (sRet (cTup (cC (cOp ixD (cV 1) (cV 3)) (cC (cD .non) (cC (cTup (cC (cV 6) cN)) cN))))) sNx) (sSeq (sAsg (cCall lenD (cC (cLc (iS (cV 1)) [9] (gN 9) (cAnd (cT (cOp notND (cV 9) (cD .non))) (cT (cOp leD (cOp ixD (cV 9) (cD (.int 0))) (cOp ixD (c1 (fldD "inputs") (cV 0)) (cV 3))))) (cV 9)) cN)) (gN 5)) (sRet (cTup (cC (cOp ixD (cV 1) (cV 3)) (cC (cTup (cC (cFn 2 f_free_number (cC (cV 5) (cC (cV 4) cN))) (cC (cD (.bl false)) cN))) (cC (cTup cN) cN))))))))))
noncomputable def f_step_in_names : List D → Gh → M D := fun ds g => noX (fnOf 10 b_step_in_names ds g)
theorem d_step_in_names {P : Program} {w : World} {K : PySem.W.Frag} {mg : Str → Option Value} {base : Heap} (T : Txt P w K mg base) (A : DefAt K mg "step_in_names" s_step_in_names ["play", "cells", "state", "hand"]) (d_free_number : DefOk P w K mg base CX0 "free_number" 1 2 f_free_number) : DefOk P w K mg base CX0 "step_in_names" 2 4 f_step_in_names :=
  A.ok sc_step_in_names rfl (by decide) fun f cdv A outer s H E ah hr => by
    exact (pfss_cons (pfs_asg (pf_v 2) (pfg_tup rfl (pfgs_cons (pfg_n 6 sc_step_in_names.nd) (pfgs_cons (pfg_n 7 sc_step_in_names.nd) pfgs_nil)))) (pfss_cons (pfs_if (pft_not (pft_val (pf_v 7))) (pfss_one (pfs_ret (pf_tup (pfa_cons (pf_tup (pfa_cons (pf_ix ix_D os_ix (pf_fld (fun C h => ⟨(T.play C h).cl, T.play_inputs C h⟩) (pf_v 0)) (pf_v 3) (fun _ _ => rfl)) (pfa_cons (pf_v 6) pfa_nil))) (pfa_cons (pf_tup (pfa_cons (pf_v 6) (pfa_cons pf_bl pfa_nil))) (pfa_cons (pf_tup pfa_nil) pfa_nil)))))) pfss_nil) (pfss_cons (pfs_lc 4 [("other", 8), ("cell", 9)] sc_step_in_names.nd (pfi_enum T.b_enumerate (pfa_cons (pf_v 1) pfa_nil)) (fun _ => (pfg_tup rfl (pfgs_cons (pfg_n 8 sc_step_in_names.nd) (pfgs_cons (pfg_n 9 sc_step_in_names.nd) pfgs_nil)))) (fun _ => (pfts_one (pft_w (pfw_and (pft_cmp (op_neD (hu64 hr)) os_ne (pf_v 8) (pf_v 3) (nomark _)) (pfw_and1 (pft_cmp op_notN os_notN (pf_v 9) pf_non (nomark _))))))) (fun _ => (pf_ix ix_D os_ix (pf_v 9) pf_int (fun _ _ => rfl))) (blkOk_by (N := ["play", "cells", "state", "hand", "taken", "rank", "wish", "is_put", "other", "cell"]) (sc := defScope s_step_in_names) (by decide +kernel)) (sw_true rfl rfl rfl (by decide +kernel))) (pfss_cons (pfs_if (pft_cmp op_notIn_seq os_notIn (pf_v 6) (pf_v 4) rfl) (pfss_one (pfs_ret (pf_tup (pfa_cons (pf_ix ix_D os_ix (pf_v 1) (pf_v 3) (fun _ _ => rfl)) (pfa_cons pf_non (pfa_cons (pf_tup (pfa_cons (pf_v 6) pfa_nil)) pfa_nil)))))) pfss_nil) (pfss_cons (pfs_set 5 sc_step_in_names.nd (pf_len T.b_len (pfa_cons (pf_lc [("cell", 9)] sc_step_in_names.nd (pfi_seq (pf_v 1)) (fun _ => (pfg_n 9 sc_step_in_names.nd)) (fun _ => (pfts_one (pft_w (pfw_and (pft_cmp op_notN os_notN (pf_v 9) pf_non (nomark _)) (pfw_and1 (pft_cmp op_le os_le (pf_ix ix_D os_ix (pf_v 9) pf_int (fun _ _ => rfl)) (pf_ix ix_D os_ix (pf_fld (fun C h => ⟨(T.play C h).cl, T.play_inputs C h⟩) (pf_v 0)) (pf_v 3) (fun _ _ => rfl)) (nomark _))))))) (fun _ => (pf_v 9)) (blkOk_by (N := ["play", "cells", "state", "hand", "taken", "rank", "wish", "is_put", "other", "cell"]) (sc := defScope s_step_in_names) (by decide +kernel))) pfa_nil))) (pfss_one (pfs_ret (pf_tup (pfa_cons (pf_ix ix_D os_ix (pf_v 1) (pf_v 3) (fun _ _ => rfl)) (pfa_cons (pf_tup (pfa_cons (pf_call d_free_number (hr.mono (by decide)) (pfa_cons (pf_v 5) (pfa_cons (pf_v 4) pfa_nil))) (pfa_cons pf_bl pfa_nil))) (pfa_cons (pf_tup pfa_nil) pfa_nil)))))))))))
abbrev s_step_in_near : Stmt := top 52
theorem sc_step_in_near : FnScope ["play", "cells", "state", "hand", "tops", "top", "rounds", "at", "is_put", "cell"] ["play", "cells", "state", "hand"] (defScope s_step_in_near) := ⟨rfl, rfl, rfl, by decide +kernel, rfl, by decide +kernel, by decide +kernel⟩
noncomputable def b_step_in_near : FS := (sSeq (sAsg (cV 2) (gT 3 (gsC (gN 7) (gsC (gN 5) (gsC (gN 8) gsN))))) (sSeq (sIf (cNot (cT (cV 8))) (sRet (cTup (cC (cOp addD (cOp ixD (cV 1) (cV 3)) (cTup (cC (cV 5) cN))) (cC (cTup (cC (cV 7) (cC (cV 5) (cC (cD (.bl true)) cN)))) (cC (cTup cN) cN))))) sNx) (sSeq (sAsg (cLc (iS (cV 1)) [9] (gN 9) (cT (cOp gtD (cCall lenD (cC (cV 9) cN)) (cV 7))) (cOp ixD (cV 9) (cV 7))) (gN 4)) (sSeq (sAsg (cOp addD (cCall minD (cC (cV 4) cN)) (cCall maxD (cC (cV 4) cN))) (gN 5)) (sSeq (sAsg (cOp ixD (c1 (fldD "inputs") (cV 0)) (cD (.int 0))) (gN 6)) (sSeq (sIf (cT (cOp eqD (cOp addD (cV 7) (cD (.int 1))) (cV 6))) (sRet (cTup (cC (cOp ixD (cV 1) (cV 3)) (cC (cD .non) (cC (cTup (cC (cTup (cC (cV 5) (cC (cV 6) cN))) cN)) cN))))) sNx) (sRet (cTup (cC (cOp ixD (cV 1) (cV 3)) (cC (cTup (cC (cOp addD (cV 7) (cD (.int 1))) (cC (cV 5) (cC (cD (.bl false)) cN)))) (cC (cTup cN) cN)))))))))))
noncomputable def f_step_in_near : List D → Gh → M D := fun ds g => noX (fnOf 10 b_step_in_near ds g)
theorem d_step_in_near {P : Program} {w : World} {K : PySem.W.Frag} {mg : Str → Option Value} {base : Heap} (T : Txt P w K mg base) (A : DefAt K mg "step_in_near" s_step_in_near ["play", "cells", "state", "hand"])  : DefOk P w K mg base CX0 "step_in_near" 1 4 f_step_in_near :=
  A.ok sc_step_in_near rfl (by decide) fun f cdv A outer s H E ah hr => by
    exact (pfss_cons (pfs_asg (pf_v 2) (pfg_tup rfl (pfgs_cons (pfg_n 7 sc_step_in_near.nd) (pfgs_cons (pfg_n 5 sc_step_in_near.nd) (pfgs_cons (pfg_n 8 sc_step_in_near.nd) pfgs_nil))))) (pfss_cons (pfs_if (pft_not (pft_val (pf_v 8))) (pfss_one (pfs_ret (pf_tup (pfa_cons (pf_bin op_addD os_add (pf_ix ix_D os_ix (pf_v 1) (pf_v 3) (fun _ _ => rfl)) (pf_tup (pfa_cons (pf_v 5) pfa_nil))) (pfa_cons (pf_tup (pfa_cons (pf_v 7) (pfa_cons (pf_v 5) (pfa_cons pf_bl pfa_nil)))) (pfa_cons (pf_tup pfa_nil) pfa_nil)))))) pfss_nil) (pfss_cons (pfs_lc 4 [("cell", 9)] sc_step_in_near.nd (pfi_seq (pf_v 1)) (fun _ => (pfg_n 9 sc_step_in_near.nd)) (fun _ => (pfts_one (pft_cmp op_gt os_gt (pf_len T.b_len (pfa_cons (pf_v 9) pfa_nil)) (pf_v 7) (nomark _)))) (fun _ => (pf_ix ix_D os_ix (pf_v 9) (pf_v 7) (fun _ _ => rfl))) (blkOk_by (N := ["play", "cells", "state", "hand", "tops", "top", "rounds", "at", "is_put", "cell"]) (sc := defScope s_step_in_near) (by decide +kernel)) (sw_true rfl rfl rfl (by decide +kernel))) (pfss_cons (pfs_set 5 sc_step_in_near.nd (pf_bin op_addD os_add (pf_callB (cr_min rfl) cs_min T.b_min (by decide +kernel) (pfa_cons (pf_v 4) pfa_nil)) (pf_callB (cr_max rfl) cs_max T.b_max (by decide +kernel) (pfa_cons (pf_v 4) pfa_nil)))) (pfss_cons (pfs_set 6 sc_step_in_near.nd (pf_ix ix_D os_ix (pf_fld (fun C h => ⟨(T.play C h).cl, T.play_inputs C h⟩) (pf_v 0)) pf_int (fun _ _ => rfl))) (pfss_cons (pfs_if (pft_cmp (op_eqD (hu64 hr)) os_eq (pf_bin op_addD os_add (pf_v 7) pf_int) (pf_v 6) (nomark _)) (pfss_one (pfs_ret (pf_tup (pfa_cons (pf_ix ix_D os_ix (pf_v 1) (pf_v 3) (fun _ _ => rfl)) (pfa_cons pf_non (pfa_cons (pf_tup (pfa_cons (pf_tup (pfa_cons (pf_v 5) (pfa_cons (pf_v 6) pfa_nil))) pfa_nil)) pfa_nil)))))) pfss_nil) (pfss_one (pfs_ret (pf_tup (pfa_cons (pf_ix ix_D os_ix (pf_v 1) (pf_v 3) (fun _ _ => rfl)) (pfa_cons (pf_tup (pfa_cons (pf_bin op_addD os_add (pf_v 7) pf_int) (pfa_cons (pf_v 5) (pfa_cons pf_bl pfa_nil)))) (pfa_cons (pf_tup pfa_nil) pfa_nil))))))))))))
abbrev s_step_in_chain : Stmt := top 53
theorem sc_step_in_chain : FnScope ["play", "cells", "state", "hand", "lots", "cell", "lot", "number"] ["play", "cells", "state", "hand"] (defScope s_step_in_chain) := ⟨rfl, rfl, rfl, by decide +kernel, rfl, by decide +kernel, by decide +kernel⟩
noncomputable def b_step_in_chain : FS := (sSeq (sIf (cNot (cT (cOp ixD (cV 2) (cD (.int 0))))) (sRet (cTup (cC (cOp ixD (c1 (fldD "inputs") (cV 0)) (cV 3)) (cC (cTup (cC (cD (.bl true)) cN)) (cC (cTup cN) cN))))) sNx) (sSeq (sAsg (cLc (iS (cV 1)) [5] (gN 5) (cT (cOp notND (cV 5) (cD .non))) (cV 5)) (gN 4)) (sRet (cTup (cC (cOp ixD (cV 1) (cV 3)) (cC (cD .non) (cC (cTup (cC (cCall tupleD (cC (cUnion 4 6 7) cN)) cN)) cN)))))))
noncomputable def f_step_in_chain : List D → Gh → M D := fun ds g => noX (fnOf 8 b_step_in_chain ds g)
theorem d_step_in_chain {P : Program} {w : World} {K : PySem.W.Frag} {mg : Str → Option Value} {base : Heap} (T : Txt P w K mg base) (A : DefAt K mg "step_in_chain" s_step_in_chain ["play", "cells", "state", "hand"])  : DefOk P w K mg base CX0 "step_in_chain" 1 4 f_step_in_chain :=
  A.ok sc_step_in_chain rfl (by decide) fun f cdv A outer s H E ah hr => by
    exact (pfss_cons (pfs_if (pft_not (pft_val (pf_ix ix_D os_ix (pf_v 2) pf_int (fun _ _ => rfl)))) (pfss_one (pfs_ret (pf_tup (pfa_cons (pf_ix ix_D os_ix (pf_fld (fun C h => ⟨(T.play C h).cl, T.play_inputs C h⟩) (pf_v 0)) (pf_v 3) (fun _ _ => rfl)) (pfa_cons (pf_tup (pfa_cons pf_bl pfa_nil)) (pfa_cons (pf_tup pfa_nil) pfa_nil)))))) pfss_nil) (pfss_cons (pfs_lc 4 [("cell", 5)] sc_step_in_chain.nd (pfi_seq (pf_v 1)) (fun _ => (pfg_n 5 sc_step_in_chain.nd)) (fun _ => (pfts_one (pft_cmp op_notN os_notN (pf_v 5) pf_non (nomark _)))) (fun _ => (pf_v 5)) (blkOk_by (N := ["play", "cells", "state", "hand", "lots", "cell", "lot", "number"]) (sc := defScope s_step_in_chain) (by decide +kernel)) (sw_true rfl rfl rfl (by decide +kernel))) (pfss_one (pfs_ret (pf_tup (pfa_cons (pf_ix ix_D os_ix (pf_v 1) (pf_v 3) (fun _ _ => rfl)) (pfa_cons pf_non (pfa_cons (pf_tup (pfa_cons (pf_callTy call_tuple_of cs_tuple T.b_tuple (by decide +kernel) (pfa_cons (pf_union 4 6 7 T.b_sorted sc_step_in_chain.nd (blkOk_by (N := ["play", "cells", "state", "hand", "lots", "cell", "lot", "number"]) (sc := defScope s_step_in_chain) (by decide +kernel)) (pe_var rfl (by first | exact Or.inl rfl | exact Or.inr (Or.inl rfl) | exact Or.inr (Or.inr rfl))) (fun _ => pg_name sc_step_in_chain.nd rfl (by first | exact Or.inl rfl | exact Or.inr rfl) (by first | exact .inl rfl | exact .inr rfl)) (fun _ => pe_var rfl (by first | exact Or.inl rfl | exact Or.inr (Or.inl rfl) | exact Or.inr (Or.inr rfl))) (fun _ => pg_name sc_step_in_chain.nd rfl (by first | exact Or.inl rfl | exact Or.inr rfl) (by first | exact .inl rfl | exact .inr rfl)) (fun _ => pe_var rfl (by first | exact Or.inl rfl | exact Or.inr (Or.inl rfl) | exact Or.inr (Or.inr rfl)))) pfa_nil)) pfa_nil)) pfa_nil))))))))
abbrev s_step_in_seeing : Stmt := top 49
theorem sc_step_in_seeing : FnScope ["play", "cells", "state", "hand"] ["play", "cells", "state", "hand"] (defScope s_step_in_seeing) := ⟨rfl, rfl, rfl, by decide +kernel, rfl, by decide +kernel, by decide +kernel⟩
noncomputable def b_step_in_seeing : FS := (sSeq (sIf (cT (cOp eqD (c1 (fldD "kind") (cV 0)) (cD (.str "names")))) (sRet (cFn 4 f_step_in_names (cC (cV 0) (cC (cV 1) (cC (cV 2) (cC (cV 3) cN)))))) sNx) (sSeq (sIf (cT (cOp eqD (c1 (fldD "kind") (cV 0)) (cD (.str "near")))) (sRet (cFn 4 f_step_in_near (cC (cV 0) (cC (cV 1) (cC (cV 2) (cC (cV 3) cN)))))) sNx) (sRet (cFn 4 f_step_in_chain (cC (cV 0) (cC (cV 1) (cC (cV 2) (cC (cV 3) cN))))))))
noncomputable def f_step_in_seeing : List D → Gh → M D := fun ds g => noX (fnOf 4 b_step_in_seeing ds g)
theorem d_step_in_seeing {P : Program} {w : World} {K : PySem.W.Frag} {mg : Str → Option Value} {base : Heap} (T : Txt P w K mg base) (A : DefAt K mg "step_in_seeing" s_step_in_seeing ["play", "cells", "state", "hand"]) (d_step_in_names : DefOk P w K mg base CX0 "step_in_names" 2 4 f_step_in_names) (d_step_in_near : DefOk P w K mg base CX0 "step_in_near" 1 4 f_step_in_near) (d_step_in_chain : DefOk P w K mg base CX0 "step_in_chain" 1 4 f_step_in_chain) : DefOk P w K mg base CX0 "step_in_seeing" 3 4 f_step_in_seeing :=
  A.ok sc_step_in_seeing rfl (by decide) fun f cdv A outer s H E ah hr => by
    exact (pfss_cons (pfs_if (pft_cmp (op_eqD (hu64 hr)) os_eq (pf_fld (fun C h => ⟨(T.play C h).cl, T.play_kind C h⟩) (pf_v 0)) pf_str (nomark _)) (pfss_one (pfs_ret (pf_call d_step_in_names (hr.mono (by decide)) (pfa_cons (pf_v 0) (pfa_cons (pf_v 1) (pfa_cons (pf_v 2) (pfa_cons (pf_v 3) pfa_nil))))))) pfss_nil) (pfss_cons (pfs_if (pft_cmp (op_eqD (hu64 hr)) os_eq (pf_fld (fun C h => ⟨(T.play C h).cl, T.play_kind C h⟩) (pf_v 0)) pf_str (nomark _)) (pfss_one (pfs_ret (pf_call d_step_in_near (hr.mono (by decide)) (pfa_cons (pf_v 0) (pfa_cons (pf_v 1) (pfa_cons (pf_v 2) (pfa_cons (pf_v 3) pfa_nil))))))) pfss_nil) (pfss_one (pfs_ret (pf_call d_step_in_chain (hr.mono (by decide)) (pfa_cons (pf_v 0) (pfa_cons (pf_v 1) (pfa_cons (pf_v 2) (pfa_cons (pf_v 3) pfa_nil)))))))))
abbrev s_step_of_hand : Stmt := top 68
theorem sc_step_of_hand : FnScope ["play", "cells", "state", "hand"] ["play", "cells", "state", "hand"] (defScope s_step_of_hand) := ⟨rfl, rfl, rfl, by decide +kernel, rfl, by decide +kernel, by decide +kernel⟩
noncomputable def b_step_of_hand : FS := (sSeq (sIf (cT (cOp inD (c1 (fldD "kind") (cV 0)) (cD k_MANNERS))) (sRet (cFn 4 f_step_in_manner (cC (cV 0) (cC (cV 1) (cC (cV 2) (cC (cV 3) cN)))))) sNx) (sSeq (sIf (cT (cOp eqD (c1 (fldD "kind") (cV 0)) (cD (.str "levels")))) (sRet (cFn 4 f_step_in_levels (cC (cV 0) (cC (cV 1) (cC (cV 2) (cC (cV 3) cN)))))) sNx) (sRet (cFn 4 f_step_in_seeing (cC (cV 0) (cC (cV 1) (cC (cV 2) (cC (cV 3) cN))))))))
noncomputable def f_step_of_hand : List D → Gh → M D := fun ds g => noX (fnOf 4 b_step_of_hand ds g)
theorem d_step_of_hand {P : Program} {w : World} {K : PySem.W.Frag} {mg : Str → Option Value} {base : Heap} (T : Txt P w K mg base) (A : DefAt K mg "step_of_hand" s_step_of_hand ["play", "cells", "state", "hand"]) (d_step_in_manner : DefOk P w K mg base CX0 "step_in_manner" 4 4 f_step_in_manner) (d_step_in_levels : DefOk P w K mg base CX0 "step_in_levels" 2 4 f_step_in_levels) (d_step_in_seeing : DefOk P w K mg base CX0 "step_in_seeing" 3 4 f_step_in_seeing) : DefOk P w K mg base CX0 "step_of_hand" 5 4 f_step_of_hand :=
  A.ok sc_step_of_hand rfl (by decide) fun f cdv A outer s H E ah hr => by
    exact (pfss_cons (pfs_if (pft_cmp op_in_seq os_in (pf_fld (fun C h => ⟨(T.play C h).cl, T.play_kind C h⟩) (pf_v 0)) (pf_const T.c_MANNERS) rfl) (pfss_one (pfs_ret (pf_call d_step_in_manner (hr.mono (by decide)) (pfa_cons (pf_v 0) (pfa_cons (pf_v 1) (pfa_cons (pf_v 2) (pfa_cons (pf_v 3) pfa_nil))))))) pfss_nil) (pfss_cons (pfs_if (pft_cmp (op_eqD (hu64 hr)) os_eq (pf_fld (fun C h => ⟨(T.play C h).cl, T.play_kind C h⟩) (pf_v 0)) pf_str (nomark _)) (pfss_one (pfs_ret (pf_call d_step_in_levels (hr.mono (by decide)) (pfa_cons (pf_v 0) (pfa_cons (pf_v 1) (pfa_cons (pf_v 2) (pfa_cons (pf_v 3) pfa_nil))))))) pfss_nil) (pfss_one (pfs_ret (pf_call d_step_in_seeing (hr.mono (by decide)) (pfa_cons (pf_v 0) (pfa_cons (pf_v 1) (pfa_cons (pf_v 2) (pfa_cons (pf_v 3) pfa_nil)))))))))
abbrev s_put_at : Stmt := top 69
theorem sc_put_at : FnScope ["row", "hand", "item"] ["row", "hand", "item"] (defScope s_put_at) := ⟨rfl, rfl, rfl, by decide +kernel, rfl, by decide +kernel, by decide +kernel⟩
noncomputable def b_put_at : FS := (sRet (cOp addD (cOp addD (cSl (cV 0) oN (oS (cV 1))) (cTup (cC (cV 2) cN))) (cSl (cV 0) (oS (cOp addD (cV 1) (cD (.int 1)))) oN)))
noncomputable def f_put_at : List D → Gh → M D := fun ds g => noX (fnOf 3 b_put_at ds g)
theorem d_put_at {P : Program} {w : World} {K : PySem.W.Frag} {mg : Str → Option Value} {base : Heap} (T : Txt P w K mg base) (A : DefAt K mg "put_at" s_put_at ["row", "hand", "item"])  : DefOk P w K mg base CX0 "put_at" 1 3 f_put_at :=
  A.ok sc_put_at rfl (by decide) fun f cdv A outer s H E ah hr => by
    exact (pfss_one (pfs_ret (pf_bin op_addD os_add (pf_bin op_addD os_add (pf_sl (pf_v 0) pfo_none (pfo_some (pf_v 1))) (pf_tup (pfa_cons (pf_v 2) pfa_nil))) (pf_sl (pf_v 0) (pfo_some (pf_bin op_addD os_add (pf_v 1) pf_int)) pfo_none))))
abbrev s_standing_behind : Stmt := top 67
theorem sc_standing_behind : FnScope ["play", "standing", "hand", "cells", "states", "told", "cell", "state", "news"] ["play", "standing", "hand"] (defScope s_standing_behind) := ⟨rfl, rfl, rfl, by decide +kernel, rfl, by decide +kernel, by decide +kernel⟩
noncomputable def b_standing_behind : FS := (sSeq (sAsg (cV 1) (gT 3 (gsC (gN 3) (gsC (gN 4) (gsC (gN 5) gsN))))) (sSeq (sAsg (cFn 4 f_step_of_hand (cC (cV 0) (cC (cV 3) (cC (cOp ixD (cV 4) (cV 2)) (cC (cV 2) cN))))) (gT 3 (gsC (gN 6) (gsC (gN 7) (gsC (gN 8) gsN))))) (sRet (cTup (cC (cFn 3 f_put_at (cC (cV 3) (cC (cV 2) (cC (cV 6) cN)))) (cC (cFn 3 f_put_at (cC (cV 4) (cC (cV 2) (cC (cV 7) cN)))) (cC (cFn 3 f_put_at (cC (cV 5) (cC (cV 2) (cC (cOp addD (cOp ixD (cV 5) (cV 2)) (cV 8)) cN)))) cN)))))))
noncomputable def f_standing_behind : List D → Gh → M D := fun ds g => noX (fnOf 9 b_standing_behind ds g)
theorem d_standing_behind {P : Program} {w : World} {K : PySem.W.Frag} {mg : Str → Option Value} {base : Heap} (T : Txt P w K mg base) (A : DefAt K mg "standing_behind" s_standing_behind ["play", "standing", "hand"]) (d_step_of_hand : DefOk P w K mg base CX0 "step_of_hand" 5 4 f_step_of_hand) (d_put_at : DefOk P w K mg base CX0 "put_at" 1 3 f_put_at) : DefOk P w K mg base CX0 "standing_behind" 6 3 f_standing_behind :=
  A.ok sc_standing_behind rfl (by decide) fun f cdv A outer s H E ah hr => by
    exact (pfss_cons (pfs_asg (pf_v 1) (pfg_tup rfl (pfgs_cons (pfg_n 3 sc_standing_behind.nd) (pfgs_cons (pfg_n 4 sc_standing_behind.nd) (pfgs_cons (pfg_n 5 sc_standing_behind.nd) pfgs_nil))))) (pfss_cons (pfs_asg (pf_call d_step_of_hand (hr.mono (by decide)) (pfa_cons (pf_v 0) (pfa_cons (pf_v 3) (pfa_cons (pf_ix ix_D os_ix (pf_v 4) (pf_v 2) (fun _ _ => rfl)) (pfa_cons (pf_v 2) pfa_nil))))) (pfg_tup rfl (pfgs_cons (pfg_n 6 sc_standing_behind.nd) (pfgs_cons (pfg_n 7 sc_standing_behind.nd) (pfgs_cons (pfg_n 8 sc_standing_behind.nd) pfgs_nil))))) (pfss_one (pfs_ret (pf_tup (pfa_cons (pf_call d_put_at (hr.mono (by decide)) (pfa_cons (pf_v 3) (pfa_cons (pf_v 2) (pfa_cons (pf_v 6) pfa_nil)))) (pfa_cons (pf_call d_put_at (hr.mono (by decide)) (pfa_cons (pf_v 4) (pfa_cons (pf_v 2) (pfa_cons (pf_v 7) pfa_nil)))) (pfa_cons (pf_call d_put_at (hr.mono (by decide)) (pfa_cons (pf_v 5) (pfa_cons (pf_v 2) (pfa_cons (pf_bin op_addD os_add (pf_ix ix_D os_ix (pf_v 5) (pf_v 2) (fun _ _ => rfl)) (pf_v 8)) pfa_nil)))) pfa_nil))))))))
abbrev s_standings_along : Stmt := top 62
theorem sc_standings_along : FnScope ["play", "weaving", "standing", "standings", "index", "hand"] ["play", "weaving"] (defScope s_standings_along) := ⟨rfl, rfl, rfl, by decide +kernel, rfl, by decide +kernel, by decide +kernel⟩
noncomputable def b_standings_along : FS := (sSeq (sIf (cNot (cT (c1 (isTTD "list" "tuple") (cV 1)))) (sRaise "NoWeaving" "index" (c1 negD (cD (.int 1)))) sNx) (sSeq (sAsg (cFn 1 f_first_standing (cC (cV 0) cN)) (gN 2)) (sSeq (sOwnL 3 (cC (cV 2) cN)) (sSeq (sFor (iEn (cC (cV 1) cN)) (gT 2 (gsC (gN 4) (gsC (gN 5) gsN))) (sSeq (sIf (cOr (cNot (cT (cFn 2 f_is_hand (cC (cV 0) (cC (cV 5) cN))))) (cT (cOp isND (cOp ixD (cOp ixD (cV 2) (cD (.int 1))) (cV 5)) (cD .non)))) (sRaise "NoWeaving" "index" (cV 4)) sNx) (sSeq (sAsg (cFn 3 f_standing_behind (cC (cV 0) (cC (cV 2) (cC (cV 5) cN)))) (gN 2)) (sApp 3 (cV 2))))) (sFrz 3 (sRet (cV 3)))))))
noncomputable def f_standings_along : List D → Gh → M D := fun ds g => fnOf 6 b_standings_along ds g
theorem d_standings_along {P : Program} {w : World} {K : PySem.W.Frag} {mg : Str → Option Value} {base : Heap} (T : Txt P w K mg base) (A : DefAt K mg "standings_along" s_standings_along ["play", "weaving"]) (d_first_standing : DefOk P w K mg base CX0 "first_standing" 4 1 f_first_standing) (d_is_hand : DefOk P w K mg base CX0 "is_hand" 4 2 f_is_hand) (d_standing_behind : DefOk P w K mg base CX0 "standing_behind" 6 3 f_standing_behind) : DefOk P w K mg base (L2.CX P w) "standings_along" 7 2 f_standings_along :=
  A.okX sc_standings_along rfl (by decide) fun f cdv A outer s H E ah hr => by
    exact (pfss_cons (pfs_if (pft_not (pft_val (pf_isT (t := "list") (u := "tuple") (by simp) (by simp) T.play T.b_isinstance T.b_list T.b_tuple (by decide +kernel) (by decide +kernel) (pf_v 1)))) (pfss_one (pfs_raise rfl (takes_of rfl rfl rfl rfl) T.x_NoWeaving (hr.mono (by decide)) (pf_neg pf_int))) pfss_nil) (pfss_cons (pfs_set 2 sc_standings_along.nd (pf_call d_first_standing (hr.mono (by decide)) (pfa_cons (pf_v 0) pfa_nil))) (pfss_cons (pfs_ownL 3 sc_standings_along.nd (pfa_cons (pf_v 2) pfa_nil)) (pfss_cons (pfs_for (passes_of rfl) rfl (pfi_enum T.b_enumerate (pfa_cons (pf_v 1) pfa_nil)) (pfg_tup rfl (pfgs_cons (pfg_n 4 sc_standings_along.nd) (pfgs_cons (pfg_n 5 sc_standings_along.nd) pfgs_nil))) (pfss_cons (pfs_if (pft_w (pfw_or (pft_not (pft_val (pf_call d_is_hand (hr.mono (by decide)) (pfa_cons (pf_v 0) (pfa_cons (pf_v 5) pfa_nil))))) (pfw_or1 (pft_cmp op_isN os_isN (pf_ix ix_D os_ix (pf_ix ix_D os_ix (pf_v 2) pf_int (fun _ _ => rfl)) (pf_v 5) (fun _ _ => rfl)) pf_non (nomark _))))) (pfss_one (pfs_raise rfl (takes_of rfl rfl rfl rfl) T.x_NoWeaving (hr.mono (by decide)) (pf_v 4))) pfss_nil) (pfss_cons (pfs_set 2 sc_standings_along.nd (pf_call d_standing_behind (hr.mono (by decide)) (pfa_cons (pf_v 0) (pfa_cons (pf_v 2) (pfa_cons (pf_v 5) pfa_nil))))) (pfss_one (pfs_app 3 (pf_v 2)))))) (pfss_frz 3 (pfss_one (pfs_ret (pf_v 3))))))))
abbrev s_run : Stmt := top 59
theorem sc_run : FnScope ["play", "weaving"] ["play", "weaving"] (defScope s_run) := ⟨rfl, rfl, rfl, by decide +kernel, rfl, by decide +kernel, by decide +kernel⟩
noncomputable def b_run : FS := (sRet (cOp ixD (cFnX 2 f_standings_along (cC (cV 0) (cC (cV 1) cN))) (c1 negD (cD (.int 1)))))
noncomputable def f_run : List D → Gh → M D := fun ds g => fnOf 2 b_run ds g
theorem d_run {P : Program} {w : World} {K : PySem.W.Frag} {mg : Str → Option Value} {base : Heap} (T : Txt P w K mg base) (A : DefAt K mg "run" s_run ["play", "weaving"]) (d_standings_along : DefOk P w K mg base (L2.CX P w) "standings_along" 7 2 f_standings_along) : DefOk P w K mg base (L2.CX P w) "run" 8 2 f_run :=
  A.okX sc_run rfl (by decide) fun f cdv A outer s H E ah hr => by
    exact (pfss_one (pfs_ret (pf_ix ix_D os_ix (pf_callX (takes_of rfl rfl rfl rfl) d_standings_along (hr.mono (by decide)) (pfa_cons (pf_v 0) (pfa_cons (pf_v 1) pfa_nil))) (pf_neg pf_int) (fun _ _ => rfl))))
abbrev s_word_in_levels : Stmt := top 8
theorem sc_word_in_levels : FnScope ["state", "now"] ["state"] (defScope s_word_in_levels) := ⟨rfl, rfl, rfl, by decide +kernel, rfl, by decide +kernel, by decide +kernel⟩
noncomputable def b_word_in_levels : FS := (sSeq (sAsg (cOp ixD (cV 0) (cD (.int 1))) (gN 1)) (sSeq (sIf (cT (cOp isND (cV 1) (cD .non))) (sRet (cTup (cC (cD (.str "put")) cN))) sNx) (sRet (cTup (cC (cD (.str "look")) (cC (cCall lenD (cC (cV 1) cN)) cN))))))
noncomputable def f_word_in_levels : List D → Gh → M D := fun ds g => noX (fnOf 2 b_word_in_levels ds g)
theorem d_word_in_levels {P : Program} {w : World} {K : PySem.W.Frag} {mg : Str → Option Value} {base : Heap} (T : Txt P w K mg base) (A : DefAt K mg "word_in_levels" s_word_in_levels ["state"])  : DefOk P w K mg base CX0 "word_in_levels" 1 1 f_word_in_levels :=
  A.ok sc_word_in_levels rfl (by decide) fun f cdv A outer s H E ah hr => by
    exact (pfss_cons (pfs_set 1 sc_word_in_levels.nd (pf_ix ix_D os_ix (pf_v 0) pf_int (fun _ _ => rfl))) (pfss_cons (pfs_if (pft_cmp op_isN os_isN (pf_v 1) pf_non (nomark _)) (pfss_one (pfs_ret (pf_tup (pfa_cons pf_str pfa_nil)))) pfss_nil) (pfss_one (pfs_ret (pf_tup (pfa_cons pf_str (pfa_cons (pf_len T.b_len (pfa_cons (pf_v 1) pfa_nil)) pfa_nil)))))))
abbrev s_word_in_manner : Stmt := top 15
theorem sc_word_in_manner : FnScope ["play", "state", "hand"] ["play", "state", "hand"] (defScope s_word_in_manner) := ⟨rfl, rfl, rfl, by decide +kernel, rfl, by decide +kernel, by decide +kernel⟩
noncomputable def b_word_in_manner : FS := (sSeq (sIf (cT (cFn 3 f_puts_next (cC (cV 0) (cC (cV 2) (cC (cV 1) cN))))) (sRet (cTup (cC (cD (.str "put")) cN))) sNx) (sRet (cTup (cC (cD (.str "look")) (cC (cCall lenD (cC (cOp ixD (cV 1) (cD (.int 3))) cN)) cN)))))
noncomputable def f_word_in_manner : List D → Gh → M D := fun ds g => noX (fnOf 3 b_word_in_manner ds g)
theorem d_word_in_manner {P : Program} {w : World} {K : PySem.W.Frag} {mg : Str → Option Value} {base : Heap} (T : Txt P w K mg base) (A : DefAt K mg "word_in_manner" s_word_in_manner ["play", "state", "hand"]) (d_puts_next : DefOk P w K mg base CX0 "puts_next" 1 3 f_puts_next) : DefOk P w K mg base CX0 "word_in_manner" 2 3 f_word_in_manner :=
  A.ok sc_word_in_manner rfl (by decide) fun f cdv A outer s H E ah hr => by
    exact (pfss_cons (pfs_if (pft_val (pf_call d_puts_next (hr.mono (by decide)) (pfa_cons (pf_v 0) (pfa_cons (pf_v 2) (pfa_cons (pf_v 1) pfa_nil))))) (pfss_one (pfs_ret (pf_tup (pfa_cons pf_str pfa_nil)))) pfss_nil) (pfss_one (pfs_ret (pf_tup (pfa_cons pf_str (pfa_cons (pf_len T.b_len (pfa_cons (pf_ix ix_D os_ix (pf_v 1) pf_int (fun _ _ => rfl)) pfa_nil)) pfa_nil))))))
abbrev s_word_in_seeing : Stmt := top 48
theorem sc_word_in_seeing : FnScope ["state"] ["state"] (defScope s_word_in_seeing) := ⟨rfl, rfl, rfl, by decide +kernel, rfl, by decide +kernel, by decide +kernel⟩
noncomputable def b_word_in_seeing : FS := (sSeq (sIf (cT (cOp ixD (cV 0) (c1 negD (cD (.int 1))))) (sRet (cTup (cC (cD (.str "see")) cN))) sNx) (sRet (cTup (cC (cD (.str "put")) cN))))
noncomputable def f_word_in_seeing : List D → Gh → M D := fun ds g => noX (fnOf 1 b_word_in_seeing ds g)
theorem d_word_in_seeing {P : Program} {w : World} {K : PySem.W.Frag} {mg : Str → Option Value} {base : Heap} (T : Txt P w K mg base) (A : DefAt K mg "word_in_seeing" s_word_in_seeing ["state"])  : DefOk P w K mg base CX0 "word_in_seeing" 1 1 f_word_in_seeing :=
  A.ok sc_word_in_seeing rfl (by decide) fun f cdv A outer s H E ah hr => by
    exact (pfss_cons (pfs_if (pft_val (pf_ix ix_D os_ix (pf_v 0) (pf_neg pf_int) (fun _ _ => rfl))) (pfss_one (pfs_ret (pf_tup (pfa_cons pf_str pfa_nil)))) pfss_nil) (pfss_one (pfs_ret (pf_tup (pfa_cons pf_str pfa_nil)))))
abbrev s_word_of_step : Stmt := top 66
theorem sc_word_of_step : FnScope ["play", "state", "hand"] ["play", "state", "hand"] (defScope s_word_of_step) := ⟨rfl, rfl, rfl, by decide +kernel, rfl, by decide +kernel, by decide +kernel⟩
noncomputable def b_word_of_step : FS := (sSeq (sIf (cT (cOp inD (c1 (fldD "kind") (cV 0)) (cD k_MANNERS))) (sRet (cFn 3 f_word_in_manner (cC (cV 0) (cC (cV 1) (cC (cV 2) cN))))) sNx) (sSeq (sIf (cT (cOp eqD (c1 (fldD "kind") (cV 0)) (cD (.str "levels")))) (sRet (cFn 1 f_word_in_levels (cC (cV 1) cN))) sNx) (sRet (cFn 1 f_word_in_seeing (cC (cV 1) cN)))))
noncomputable def f_word_of_step : List D → Gh → M D := fun ds g => noX (fnOf 3 b_word_of_step ds g)
theorem d_word_of_step {P : Program} {w : World} {K : PySem.W.Frag} {mg : Str → Option Value} {base : Heap} (T : Txt P w K mg base) (A : DefAt K mg "word_of_step" s_word_of_step ["play", "state", "hand"]) (d_word_in_manner : DefOk P w K mg base CX0 "word_in_manner" 2 3 f_word_in_manner) (d_word_in_levels : DefOk P w K mg base CX0 "word_in_levels" 1 1 f_word_in_levels) (d_word_in_seeing : DefOk P w K mg base CX0 "word_in_seeing" 1 1 f_word_in_seeing) : DefOk P w K mg base CX0 "word_of_step" 3 3 f_word_of_step :=
  A.ok sc_word_of_step rfl (by decide) fun f cdv A outer s H E ah hr => by
    exact (pfss_cons (pfs_if (pft_cmp op_in_seq os_in (pf_fld (fun C h => ⟨(T.play C h).cl, T.play_kind C h⟩) (pf_v 0)) (pf_const T.c_MANNERS) rfl) (pfss_one (pfs_ret (pf_call d_word_in_manner (hr.mono (by decide)) (pfa_cons (pf_v 0) (pfa_cons (pf_v 1) (pfa_cons (pf_v 2) pfa_nil)))))) pfss_nil) (pfss_cons (pfs_if (pft_cmp (op_eqD (hu64 hr)) os_eq (pf_fld (fun C h => ⟨(T.play C h).cl, T.play_kind C h⟩) (pf_v 0)) pf_str (nomark _)) (pfss_one (pfs_ret (pf_call d_word_in_levels (hr.mono (by decide)) (pfa_cons (pf_v 1) pfa_nil)))) pfss_nil) (pfss_one (pfs_ret (pf_call d_word_in_seeing (hr.mono (by decide)) (pfa_cons (pf_v 1) pfa_nil))))))
abbrev s_event : Stmt := top 70
theorem sc_event : FnScope ["play", "standing", "hand", "word"] ["play", "standing", "hand"] (defScope s_event) := ⟨rfl, rfl, rfl, by decide +kernel, rfl, by decide +kernel, by decide +kernel⟩
noncomputable def b_event : FS := (sSeq (sAsg (cFn 3 f_word_of_step (cC (cV 0) (cC (cOp ixD (cOp ixD (cV 1) (cD (.int 1))) (cV 2)) (cC (cV 2) cN)))) (gN 3)) (sSeq (sIf (cT (cOp eqD (cOp ixD (cV 3) (cD (.int 0))) (cD (.str "put")))) (sRet (cTup (cC (cV 2) (cC (cD (.str "put")) (cC (cV 2) cN))))) sNx) (sSeq (sIf (cT (cOp eqD (cOp ixD (cV 3) (cD (.int 0))) (cD (.str "see")))) (sRet (cTup (cC (cV 2) (cC (cD (.str "see")) (cC (cD .non) cN))))) sNx) (sRet (cTup (cC (cV 2) (cC (cD (.str "look")) (cC (cOp ixD (cV 3) (cD (.int 1))) cN))))))))
noncomputable def f_event : List D → Gh → M D := fun ds g => noX (fnOf 4 b_event ds g)
theorem d_event {P : Program} {w : World} {K : PySem.W.Frag} {mg : Str → Option Value} {base : Heap} (T : Txt P w K mg base) (A : DefAt K mg "event" s_event ["play", "standing", "hand"]) (d_word_of_step : DefOk P w K mg base CX0 "word_of_step" 3 3 f_word_of_step) : DefOk P w K mg base CX0 "event" 4 3 f_event :=
  A.ok sc_event rfl (by decide) fun f cdv A outer s H E ah hr => by
    exact (pfss_cons (pfs_set 3 sc_event.nd (pf_call d_word_of_step (hr.mono (by decide)) (pfa_cons (pf_v 0) (pfa_cons (pf_ix ix_D os_ix (pf_ix ix_D os_ix (pf_v 1) pf_int (fun _ _ => rfl)) (pf_v 2) (fun _ _ => rfl)) (pfa_cons (pf_v 2) pfa_nil))))) (pfss_cons (pfs_if (pft_cmp (op_eqD (hu64 hr)) os_eq (pf_ix ix_D os_ix (pf_v 3) pf_int (fun _ _ => rfl)) pf_str (nomark _)) (pfss_one (pfs_ret (pf_tup (pfa_cons (pf_v 2) (pfa_cons pf_str (pfa_cons (pf_v 2) pfa_nil)))))) pfss_nil) (pfss_cons (pfs_if (pft_cmp (op_eqD (hu64 hr)) os_eq (pf_ix ix_D os_ix (pf_v 3) pf_int (fun _ _ => rfl)) pf_str (nomark _)) (pfss_one (pfs_ret (pf_tup (pfa_cons (pf_v 2) (pfa_cons pf_str (pfa_cons pf_non pfa_nil)))))) pfss_nil) (pfss_one (pfs_ret (pf_tup (pfa_cons (pf_v 2) (pfa_cons pf_str (pfa_cons (pf_ix ix_D os_ix (pf_v 3) pf_int (fun _ _ => rfl)) pfa_nil)))))))))
abbrev s_events : Stmt := top 60
theorem sc_events : FnScope ["play", "weaving", "standings", "standing", "hand"] ["play", "weaving"] (defScope s_events) := ⟨rfl, rfl, rfl, by decide +kernel, rfl, by decide +kernel, by decide +kernel⟩
noncomputable def b_events : FS := (sSeq (sAsg (cFnX 2 f_standings_along (cC (cV 0) (cC (cV 1) cN))) (gN 2)) (sRet (cCall tupleD (cC (cLc (iZ (cC (cV 2) (cC (cV 1) cN))) [3, 4] (gT 2 (gsC (gN 3) (gsC (gN 4) gsN))) tY (cFn 3 f_event (cC (cV 0) (cC (cV 3) (cC (cV 4) cN))))) cN))))
noncomputable def f_events : List D → Gh → M D := fun ds g => fnOf 5 b_events ds g
theorem d_events {P : Program} {w : World} {K : PySem.W.Frag} {mg : Str → Option Value} {base : Heap} (T : Txt P w K mg base) (A : DefAt K mg "events" s_events ["play", "weaving"]) (d_standings_along : DefOk P w K mg base (L2.CX P w) "standings_along" 7 2 f_standings_along) (d_event : DefOk P w K mg base CX0 "event" 4 3 f_event) : DefOk P w K mg base (L2.CX P w) "events" 8 2 f_events :=
  A.okX sc_events rfl (by decide) fun f cdv A outer s H E ah hr => by
    exact (pfss_cons (pfs_set 2 sc_events.nd (pf_callX (takes_of rfl rfl rfl rfl) d_standings_along (hr.mono (by decide)) (pfa_cons (pf_v 0) (pfa_cons (pf_v 1) pfa_nil)))) (pfss_one (pfs_ret (pf_callTy call_tuple_of cs_tuple T.b_tuple (by decide +kernel) (pfa_cons (pf_lc [("standing", 3), ("hand", 4)] sc_events.nd (pfi_zip T.b_zip (pfa_cons (pf_v 2) (pfa_cons (pf_v 1) pfa_nil))) (fun _ => (pfg_tup rfl (pfgs_cons (pfg_n 3 sc_events.nd) (pfgs_cons (pfg_n 4 sc_events.nd) pfgs_nil)))) (fun _ => pfts_nil) (fun _ => (pf_call d_event (hr.mono (by decide)) (pfa_cons (pf_v 0) (pfa_cons (pf_v 3) (pfa_cons (pf_v 4) pfa_nil))))) (blkOk_by (N := ["play", "weaving", "standings", "standing", "hand"]) (sc := defScope s_events) (by decide +kernel))) pfa_nil)))))
abbrev s_run_out : Stmt := top 61
theorem sc_run_out : FnScope ["play", "weaving", "standing", "hands", "going"] ["play", "weaving"] (defScope s_run_out) := ⟨rfl, rfl, rfl, by decide +kernel, rfl, by decide +kernel, by decide +kernel⟩
noncomputable def b_run_out : FS := (sSeq (sAsg (cFnX 2 f_run (cC (cV 0) (cC (cV 1) cN))) (gN 2)) (sSeq (sOwnC 3 (cC (cV 1) cN)) (sSeq (sAsg (cFn 2 f_can_step (cC (cV 0) (cC (cV 2) cN))) (gN 4)) (sSeq (whileN (cTU (cV 4)) (sSeq (sApp 3 (cOp ixD (cV 4) (cD (.int 0)))) (sSeq (sAsg (cFn 3 f_standing_behind (cC (cV 0) (cC (cV 2) (cC (cOp ixD (cV 4) (cD (.int 0))) cN)))) (gN 2)) (sAsg (cFn 2 f_can_step (cC (cV 0) (cC (cV 2) cN))) (gN 4)))) 1000) (sFrz 3 (sRet (cCall tupleD (cC (cV 3) cN))))))))
noncomputable def f_run_out : List D → Gh → M D := fun ds g => fnOf 5 b_run_out ds g
theorem d_run_out {P : Program} {w : World} {K : PySem.W.Frag} {mg : Str → Option Value} {base : Heap} (T : Txt P w K mg base) (A : DefAt K mg "run_out" s_run_out ["play", "weaving"]) (d_run : DefOk P w K mg base (L2.CX P w) "run" 8 2 f_run) (d_can_step : DefOk P w K mg base CX0 "can_step" 1 2 f_can_step) (d_standing_behind : DefOk P w K mg base CX0 "standing_behind" 6 3 f_standing_behind) : DefOk P w K mg base (L2.CX P w) "run_out" 9 2 f_run_out :=
  A.okX sc_run_out rfl (by decide) fun f cdv A outer s H E ah hr => by
    exact (pfss_cons (pfs_set 2 sc_run_out.nd (pf_callX (takes_of rfl rfl rfl rfl) d_run (hr.mono (by decide)) (pfa_cons (pf_v 0) (pfa_cons (pf_v 1) pfa_nil)))) (pfss_cons (pfs_ownC 3 sc_run_out.nd T.b_list (pfa_cons (pf_v 1) pfa_nil)) (pfss_cons (pfs_set 4 sc_run_out.nd (pf_call d_can_step (hr.mono (by decide)) (pfa_cons (pf_v 0) (pfa_cons (pf_v 2) pfa_nil)))) (pfss_cons (pfs_while 1000 (passes_of rfl) (pft_tupT (pf_v 4)) (pfss_cons (pfs_app 3 (pf_ix ix_D os_ix (pf_v 4) pf_int (fun _ _ => rfl))) (pfss_cons (pfs_set 2 sc_run_out.nd (pf_call d_standing_behind (hr.mono (by decide)) (pfa_cons (pf_v 0) (pfa_cons (pf_v 2) (pfa_cons (pf_ix ix_D os_ix (pf_v 4) pf_int (fun _ _ => rfl)) pfa_nil))))) (pfss_one (pfs_set 4 sc_run_out.nd (pf_call d_can_step (hr.mono (by decide)) (pfa_cons (pf_v 0) (pfa_cons (pf_v 2) pfa_nil)))))))) (pfss_frz 3 (pfss_one (pfs_ret (pf_callTy call_tuple_of cs_tuple T.b_tuple (by decide +kernel) (pfa_cons (pf_v 3) pfa_nil)))))))))
abbrev s_law_take : Stmt := top 73
theorem sc_law_take : FnScope ["hand", "many", "number", "cell", "found"] ["hand", "many"] (defScope s_law_take) := ⟨rfl, rfl, rfl, by decide +kernel, rfl, by decide +kernel, by decide +kernel⟩
noncomputable def b_law_take : FS := (sSeq (sH 0 4 (cOp addD (cH 0 4) (cD (.int 1)))) (sSeq (sIf (cAnd (cT (cOp eqD (cH 0 2) (cD (.int 0)))) (cT (cOp ltD (cH 0 1) (cCall lenD (cC (cH 0 0) cN))))) (sSeq (sAsg (cCall intOf (cC (cOp ixD (cH 0 0) (cH 0 1)) cN)) (gN 3)) (sSeq (sH 0 1 (cOp addD (cH 0 1) (cD (.int 1)))) (sIf (cT (cOp geD (cV 3) (cOp powD (cD (.int 10)) (cD (.int 18))))) (sH 0 2 (cV 3)) (sH 0 3 (cOp modD (cCall intOf (cC (cOp addD (cOp addD (cOp mulD (cH 0 3) (cD (.int 48271))) (cOp modD (cCall intOf (cC (cV 3) cN)) (cD (.int 2147483647)))) (cD (.int 1))) cN)) (cD (.int 2147483647))))))) sNx) (sSeq (sIf (cT (cOp gtD (cH 0 2) (cD (.int 0)))) (sSeq (sAsg (cOp modD (cCall intOf (cC (cH 0 2) cN)) (cV 1)) (gN 4)) (sSeq (sH 0 2 (cOp divD (cCall intOf (cC (cH 0 2) cN)) (cV 1))) (sRet (cV 4)))) sNx) (sSeq (sH 0 3 (cOp modD (cCall intOf (cC (cOp addD (cOp mulD (cH 0 3) (cD (.int 69621))) (cOp mulD (cD (.int 7919)) (cH 0 4))) cN)) (cD (.int 2147483647)))) (sSeq (sAsg (cOp modD (cCall intOf (cC (cOp mulD (cH 0 3) (cOp addD (cOp divD (cH 0 3) (cD (.int 1009))) (cD (.int 69621)))) cN)) (cD (.int 2147483647))) (gN 2)) (sSeq (sAsg (cOp modD (cCall intOf (cC (cOp mulD (cV 2) (cOp addD (cOp divD (cV 2) (cD (.int 2003))) (cD (.int 40692)))) cN)) (cD (.int 2147483399))) (gN 2)) (sRet (cOp modD (cCall intOf (cC (cOp divD (cV 2) (cD (.int 16))) cN)) (cV 1)))))))))
noncomputable def f_law_take : List D → Gh → M D := fun ds g => noX (fnOf 5 b_law_take ds g)
theorem d_law_take {P : Program} {w : World} {K : PySem.W.Frag} {mg : Str → Option Value} {base : Heap} (T : Txt P w K mg base) (A : DefAt K mg "_law_take" s_law_take ["hand", "many"])  : DefOk P w K mg base CX0 "_law_take" 1 2 f_law_take :=
  A.ok sc_law_take rfl (by decide) fun f cdv A outer s H E ah hr => by
    exact (pfss_cons (pfs_h 0 (pf_bin op_addD os_add (pf_h 0) pf_int)) (pfss_cons (pfs_if (pft_w (pfw_and (pft_cmp (op_eqD (hu64 hr)) os_eq (pf_h 0) pf_int (nomark _)) (pfw_and1 (pft_cmp op_lt os_lt (pf_h 0) (pf_len T.b_len (pfa_cons (pf_h 0) pfa_nil)) (nomark _))))) (pfss_cons (pfs_set 3 sc_law_take.nd (pf_callTy call_int1 cs_int T.b_int (by decide +kernel) (pfa_cons (pf_ix ix_D os_ix (pf_h 0) (pf_h 0) (fun _ _ => rfl)) pfa_nil))) (pfss_cons (pfs_h 0 (pf_bin op_addD os_add (pf_h 0) pf_int)) (pfss_one (pfs_if (pft_cmp op_ge os_ge (pf_v 3) (pf_bin op_pow os_pow pf_int pf_int) (nomark _)) (pfss_one (pfs_h 0 (pf_v 3))) (pfss_one (pfs_h 0 (pf_bin op_modN os_mod (pf_callTy call_int1 cs_int T.b_int (by decide +kernel) (pfa_cons (pf_bin op_addD os_add (pf_bin op_addD os_add (pf_bin op_mulD os_mul (pf_h 0) pf_int) (pf_bin op_modN os_mod (pf_callTy call_int1 cs_int T.b_int (by decide +kernel) (pfa_cons (pf_v 3) pfa_nil)) pf_int)) pf_int) pfa_nil)) pf_int))))))) pfss_nil) (pfss_cons (pfs_if (pft_cmp op_gt os_gt (pf_h 0) pf_int (nomark _)) (pfss_cons (pfs_set 4 sc_law_take.nd (pf_bin op_modN os_mod (pf_callTy call_int1 cs_int T.b_int (by decide +kernel) (pfa_cons (pf_h 0) pfa_nil)) (pf_v 1))) (pfss_cons (pfs_h 0 (pf_bin op_fdivN os_div (pf_callTy call_int1 cs_int T.b_int (by decide +kernel) (pfa_cons (pf_h 0) pfa_nil)) (pf_v 1))) (pfss_one (pfs_ret (pf_v 4))))) pfss_nil) (pfss_cons (pfs_h 0 (pf_bin op_modN os_mod (pf_callTy call_int1 cs_int T.b_int (by decide +kernel) (pfa_cons (pf_bin op_addD os_add (pf_bin op_mulD os_mul (pf_h 0) pf_int) (pf_bin op_mulD os_mul pf_int (pf_h 0))) pfa_nil)) pf_int)) (pfss_cons (pfs_set 2 sc_law_take.nd (pf_bin op_modN os_mod (pf_callTy call_int1 cs_int T.b_int (by decide +kernel) (pfa_cons (pf_bin op_mulD os_mul (pf_h 0) (pf_bin op_addD os_add (pf_bin op_fdivN os_div (pf_h 0) pf_int) pf_int)) pfa_nil)) pf_int)) (pfss_cons (pfs_set 2 sc_law_take.nd (pf_bin op_modN os_mod (pf_callTy call_int1 cs_int T.b_int (by decide +kernel) (pfa_cons (pf_bin op_mulD os_mul (pf_v 2) (pf_bin op_addD os_add (pf_bin op_fdivN os_div (pf_v 2) pf_int) pf_int)) pfa_nil)) pf_int)) (pfss_one (pfs_ret (pf_bin op_modN os_mod (pf_callTy call_int1 cs_int T.b_int (by decide +kernel) (pfa_cons (pf_bin op_fdivN os_div (pf_v 2) pf_int) pfa_nil)) (pf_v 1))))))))))
abbrev s_law_pick : Stmt := top 74
theorem sc_law_pick : FnScope ["hand", "things"] ["hand", "things"] (defScope s_law_pick) := ⟨rfl, rfl, rfl, by decide +kernel, rfl, by decide +kernel, by decide +kernel⟩
noncomputable def b_law_pick : FS := (sRet (cOp ixD (cV 1) (cFn 2 f_law_take (cC (cV 0) (cC (cCall lenD (cC (cV 1) cN)) cN)))))
noncomputable def f_law_pick : List D → Gh → M D := fun ds g => noX (fnOf 2 b_law_pick ds g)
theorem d_law_pick {P : Program} {w : World} {K : PySem.W.Frag} {mg : Str → Option Value} {base : Heap} (T : Txt P w K mg base) (A : DefAt K mg "_law_pick" s_law_pick ["hand", "things"]) (d_law_take : DefOk P w K mg base CX0 "_law_take" 1 2 f_law_take) : DefOk P w K mg base CX0 "_law_pick" 2 2 f_law_pick :=
  A.ok sc_law_pick rfl (by decide) fun f cdv A outer s H E ah hr => by
    exact (pfss_one (pfs_ret (pf_ix ix_D os_ix (pf_v 1) (pf_call d_law_take (hr.mono (by decide)) (pfa_cons (pf_v 0) (pfa_cons (pf_len T.b_len (pfa_cons (pf_v 1) pfa_nil)) pfa_nil))) (fun _ _ => rfl))))
abbrev s_law_is_integer : Stmt := top 75
theorem sc_law_is_integer : FnScope ["thing"] ["thing"] (defScope s_law_is_integer) := ⟨rfl, rfl, rfl, by decide +kernel, rfl, by decide +kernel, by decide +kernel⟩
noncomputable def b_law_is_integer : FS := (sRet (cAndV (cIs "int" (cV 0)) (c1 nB (cIs "bool" (cV 0)))))
noncomputable def f_law_is_integer : List D → Gh → M D := fun ds g => noX (fnOf 1 b_law_is_integer ds g)
theorem d_law_is_integer {P : Program} {w : World} {K : PySem.W.Frag} {mg : Str → Option Value} {base : Heap} (T : Txt P w K mg base) (A : DefAt K mg "_law_is_integer" s_law_is_integer ["thing"])  : DefOk P w K mg base CX0 "_law_is_integer" 1 1 f_law_is_integer :=
  A.ok sc_law_is_integer rfl (by decide) fun f cdv A outer s H E ah hr => by
    exact (pfss_one (pfs_ret (pf_and (pf_is (t := "int") (by simp) T.play T.b_isinstance T.b_int (by decide +kernel) (pf_v 0)) (pf_one (pf_not (pf_is (t := "bool") (by simp) T.play T.b_isinstance T.b_bool (by decide +kernel) (pf_v 0)))))))
abbrev s_law_same : Stmt := top 77
theorem sc_law_same : FnScope ["actual", "due", "one", "other"] ["actual", "due"] (defScope s_law_same) := ⟨rfl, rfl, rfl, by decide +kernel, rfl, by decide +kernel, by decide +kernel⟩
noncomputable def b_law_same (f_REC : List D → Gh → M D) : FS := (sSeq (sIf (cT (cOp isND (cV 1) (cD .non))) (sRet (cOp isND (cV 0) (cD .non))) sNx) (sSeq (sIf (cT (cOp isBlD (cV 1) (cD (.bl true)))) (sRet (cOp isBlD (cV 0) (cD (.bl true)))) sNx) (sSeq (sIf (cT (cOp isBlD (cV 1) (cD (.bl false)))) (sRet (cOp isBlD (cV 0) (cD (.bl false)))) sNx) (sSeq (sIf (cT (cIs "int" (cV 1))) (sRet (cAndV (cFn 1 f_law_is_integer (cC (cV 0) cN)) (cOp eqD (cV 0) (cV 1)))) sNx) (sSeq (sIf (cT (cIs "str" (cV 1))) (sRet (cAndV (cIs "str" (cV 0)) (cOp eqD (cV 0) (cV 1)))) sNx) (sSeq (sIf (cOr (cT (cOp neD (cIs "tuple" (cV 1)) (cIs "tuple" (cV 0)))) (cT (cOp neD (cIs "list" (cV 1)) (cIs "list" (cV 0))))) (sRet (cD (.bl false))) sNx) (sSeq (sIf (cT (cOp neD (cCall lenD (cC (cV 0) cN)) (cCall lenD (cC (cV 1) cN)))) (sRet (cD (.bl false))) sNx) (sSeq (sFor (iZ (cC (cV 0) (cC (cV 1) cN))) (gT 2 (gsC (gN 2) (gsC (gN 3) gsN))) (sIf (cNot (cT (cFn 2 f_REC (cC (cV 2) (cC (cV 3) cN))))) (sRet (cD (.bl false))) sNx)) (sRet (cD (.bl true)))))))))))
noncomputable def f_law_same_at : Nat → List D → Gh → M D
  | 0 => fun _ _ => none
  | n + 1 => fun ds g => noX (fnOf 4 (b_law_same (f_law_same_at n)) ds g)
theorem d_law_same_step {P : Program} {w : World} {K : PySem.W.Frag} {mg : Str → Option Value} {base : Heap} {m k : Nat} (hk : 1 ≤ k) (T : Txt P w K mg base) (A : DefAt K mg "_law_same" s_law_same ["actual", "due"]) (d_law_is_integer : DefOk P w K mg base CX0 "_law_is_integer" 1 1 f_law_is_integer) (d_REC : DefOk P w K mg base CX0 "_law_same" k 2 (f_law_same_at m)) : DefOk P w K mg base CX0 "_law_same" (k + 1) 2 (f_law_same_at (m + 1)) :=
  A.ok sc_law_same rfl (by decide) fun f cdv A outer s H E ah hr => by
    exact (pfss_cons (pfs_if (pft_cmp op_isN os_isN (pf_v 1) pf_non (nomark _)) (pfss_one (pfs_ret (pf_cmp op_isN os_isN (pf_v 0) pf_non (nomark _)))) pfss_nil) (pfss_cons (pfs_if (pft_cmp op_isBlA os_isBl (pf_v 1) pf_bl (nomark _)) (pfss_one (pfs_ret (pf_cmp op_isBlA os_isBl (pf_v 0) pf_bl (nomark _)))) pfss_nil) (pfss_cons (pfs_if (pft_cmp op_isBlA os_isBl (pf_v 1) pf_bl (nomark _)) (pfss_one (pfs_ret (pf_cmp op_isBlA os_isBl (pf_v 0) pf_bl (nomark _)))) pfss_nil) (pfss_cons (pfs_if (pft_val (pf_is (t := "int") (by simp) T.play T.b_isinstance T.b_int (by decide +kernel) (pf_v 1))) (pfss_one (pfs_ret (pf_and (pf_call d_law_is_integer (hr.mono (by omega)) (pfa_cons (pf_v 0) pfa_nil)) (pf_one (pf_cmp (op_eqD (hu64 hr)) os_eq (pf_v 0) (pf_v 1) (nomark _)))))) pfss_nil) (pfss_cons (pfs_if (pft_val (pf_is (t := "str") (by simp) T.play T.b_isinstance T.b_str (by decide +kernel) (pf_v 1))) (pfss_one (pfs_ret (pf_and (pf_is (t := "str") (by simp) T.play T.b_isinstance T.b_str (by decide +kernel) (pf_v 0)) (pf_one (pf_cmp (op_eqD (hu64 hr)) os_eq (pf_v 0) (pf_v 1) (nomark _)))))) pfss_nil) (pfss_cons (pfs_if (pft_w (pfw_or (pft_cmp (op_neD (hu64 hr)) os_ne (pf_is (t := "tuple") (by simp) T.play T.b_isinstance T.b_tuple (by decide +kernel) (pf_v 1)) (pf_is (t := "tuple") (by simp) T.play T.b_isinstance T.b_tuple (by decide +kernel) (pf_v 0)) (nomark _)) (pfw_or1 (pft_cmp (op_neD (hu64 hr)) os_ne (pf_is (t := "list") (by simp) T.play T.b_isinstance T.b_list (by decide +kernel) (pf_v 1)) (pf_is (t := "list") (by simp) T.play T.b_isinstance T.b_list (by decide +kernel) (pf_v 0)) (nomark _))))) (pfss_one (pfs_ret pf_bl)) pfss_nil) (pfss_cons (pfs_if (pft_cmp (op_neD (hu64 hr)) os_ne (pf_len T.b_len (pfa_cons (pf_v 0) pfa_nil)) (pf_len T.b_len (pfa_cons (pf_v 1) pfa_nil)) (nomark _)) (pfss_one (pfs_ret pf_bl)) pfss_nil) (pfss_cons (pfs_for PassesOwn.never rfl (pfi_zip T.b_zip (pfa_cons (pf_v 0) (pfa_cons (pf_v 1) pfa_nil))) (pfg_tup rfl (pfgs_cons (pfg_n 2 sc_law_same.nd) (pfgs_cons (pfg_n 3 sc_law_same.nd) pfgs_nil))) (pfss_one (pfs_if (pft_not (pft_val (pf_call d_REC (hr.mono (by omega)) (pfa_cons (pf_v 2) (pfa_cons (pf_v 3) pfa_nil))))) (pfss_one (pfs_ret pf_bl)) pfss_nil))) (pfss_one (pfs_ret pf_bl))))))))))
noncomputable def f_law_same : List D → Gh → M D := f_law_same_at 45
theorem d_law_same_all {P : Program} {w : World} {K : PySem.W.Frag} {mg : Str → Option Value} {base : Heap} (T : Txt P w K mg base) (A : DefAt K mg "_law_same" s_law_same ["actual", "due"]) (d_law_is_integer : DefOk P w K mg base CX0 "_law_is_integer" 1 1 f_law_is_integer) : ∀ m, DefOk P w K mg base CX0 "_law_same" (1 + m) 2 (f_law_same_at m)
  | 0 => by
    obtain ⟨f, fd, F, hm, hb⟩ := A
    exact ⟨f, fd, _, ⟨fun vs H Q E ⟨ah, S, g, ds, hl, R, hv, G⟩ => G.elim, fun A outer s H args us vs Q E hr h1 h2 h3 ⟨ah, S, g, ds, hl, R, hv, G⟩ => G.elim⟩, hm, F.kp, hb⟩
  | m + 1 => d_law_same_step (k := 1 + m) (by omega) T A d_law_is_integer (d_law_same_all T A d_law_is_integer m)
theorem d_law_same {P : Program} {w : World} {K : PySem.W.Frag} {mg : Str → Option Value} {base : Heap} (T : Txt P w K mg base) (A : DefAt K mg "_law_same" s_law_same ["actual", "due"]) (d_law_is_integer : DefOk P w K mg base CX0 "_law_is_integer" 1 1 f_law_is_integer) : DefOk P w K mg base CX0 "_law_same" 46 2 f_law_same := d_law_same_all T A d_law_is_integer 45
abbrev s_law_script : Stmt := top 79
theorem sc_law_script : FnScope ["hand", "most", "found", "k"] ["hand", "most"] (defScope s_law_script) := ⟨rfl, rfl, rfl, by decide +kernel, rfl, by decide +kernel, by decide +kernel⟩
noncomputable def b_law_script : FS := (sSeq (sOwn 2) (sSeq (sFor (iR1 (cC (cFn 2 f_law_take (cC (cV 0) (cC (cOp addD (cV 1) (cD (.int 1))) cN))) cN)) (gN 3) (sIf (cT (cOp eqD (cFn 2 f_law_take (cC (cV 0) (cC (cD (.int 2)) cN))) (cD (.int 0)))) (sApp 2 (cTup (cC (cD (.str "see")) cN))) (sApp 2 (cTup (cC (cD (.str "put")) (cC (cFn 2 f_law_pick (cC (cV 0) (cC (cLst (cC (cD (.int 0)) (cC (cD (.int 1)) (cC (cD (.int 2)) (cC (cD (.int 7)) (cC (cD (.int 999)) (cC (cFn 2 f_law_take (cC (cV 0) (cC (cD (.int 1000)) cN))) cN))))))) cN))) cN)))))) (sFrz 2 (sRet (cCall tupleD (cC (cV 2) cN))))))
noncomputable def f_law_script : List D → Gh → M D := fun ds g => noX (fnOf 4 b_law_script ds g)
theorem d_law_script {P : Program} {w : World} {K : PySem.W.Frag} {mg : Str → Option Value} {base : Heap} (T : Txt P w K mg base) (A : DefAt K mg "_law_script" s_law_script ["hand", "most"]) (d_law_take : DefOk P w K mg base CX0 "_law_take" 1 2 f_law_take) (d_law_pick : DefOk P w K mg base CX0 "_law_pick" 2 2 f_law_pick) : DefOk P w K mg base CX0 "_law_script" 3 2 f_law_script :=
  A.ok sc_law_script rfl (by decide) fun f cdv A outer s H E ah hr => by
    exact (pfss_cons (pfs_own0 2 sc_law_script.nd) (pfss_cons (pfs_for PassesOwn.never rfl (pfi_rng1 T.b_range (pfa_cons (pf_call d_law_take (hr.mono (by decide)) (pfa_cons (pf_v 0) (pfa_cons (pf_bin op_addD os_add (pf_v 1) pf_int) pfa_nil))) pfa_nil)) (pfg_n 3 sc_law_script.nd) (pfss_one (pfs_if (pft_cmp (op_eqD (hu64 hr)) os_eq (pf_call d_law_take (hr.mono (by decide)) (pfa_cons (pf_v 0) (pfa_cons pf_int pfa_nil))) pf_int (nomark _)) (pfss_one (pfs_app 2 (pf_tup (pfa_cons pf_str pfa_nil)))) (pfss_one (pfs_app 2 (pf_tup (pfa_cons pf_str (pfa_cons (pf_call d_law_pick (hr.mono (by decide)) (pfa_cons (pf_v 0) (pfa_cons (pf_lst (pfa_cons pf_int (pfa_cons pf_int (pfa_cons pf_int (pfa_cons pf_int (pfa_cons pf_int (pfa_cons (pf_call d_law_take (hr.mono (by decide)) (pfa_cons (pf_v 0) (pfa_cons pf_int pfa_nil))) pfa_nil))))))) pfa_nil))) pfa_nil)))))))) (pfss_frz 2 (pfss_one (pfs_ret (pf_callTy call_tuple_of cs_tuple T.b_tuple (by decide +kernel) (pfa_cons (pf_v 2) pfa_nil)))))))
abbrev s_law_manner : Stmt := top 80
theorem sc_law_manner : FnScope ["hand", "many", "most", "k"] ["hand"] (defScope s_law_manner) := ⟨rfl, rfl, rfl, by decide +kernel, rfl, by decide +kernel, by decide +kernel⟩
noncomputable def b_law_manner : FS := (sSeq (sAsg (cFn 2 f_law_pick (cC (cV 0) (cC (cLst (cC (cD (.int 1)) (cC (cD (.int 2)) (cC (cD (.int 2)) (cC (cD (.int 3)) (cC (cD (.int 3)) (cC (cD (.int 4)) (cC (cD (.int 5)) cN)))))))) cN))) (gN 1)) (sSeq (sAsg (cFn 2 f_law_pick (cC (cV 0) (cC (cLst (cC (cD (.int 1)) (cC (cD (.int 2)) (cC (cD (.int 3)) (cC (cD (.int 6)) cN))))) cN))) (gN 2)) (sRet (cTup (cC (cFn 2 f_law_pick (cC (cV 0) (cC (cLst (cC (cD (.str "sweep")) (cC (cD (.str "twice")) (cC (cD (.str "borrow")) (cC (cD (.str "borrow")) cN))))) cN))) (cC (cCall tupleD (cC (cLc (iR1 (cC (cV 1) cN)) [3] (gN 3) tY (cFn 2 f_law_script (cC (cV 0) (cC (cV 2) cN)))) cN)) cN))))))
noncomputable def f_law_manner : List D → Gh → M D := fun ds g => noX (fnOf 4 b_law_manner ds g)
theorem d_law_manner {P : Program} {w : World} {K : PySem.W.Frag} {mg : Str → Option Value} {base : Heap} (T : Txt P w K mg base) (A : DefAt K mg "_law_manner" s_law_manner ["hand"]) (d_law_pick : DefOk P w K mg base CX0 "_law_pick" 2 2 f_law_pick) (d_law_script : DefOk P w K mg base CX0 "_law_script" 3 2 f_law_script) : DefOk P w K mg base CX0 "_law_manner" 4 1 f_law_manner :=
  A.ok sc_law_manner rfl (by decide) fun f cdv A outer s H E ah hr => by
    exact (pfss_cons (pfs_set 1 sc_law_manner.nd (pf_call d_law_pick (hr.mono (by decide)) (pfa_cons (pf_v 0) (pfa_cons (pf_lst (pfa_cons pf_int (pfa_cons pf_int (pfa_cons pf_int (pfa_cons pf_int (pfa_cons pf_int (pfa_cons pf_int (pfa_cons pf_int pfa_nil)))))))) pfa_nil)))) (pfss_cons (pfs_set 2 sc_law_manner.nd (pf_call d_law_pick (hr.mono (by decide)) (pfa_cons (pf_v 0) (pfa_cons (pf_lst (pfa_cons pf_int (pfa_cons pf_int (pfa_cons pf_int (pfa_cons pf_int pfa_nil))))) pfa_nil)))) (pfss_one (pfs_ret (pf_tup (pfa_cons (pf_call d_law_pick (hr.mono (by decide)) (pfa_cons (pf_v 0) (pfa_cons (pf_lst (pfa_cons pf_str (pfa_cons pf_str (pfa_cons pf_str (pfa_cons pf_str pfa_nil))))) pfa_nil))) (pfa_cons (pf_callTy call_tuple_of cs_tuple T.b_tuple (by decide +kernel) (pfa_cons (pf_lc [("k", 3)] sc_law_manner.nd (pfi_rng1 T.b_range (pfa_cons (pf_v 1) pfa_nil)) (fun _ => (pfg_n 3 sc_law_manner.nd)) (fun _ => pfts_nil) (fun _ => (pf_call d_law_script (hr.mono (by decide)) (pfa_cons (pf_v 0) (pfa_cons (pf_v 2) pfa_nil)))) (blkOk_by (N := ["hand", "many", "most", "k"]) (sc := defScope s_law_manner) (by decide +kernel))) pfa_nil)) pfa_nil)))))))
abbrev s_law_some_play : Stmt := top 81
theorem sc_law_some_play : FnScope ["hand", "turn", "many", "first", "names", "lots", "k", "number"] ["hand"] (defScope s_law_some_play) := ⟨rfl, rfl, rfl, by decide +kernel, rfl, by decide +kernel, by decide +kernel⟩
noncomputable def b_law_some_play : FS := (sSeq (sAsg (cFn 2 f_law_take (cC (cV 0) (cC (cD (.int 8)) cN))) (gN 1)) (sSeq (sAsg (cFn 2 f_law_pick (cC (cV 0) (cC (cLst (cC (cD (.int 1)) (cC (cD (.int 2)) (cC (cD (.int 3)) (cC (cD (.int 4)) (cC (cD (.int 5)) cN)))))) cN))) (gN 2)) (sSeq (sIf (cT (cOp eqD (cV 1) (cD (.int 0)))) (sRet (cTup (cC (cD (.str "levels")) (cC (cCall tupleD (cC (cLc (iR1 (cC (cV 2) cN)) [6] (gN 6) tY (cFn 2 f_law_take (cC (cV 0) (cC (cD (.int 1000)) cN)))) cN)) cN)))) sNx) (sSeq (sIf (cT (cOp eqD (cV 1) (cD (.int 1)))) (sSeq (sAsg (cFn 2 f_law_take (cC (cV 0) (cC (cD (.int 900)) cN))) (gN 3)) (sSeq (sAsg (cLc (iR1 (cC (cV 2) cN)) [6] (gN 6) tY (cOp addD (cV 3) (cOp mulD (cD (.int 17)) (cV 6)))) (gN 4)) (sSeq (sIf (cT (cOp eqD (cFn 2 f_law_take (cC (cV 0) (cC (cD (.int 2)) cN))) (cD (.int 0)))) (sAsg (cLc (iR1 (cC (cV 2) cN)) [6] (gN 6) tY (cOp ixD (cV 4) (cOp subD (cOp subD (cV 2) (cD (.int 1))) (cV 6)))) (gN 4)) sNx) (sRet (cTup (cC (cD (.str "names")) (cC (cCall tupleD (cC (cV 4) cN)) cN))))))) sNx) (sSeq (sIf (cT (cOp eqD (cV 1) (cD (.int 2)))) (sRet (cTup (cC (cD (.str "near")) (cC (cTup (cC (cOp addD (cD (.int 1)) (cFn 2 f_law_take (cC (cV 0) (cC (cD (.int 6)) cN)))) (cC (cCall tupleD (cC (cLc (iR1 (cC (cV 2) cN)) [6] (gN 6) tY (cOp subD (cFn 2 f_law_take (cC (cV 0) (cC (cD (.int 2001)) cN))) (cD (.int 1000)))) cN)) cN))) cN)))) sNx) (sSeq (sIf (cT (cOp eqD (cV 1) (cD (.int 3)))) (sSeq (sOwn 5) (sSeq (sFor (iR1 (cC (cV 2) cN)) (gN 6) (sApp 5 (cCall tupleD (cC (cLc (iR1 (cC (cD (.int 20)) cN)) [7] (gN 7) (cT (cOp eqD (cFn 2 f_law_take (cC (cV 0) (cC (cD (.int 5)) cN))) (cD (.int 0)))) (cV 7)) cN)))) (sFrz 5 (sRet (cTup (cC (cD (.str "chain")) (cC (cCall tupleD (cC (cV 5) cN)) cN))))))) sNx) (sRet (cFn 1 f_law_manner (cC (cV 0) cN)))))))))
noncomputable def f_law_some_play : List D → Gh → M D := fun ds g => noX (fnOf 8 b_law_some_play ds g)
theorem d_law_some_play {P : Program} {w : World} {K : PySem.W.Frag} {mg : Str → Option Value} {base : Heap} (T : Txt P w K mg base) (A : DefAt K mg "_law_some_play" s_law_some_play ["hand"]) (d_law_take : DefOk P w K mg base CX0 "_law_take" 1 2 f_law_take) (d_law_pick : DefOk P w K mg base CX0 "_law_pick" 2 2 f_law_pick) (d_law_manner : DefOk P w K mg base CX0 "_law_manner" 4 1 f_law_manner) : DefOk P w K mg base CX0 "_law_some_play" 5 1 f_law_some_play :=
  A.ok sc_law_some_play rfl (by decide) fun f cdv A outer s H E ah hr => by
    exact (pfss_cons (pfs_set 1 sc_law_some_play.nd (pf_call d_law_take (hr.mono (by decide)) (pfa_cons (pf_v 0) (pfa_cons pf_int pfa_nil)))) (pfss_cons (pfs_set 2 sc_law_some_play.nd (pf_call d_law_pick (hr.mono (by decide)) (pfa_cons (pf_v 0) (pfa_cons (pf_lst (pfa_cons pf_int (pfa_cons pf_int (pfa_cons pf_int (pfa_cons pf_int (pfa_cons pf_int pfa_nil)))))) pfa_nil)))) (pfss_cons (pfs_if (pft_cmp (op_eqD (hu64 hr)) os_eq (pf_v 1) pf_int (nomark _)) (pfss_one (pfs_ret (pf_tup (pfa_cons pf_str (pfa_cons (pf_callTy call_tuple_of cs_tuple T.b_tuple (by decide +kernel) (pfa_cons (pf_lc [("k", 6)] sc_law_some_play.nd (pfi_rng1 T.b_range (pfa_cons (pf_v 2) pfa_nil)) (fun _ => (pfg_n 6 sc_law_some_play.nd)) (fun _ => pfts_nil) (fun _ => (pf_call d_law_take (hr.mono (by decide)) (pfa_cons (pf_v 0) (pfa_cons pf_int pfa_nil)))) (blkOk_by (N := ["hand", "turn", "many", "first", "names", "lots", "k", "number"]) (sc := defScope s_law_some_play) (by decide +kernel))) pfa_nil)) pfa_nil))))) pfss_nil) (pfss_cons (pfs_if (pft_cmp (op_eqD (hu64 hr)) os_eq (pf_v 1) pf_int (nomark _)) (pfss_cons (pfs_set 3 sc_law_some_play.nd (pf_call d_law_take (hr.mono (by decide)) (pfa_cons (pf_v 0) (pfa_cons pf_int pfa_nil)))) (pfss_cons (pfs_set 4 sc_law_some_play.nd (pf_lc [("k", 6)] sc_law_some_play.nd (pfi_rng1 T.b_range (pfa_cons (pf_v 2) pfa_nil)) (fun _ => (pfg_n 6 sc_law_some_play.nd)) (fun _ => pfts_nil) (fun _ => (pf_bin op_addD os_add (pf_v 3) (pf_bin op_mulD os_mul pf_int (pf_v 6)))) (blkOk_by (N := ["hand", "turn", "many", "first", "names", "lots", "k", "number"]) (sc := defScope s_law_some_play) (by decide +kernel)))) (pfss_cons (pfs_if (pft_cmp (op_eqD (hu64 hr)) os_eq (pf_call d_law_take (hr.mono (by decide)) (pfa_cons (pf_v 0) (pfa_cons pf_int pfa_nil))) pf_int (nomark _)) (pfss_one (pfs_set 4 sc_law_some_play.nd (pf_lc [("k", 6)] sc_law_some_play.nd (pfi_rng1 T.b_range (pfa_cons (pf_v 2) pfa_nil)) (fun _ => (pfg_n 6 sc_law_some_play.nd)) (fun _ => pfts_nil) (fun _ => (pf_ix ix_D os_ix (pf_v 4) (pf_bin op_sub os_sub (pf_bin op_sub os_sub (pf_v 2) pf_int) (pf_v 6)) (fun _ _ => rfl))) (blkOk_by (N := ["hand", "turn", "many", "first", "names", "lots", "k", "number"]) (sc := defScope s_law_some_play) (by decide +kernel))))) pfss_nil) (pfss_one (pfs_ret (pf_tup (pfa_cons pf_str (pfa_cons (pf_callTy call_tuple_of cs_tuple T.b_tuple (by decide +kernel) (pfa_cons (pf_v 4) pfa_nil)) pfa_nil)))))))) pfss_nil) (pfss_cons (pfs_if (pft_cmp (op_eqD (hu64 hr)) os_eq (pf_v 1) pf_int (nomark _)) (pfss_one (pfs_ret (pf_tup (pfa_cons pf_str (pfa_cons (pf_tup (pfa_cons (pf_bin op_addD os_add pf_int (pf_call d_law_take (hr.mono (by decide)) (pfa_cons (pf_v 0) (pfa_cons pf_int pfa_nil)))) (pfa_cons (pf_callTy call_tuple_of cs_tuple T.b_tuple (by decide +kernel) (pfa_cons (pf_lc [("k", 6)] sc_law_some_play.nd (pfi_rng1 T.b_range (pfa_cons (pf_v 2) pfa_nil)) (fun _ => (pfg_n 6 sc_law_some_play.nd)) (fun _ => pfts_nil) (fun _ => (pf_bin op_sub os_sub (pf_call d_law_take (hr.mono (by decide)) (pfa_cons (pf_v 0) (pfa_cons pf_int pfa_nil))) pf_int)) (blkOk_by (N := ["hand", "turn", "many", "first", "names", "lots", "k", "number"]) (sc := defScope s_law_some_play) (by decide +kernel))) pfa_nil)) pfa_nil))) pfa_nil))))) pfss_nil) (pfss_cons (pfs_if (pft_cmp (op_eqD (hu64 hr)) os_eq (pf_v 1) pf_int (nomark _)) (pfss_cons (pfs_own0 5 sc_law_some_play.nd) (pfss_cons (pfs_for PassesOwn.never rfl (pfi_rng1 T.b_range (pfa_cons (pf_v 2) pfa_nil)) (pfg_n 6 sc_law_some_play.nd) (pfss_one (pfs_app 5 (pf_callTy call_tuple_of cs_tuple T.b_tuple (by decide +kernel) (pfa_cons (pf_lc [("number", 7)] sc_law_some_play.nd (pfi_rng1 T.b_range (pfa_cons pf_int pfa_nil)) (fun _ => (pfg_n 7 sc_law_some_play.nd)) (fun _ => (pfts_one (pft_cmp (op_eqD (hu64 hr)) os_eq (pf_call d_law_take (hr.mono (by decide)) (pfa_cons (pf_v 0) (pfa_cons pf_int pfa_nil))) pf_int (nomark _)))) (fun _ => (pf_v 7)) (blkOk_by (N := ["hand", "turn", "many", "first", "names", "lots", "k", "number"]) (sc := defScope s_law_some_play) (by decide +kernel))) pfa_nil))))) (pfss_frz 5 (pfss_one (pfs_ret (pf_tup (pfa_cons pf_str (pfa_cons (pf_callTy call_tuple_of cs_tuple T.b_tuple (by decide +kernel) (pfa_cons (pf_v 5) pfa_nil)) pfa_nil)))))))) pfss_nil) (pfss_one (pfs_ret (pf_call d_law_manner (hr.mono (by decide)) (pfa_cons (pf_v 0) pfa_nil))))))))))
abbrev s_law_many : Stmt := top 82
theorem sc_law_many : FnScope ["kind", "inputs"] ["kind", "inputs"] (defScope s_law_many) := ⟨rfl, rfl, rfl, by decide +kernel, rfl, by decide +kernel, by decide +kernel⟩
noncomputable def b_law_many : FS := (sSeq (sIf (cT (cOp eqD (cV 0) (cD (.str "near")))) (sRet (cCall lenD (cC (cOp ixD (cV 1) (cD (.int 1))) cN))) sNx) (sRet (cCall lenD (cC (cV 1) cN))))
noncomputable def f_law_many : List D → Gh → M D := fun ds g => noX (fnOf 2 b_law_many ds g)
theorem d_law_many {P : Program} {w : World} {K : PySem.W.Frag} {mg : Str → Option Value} {base : Heap} (T : Txt P w K mg base) (A : DefAt K mg "_law_many" s_law_many ["kind", "inputs"])  : DefOk P w K mg base CX0 "_law_many" 1 2 f_law_many :=
  A.ok sc_law_many rfl (by decide) fun f cdv A outer s H E ah hr => by
    exact (pfss_cons (pfs_if (pft_cmp (op_eqD (hu64 hr)) os_eq (pf_v 0) pf_str (nomark _)) (pfss_one (pfs_ret (pf_len T.b_len (pfa_cons (pf_ix ix_D os_ix (pf_v 1) pf_int (fun _ _ => rfl)) pfa_nil)))) pfss_nil) (pfss_one (pfs_ret (pf_len T.b_len (pfa_cons (pf_v 1) pfa_nil)))))
abbrev s_law_over : Stmt := top 83
theorem sc_law_over : FnScope ["standing", "one"] ["standing"] (defScope s_law_over) := ⟨rfl, rfl, rfl, by decide +kernel, rfl, by decide +kernel, by decide +kernel⟩
noncomputable def b_law_over : FS := (sRet (cLc (iR1 (cC (cCall lenD (cC (cOp ixD (cV 0) (cD (.int 1))) cN)) cN)) [1] (gN 1) (cT (cOp isND (cOp ixD (cOp ixD (cV 0) (cD (.int 1))) (cV 1)) (cD .non))) (cV 1)))
noncomputable def f_law_over : List D → Gh → M D := fun ds g => noX (fnOf 2 b_law_over ds g)
theorem d_law_over {P : Program} {w : World} {K : PySem.W.Frag} {mg : Str → Option Value} {base : Heap} (T : Txt P w K mg base) (A : DefAt K mg "_law_over" s_law_over ["standing"])  : DefOk P w K mg base CX0 "_law_over" 1 1 f_law_over :=
  A.ok sc_law_over rfl (by decide) fun f cdv A outer s H E ah hr => by
    exact (pfss_one (pfs_ret (pf_lc [("one", 1)] sc_law_over.nd (pfi_rng1 T.b_range (pfa_cons (pf_len T.b_len (pfa_cons (pf_ix ix_D os_ix (pf_v 0) pf_int (fun _ _ => rfl)) pfa_nil)) pfa_nil)) (fun _ => (pfg_n 1 sc_law_over.nd)) (fun _ => (pfts_one (pft_cmp op_isN os_isN (pf_ix ix_D os_ix (pf_ix ix_D os_ix (pf_v 0) pf_int (fun _ _ => rfl)) (pf_v 1) (fun _ _ => rfl)) pf_non (nomark _)))) (fun _ => (pf_v 1)) (blkOk_by (N := ["standing", "one"]) (sc := defScope s_law_over) (by decide +kernel)))))
abbrev s_check_turn : Stmt := top 64
theorem sc_check_turn : FnScope ["play", "standing", "hand"] ["play", "standing", "hand"] (defScope s_check_turn) := ⟨rfl, rfl, rfl, by decide +kernel, rfl, by decide +kernel, by decide +kernel⟩
noncomputable def b_check_turn : FS := (sSeq (sIf (cNot (cT (cFn 2 f_is_hand (cC (cV 0) (cC (cV 2) cN))))) (sRaise0 "NoHand") sNx) (sIf (cT (cOp isND (cOp ixD (cOp ixD (cV 1) (cD (.int 1))) (cV 2)) (cD .non))) (sRaise0 "NoStep") sNx))
noncomputable def f_check_turn : List D → Gh → M D := fun ds g => fnOf 3 b_check_turn ds g
theorem d_check_turn {P : Program} {w : World} {K : PySem.W.Frag} {mg : Str → Option Value} {base : Heap} (T : Txt P w K mg base) (A : DefAt K mg "check_turn" s_check_turn ["play", "standing", "hand"]) (d_is_hand : DefOk P w K mg base CX0 "is_hand" 4 2 f_is_hand) : DefOk P w K mg base (L2.CX P w) "check_turn" 5 3 f_check_turn :=
  A.okX sc_check_turn rfl (by decide) fun f cdv A outer s H E ah hr => by
    exact (pfss_cons (pfs_if (pft_not (pft_val (pf_call d_is_hand (hr.mono (by decide)) (pfa_cons (pf_v 0) (pfa_cons (pf_v 2) pfa_nil))))) (pfss_one (pfs_raise0 rfl (takes_of rfl rfl rfl rfl) T.x_NoHand (hr.mono (by decide)))) pfss_nil) (pfss_one (pfs_if (pft_cmp op_isN os_isN (pf_ix ix_D os_ix (pf_ix ix_D os_ix (pf_v 1) pf_int (fun _ _ => rfl)) (pf_v 2) (fun _ _ => rfl)) pf_non (nomark _)) (pfss_one (pfs_raise0 rfl (takes_of rfl rfl rfl rfl) T.x_NoStep (hr.mono (by decide)))) pfss_nil)))
abbrev s_step : Stmt := top 57
theorem sc_step : FnScope ["play", "standing", "hand"] ["play", "standing", "hand"] (defScope s_step) := ⟨rfl, rfl, rfl, by decide +kernel, rfl, by decide +kernel, by decide +kernel⟩
noncomputable def b_step : FS := (sSeq (sDrop (cFn 3 f_check_turn (cC (cV 0) (cC (cV 1) (cC (cV 2) cN))))) (sRet (cFn 3 f_standing_behind (cC (cV 0) (cC (cV 1) (cC (cV 2) cN))))))
noncomputable def f_step : List D → Gh → M D := fun ds g => noX (fnOf 3 b_step ds g)
theorem d_step {P : Program} {w : World} {K : PySem.W.Frag} {mg : Str → Option Value} {base : Heap} (T : Txt P w K mg base) (A : DefAt K mg "step" s_step ["play", "standing", "hand"]) (d_check_turn : DefOk P w K mg base (L2.CX P w) "check_turn" 5 3 f_check_turn) (d_standing_behind : DefOk P w K mg base CX0 "standing_behind" 6 3 f_standing_behind) : DefOk P w K mg base CX0 "step" 7 3 f_step :=
  A.ok sc_step rfl (by decide) fun f cdv A outer s H E ah hr => by
    exact (pfss_cons (pfs_expr (pf_callN d_check_turn (hr.mono (by decide)) (pfa_cons (pf_v 0) (pfa_cons (pf_v 1) (pfa_cons (pf_v 2) pfa_nil))))) (pfss_one (pfs_ret (pf_call d_standing_behind (hr.mono (by decide)) (pfa_cons (pf_v 0) (pfa_cons (pf_v 1) (pfa_cons (pf_v 2) pfa_nil)))))))
abbrev s_law_walked : Stmt := top 84
theorem sc_law_walked : FnScope ["hand", "play", "many", "most", "standings", "found", "k", "able", "one"] ["hand", "play", "many", "most"] (defScope s_law_walked) := ⟨rfl, rfl, rfl, by decide +kernel, rfl, by decide +kernel, by decide +kernel⟩
noncomputable def b_law_walked : FS := (sSeq (sOwnL 4 (cC (cFn 1 f_first_standing (cC (cV 1) cN)) cN)) (sSeq (sOwn 5) (sSeq (sFor (iR1 (cC (cV 3) cN)) (gN 6) (sSeq (sAsg (cFn 2 f_can_step (cC (cV 1) (cC (cOIx 4 (c1 negD (cD (.int 1)))) cN))) (gN 7)) (sSeq (sIf (cT (cOp eqD (cCall lenD (cC (cV 7) cN)) (cD (.int 0)))) sBk sNx) (sSeq (sAsg (cFn 2 f_law_pick (cC (cV 0) (cC (cV 7) cN))) (gN 8)) (sSeq (sApp 5 (cV 8)) (sApp 4 (cFn 3 f_step (cC (cV 1) (cC (cOIx 4 (c1 negD (cD (.int 1)))) (cC (cV 8) cN)))))))))) (sFrz 5 (sFrz 4 (sRet (cTup (cC (cV 5) (cC (cV 4) cN)))))))))
noncomputable def f_law_walked : List D → Gh → M D := fun ds g => noX (fnOf 9 b_law_walked ds g)
theorem d_law_walked {P : Program} {w : World} {K : PySem.W.Frag} {mg : Str → Option Value} {base : Heap} (T : Txt P w K mg base) (A : DefAt K mg "_law_walked" s_law_walked ["hand", "play", "many", "most"]) (d_first_standing : DefOk P w K mg base CX0 "first_standing" 4 1 f_first_standing) (d_can_step : DefOk P w K mg base CX0 "can_step" 1 2 f_can_step) (d_law_pick : DefOk P w K mg base CX0 "_law_pick" 2 2 f_law_pick) (d_step : DefOk P w K mg base CX0 "step" 7 3 f_step) : DefOk P w K mg base CX0 "_law_walked" 8 4 f_law_walked :=
  A.ok sc_law_walked rfl (by decide) fun f cdv A outer s H E ah hr => by
    exact (pfss_cons (pfs_ownL 4 sc_law_walked.nd (pfa_cons (pf_call d_first_standing (hr.mono (by decide)) (pfa_cons (pf_v 1) pfa_nil)) pfa_nil)) (pfss_cons (pfs_own0 5 sc_law_walked.nd) (pfss_cons (pfs_for PassesOwn.never rfl (pfi_rng1 T.b_range (pfa_cons (pf_v 3) pfa_nil)) (pfg_n 6 sc_law_walked.nd) (pfss_cons (pfs_set 7 sc_law_walked.nd (pf_call d_can_step (hr.mono (by decide)) (pfa_cons (pf_v 1) (pfa_cons (pf_oix 4 (pf_neg pf_int) (fun _ _ => rfl)) pfa_nil)))) (pfss_cons (pfs_if (pft_cmp (op_eqD (hu64 hr)) os_eq (pf_len T.b_len (pfa_cons (pf_v 7) pfa_nil)) pf_int (nomark _)) (pfss_one pfs_break) pfss_nil) (pfss_cons (pfs_set 8 sc_law_walked.nd (pf_call d_law_pick (hr.mono (by decide)) (pfa_cons (pf_v 0) (pfa_cons (pf_v 7) pfa_nil)))) (pfss_cons (pfs_app 5 (pf_v 8)) (pfss_one (pfs_app 4 (pf_call d_step (hr.mono (by decide)) (pfa_cons (pf_v 1) (pfa_cons (pf_oix 4 (pf_neg pf_int) (fun _ _ => rfl)) (pfa_cons (pf_v 8) pfa_nil))))))))))) (pfss_frz 5 (pfss_frz 4 (pfss_one (pfs_ret (pf_tup (pfa_cons (pf_v 5) (pfa_cons (pf_v 4) pfa_nil))))))))))
abbrev s_next_step : Stmt := top 58
theorem sc_next_step : FnScope ["play", "standing", "hand"] ["play", "standing", "hand"] (defScope s_next_step) := ⟨rfl, rfl, rfl, by decide +kernel, rfl, by decide +kernel, by decide +kernel⟩
noncomputable def b_next_step : FS := (sSeq (sDrop (cFn 3 f_check_turn (cC (cV 0) (cC (cV 1) (cC (cV 2) cN))))) (sRet (cFn 3 f_word_of_step (cC (cV 0) (cC (cOp ixD (cOp ixD (cV 1) (cD (.int 1))) (cV 2)) (cC (cV 2) cN))))))
noncomputable def f_next_step : List D → Gh → M D := fun ds g => noX (fnOf 3 b_next_step ds g)
theorem d_next_step {P : Program} {w : World} {K : PySem.W.Frag} {mg : Str → Option Value} {base : Heap} (T : Txt P w K mg base) (A : DefAt K mg "next_step" s_next_step ["play", "standing", "hand"]) (d_check_turn : DefOk P w K mg base (L2.CX P w) "check_turn" 5 3 f_check_turn) (d_word_of_step : DefOk P w K mg base CX0 "word_of_step" 3 3 f_word_of_step) : DefOk P w K mg base CX0 "next_step" 6 3 f_next_step :=
  A.ok sc_next_step rfl (by decide) fun f cdv A outer s H E ah hr => by
    exact (pfss_cons (pfs_expr (pf_callN d_check_turn (hr.mono (by decide)) (pfa_cons (pf_v 0) (pfa_cons (pf_v 1) (pfa_cons (pf_v 2) pfa_nil))))) (pfss_one (pfs_ret (pf_call d_word_of_step (hr.mono (by decide)) (pfa_cons (pf_v 0) (pfa_cons (pf_ix ix_D os_ix (pf_ix ix_D os_ix (pf_v 1) pf_int (fun _ _ => rfl)) (pf_v 2) (fun _ _ => rfl)) (pfa_cons (pf_v 2) pfa_nil)))))))
abbrev s_law_event_right : Stmt := top 85
theorem sc_law_event_right : FnScope ["play", "ahead", "behind", "one", "event_v", "word", "cell", "others", "k"] ["play", "ahead", "behind", "one", "event_v"] (defScope s_law_event_right) := ⟨rfl, rfl, rfl, by decide +kernel, rfl, by decide +kernel, by decide +kernel⟩
noncomputable def b_law_event_right : FS := (sSeq (sAsg (cFn 3 f_next_step (cC (cV 0) (cC (cV 1) (cC (cV 3) cN)))) (gN 5)) (sSeq (sAsg (cV 3) (gN 6)) (sSeq (sIf (cT (cOp eqD (cOp ixD (cV 5) (cD (.int 0))) (cD (.str "look")))) (sAsg (cOp ixD (cV 5) (cD (.int 1))) (gN 6)) sNx) (sSeq (sIf (cT (cOp eqD (cOp ixD (cV 5) (cD (.int 0))) (cD (.str "see")))) (sAsg (cD .non) (gN 6)) sNx) (sSeq (sIf (cNot (cT (cFn 2 f_law_same (cC (cV 4) (cC (cTup (cC (cV 3) (cC (cOp ixD (cV 5) (cD (.int 0))) (cC (cV 6) cN)))) cN))))) (sRet (cD (.bl false))) sNx) (sSeq (sIf (cT (cOp eqD (cOp ixD (cV 5) (cD (.int 0))) (cD (.str "put")))) (sSeq (sAsg (cLc (iR1 (cC (cCall lenD (cC (cOp ixD (cV 1) (cD (.int 0))) cN)) cN)) [8] (gN 8) (cAnd (cT (cOp neD (cV 8) (cV 3))) (cT (cOp neD (cOp ixD (cOp ixD (cV 1) (cD (.int 0))) (cV 8)) (cOp ixD (cOp ixD (cV 2) (cD (.int 0))) (cV 8))))) (cV 8)) (gN 7)) (sRet (cAndV (cOp eqD (cCall lenD (cC (cV 7) cN)) (cD (.int 0))) (cOp eqD (cOp ixD (cV 1) (cD (.int 2))) (cOp ixD (cV 2) (cD (.int 2))))))) sNx) (sRet (cOp eqD (cOp ixD (cV 1) (cD (.int 0))) (cOp ixD (cV 2) (cD (.int 0)))))))))))
noncomputable def f_law_event_right : List D → Gh → M D := fun ds g => noX (fnOf 9 b_law_event_right ds g)
theorem d_law_event_right {P : Program} {w : World} {K : PySem.W.Frag} {mg : Str → Option Value} {base : Heap} (T : Txt P w K mg base) (A : DefAt K mg "_law_event_right" s_law_event_right ["play", "ahead", "behind", "one", "event_v"]) (d_next_step : DefOk P w K mg base CX0 "next_step" 6 3 f_next_step) (d_law_same : DefOk P w K mg base CX0 "_law_same" 46 2 f_law_same) : DefOk P w K mg base CX0 "_law_event_right" 47 5 f_law_event_right :=
  A.ok sc_law_event_right rfl (by decide) fun f cdv A outer s H E ah hr => by
    exact (pfss_cons (pfs_set 5 sc_law_event_right.nd (pf_call d_next_step (hr.mono (by decide)) (pfa_cons (pf_v 0) (pfa_cons (pf_v 1) (pfa_cons (pf_v 3) pfa_nil))))) (pfss_cons (pfs_set 6 sc_law_event_right.nd (pf_v 3)) (pfss_cons (pfs_if (pft_cmp (op_eqD (hu64 hr)) os_eq (pf_ix ix_D os_ix (pf_v 5) pf_int (fun _ _ => rfl)) pf_str (nomark _)) (pfss_one (pfs_set 6 sc_law_event_right.nd (pf_ix ix_D os_ix (pf_v 5) pf_int (fun _ _ => rfl)))) pfss_nil) (pfss_cons (pfs_if (pft_cmp (op_eqD (hu64 hr)) os_eq (pf_ix ix_D os_ix (pf_v 5) pf_int (fun _ _ => rfl)) pf_str (nomark _)) (pfss_one (pfs_set 6 sc_law_event_right.nd pf_non)) pfss_nil) (pfss_cons (pfs_if (pft_not (pft_val (pf_call d_law_same (hr.mono (by decide)) (pfa_cons (pf_v 4) (pfa_cons (pf_tup (pfa_cons (pf_v 3) (pfa_cons (pf_ix ix_D os_ix (pf_v 5) pf_int (fun _ _ => rfl)) (pfa_cons (pf_v 6) pfa_nil)))) pfa_nil))))) (pfss_one (pfs_ret pf_bl)) pfss_nil) (pfss_cons (pfs_if (pft_cmp (op_eqD (hu64 hr)) os_eq (pf_ix ix_D os_ix (pf_v 5) pf_int (fun _ _ => rfl)) pf_str (nomark _)) (pfss_cons (pfs_lc 7 [("k", 8)] sc_law_event_right.nd (pfi_rng1 T.b_range (pfa_cons (pf_len T.b_len (pfa_cons (pf_ix ix_D os_ix (pf_v 1) pf_int (fun _ _ => rfl)) pfa_nil)) pfa_nil)) (fun _ => (pfg_n 8 sc_law_event_right.nd)) (fun _ => (pfts_one (pft_w (pfw_and (pft_cmp (op_neD (hu64 hr)) os_ne (pf_v 8) (pf_v 3) (nomark _)) (pfw_and1 (pft_cmp (op_neD (hu64 hr)) os_ne (pf_ix ix_D os_ix (pf_ix ix_D os_ix (pf_v 1) pf_int (fun _ _ => rfl)) (pf_v 8) (fun _ _ => rfl)) (pf_ix ix_D os_ix (pf_ix ix_D os_ix (pf_v 2) pf_int (fun _ _ => rfl)) (pf_v 8) (fun _ _ => rfl)) (nomark _))))))) (fun _ => (pf_v 8)) (blkOk_by (N := ["play", "ahead", "behind", "one", "event_v", "word", "cell", "others", "k"]) (sc := defScope s_law_event_right) (by decide +kernel)) (sw_true rfl rfl rfl (by decide +kernel))) (pfss_one (pfs_ret (pf_and (pf_cmp (op_eqD (hu64 hr)) os_eq (pf_len T.b_len (pfa_cons (pf_v 7) pfa_nil)) pf_int (nomark _)) (pf_one (pf_cmp (op_eqD (hu64 hr)) os_eq (pf_ix ix_D os_ix (pf_v 1) pf_int (fun _ _ => rfl)) (pf_ix ix_D os_ix (pf_v 2) pf_int (fun _ _ => rfl)) (nomark _))))))) pfss_nil) (pfss_one (pfs_ret (pf_cmp (op_eqD (hu64 hr)) os_eq (pf_ix ix_D os_ix (pf_v 1) pf_int (fun _ _ => rfl)) (pf_ix ix_D os_ix (pf_v 2) pf_int (fun _ _ => rfl)) (nomark _))))))))))
abbrev s_law_told : Stmt := top 86
theorem sc_law_told : FnScope ["which", "play", "weaving", "error"] ["which", "play", "weaving"] (defScope s_law_told) := ⟨rfl, rfl, rfl, by decide +kernel, rfl, by decide +kernel, by decide +kernel⟩
noncomputable def b_law_told : FS := (sTry1 (sSeq (sIf (cT (cOp eqD (cV 0) (cD (.int 0)))) (sRet (cTup (cC (cD (.str "told")) (cC (cFnX 2 f_run (cC (cV 1) (cC (cV 2) cN))) cN)))) sNx) (sSeq (sIf (cT (cOp eqD (cV 0) (cD (.int 1)))) (sRet (cTup (cC (cD (.str "told")) (cC (cFnX 2 f_events (cC (cV 1) (cC (cV 2) cN))) cN)))) sNx) (sRet (cTup (cC (cD (.str "told")) (cC (cFnX 2 f_run_out (cC (cV 1) (cC (cV 2) cN))) cN)))))) "NoWeaving" "index" 3 (.str "NoWeaving"))
noncomputable def f_law_told : List D → Gh → M D := fun ds g => noX (fnOf 4 b_law_told ds g)
theorem d_law_told {P : Program} {w : World} {K : PySem.W.Frag} {mg : Str → Option Value} {base : Heap} (T : Txt P w K mg base) (A : DefAt K mg "_law_told" s_law_told ["which", "play", "weaving"]) (d_run : DefOk P w K mg base (L2.CX P w) "run" 8 2 f_run) (d_events : DefOk P w K mg base (L2.CX P w) "events" 8 2 f_events) (d_run_out : DefOk P w K mg base (L2.CX P w) "run_out" 9 2 f_run_out) : DefOk P w K mg base CX0 "_law_told" 10 3 f_law_told :=
  A.ok sc_law_told rfl (by decide) fun f cdv A outer s H E ah hr => by
    exact (pfss_one (pfs_try1 3 sc_law_told.nd T.x_NoWeaving (fun W pn xe tk hp => (pfws_consK (pfk_ifret (pft_cmp (op_eqD (hu64 hr)) os_eq (pf_v 0) pf_int (nomark _)) (pf_tup (pfa_cons pf_str (pfa_cons (pf_callX tk d_run (hr.mono (by decide)) (pfa_cons (pf_v 1) (pfa_cons (pf_v 2) pfa_nil))) pfa_nil)))) (pfws_consK (pfk_ifret (pft_cmp (op_eqD (hu64 hr)) os_eq (pf_v 0) pf_int (nomark _)) (pf_tup (pfa_cons pf_str (pfa_cons (pf_callX tk d_events (hr.mono (by decide)) (pfa_cons (pf_v 1) (pfa_cons (pf_v 2) pfa_nil))) pfa_nil)))) (pfws_one (pfw_ret (pf_tup (pfa_cons pf_str (pfa_cons (pf_callX tk d_run_out (hr.mono (by decide)) (pfa_cons (pf_v 1) (pfa_cons (pf_v 2) pfa_nil))) pfa_nil))))))))))
abbrev s_law_is_within : Stmt := top 76
theorem sc_law_is_within : FnScope ["thing", "least", "most"] ["thing", "least", "most"] (defScope s_law_is_within) := ⟨rfl, rfl, rfl, by decide +kernel, rfl, by decide +kernel, by decide +kernel⟩
noncomputable def b_law_is_within : FS := (sRet (cAndV (cFn 1 f_law_is_integer (cC (cV 0) cN)) (cAndV (cOp leD (cV 1) (cV 0)) (cOp leD (cV 0) (cV 2)))))
noncomputable def f_law_is_within : List D → Gh → M D := fun ds g => noX (fnOf 3 b_law_is_within ds g)
theorem d_law_is_within {P : Program} {w : World} {K : PySem.W.Frag} {mg : Str → Option Value} {base : Heap} (T : Txt P w K mg base) (A : DefAt K mg "_law_is_within" s_law_is_within ["thing", "least", "most"]) (d_law_is_integer : DefOk P w K mg base CX0 "_law_is_integer" 1 1 f_law_is_integer) : DefOk P w K mg base CX0 "_law_is_within" 2 3 f_law_is_within :=
  A.ok sc_law_is_within rfl (by decide) fun f cdv A outer s H E ah hr => by
    exact (pfss_one (pfs_ret (pf_and (pf_call d_law_is_integer (hr.mono (by decide)) (pfa_cons (pf_v 0) pfa_nil)) (pf_and (pf_cmp op_le os_le (pf_v 1) (pf_v 0) (nomark _)) (pf_one (pf_cmp op_le os_le (pf_v 0) (pf_v 2) (nomark _)))))))
abbrev s_law_first_bad : Stmt := top 87
theorem sc_law_first_bad : FnScope ["play", "many", "weaving", "standing", "k"] ["play", "many", "weaving"] (defScope s_law_first_bad) := ⟨rfl, rfl, rfl, by decide +kernel, rfl, by decide +kernel, by decide +kernel⟩
noncomputable def b_law_first_bad : FS := (sSeq (sIf (cAnd (cNot (cT (cIs "list" (cV 2)))) (cNot (cT (cIs "tuple" (cV 2))))) (sRet (c1 negD (cD (.int 1)))) sNx) (sSeq (sAsg (cFn 1 f_first_standing (cC (cV 0) cN)) (gN 3)) (sSeq (sFor (iR1 (cC (cCall lenD (cC (cV 2) cN)) cN)) (gN 4) (sSeq (sIf (cOr (cNot (cT (cFn 3 f_law_is_within (cC (cOp ixD (cV 2) (cV 4)) (cC (cD (.int 0)) (cC (cOp subD (cV 1) (cD (.int 1))) cN)))))) (cT (cOp inD (cOp ixD (cV 2) (cV 4)) (cFn 1 f_law_over (cC (cV 3) cN))))) (sRet (cV 4)) sNx) (sAsg (cFn 3 f_step (cC (cV 0) (cC (cV 3) (cC (cOp ixD (cV 2) (cV 4)) cN)))) (gN 3)))) (sRet (cD .non)))))
noncomputable def f_law_first_bad : List D → Gh → M D := fun ds g => noX (fnOf 5 b_law_first_bad ds g)
theorem d_law_first_bad {P : Program} {w : World} {K : PySem.W.Frag} {mg : Str → Option Value} {base : Heap} (T : Txt P w K mg base) (A : DefAt K mg "_law_first_bad" s_law_first_bad ["play", "many", "weaving"]) (d_first_standing : DefOk P w K mg base CX0 "first_standing" 4 1 f_first_standing) (d_law_is_within : DefOk P w K mg base CX0 "_law_is_within" 2 3 f_law_is_within) (d_law_over : DefOk P w K mg base CX0 "_law_over" 1 1 f_law_over) (d_step : DefOk P w K mg base CX0 "step" 7 3 f_step) : DefOk P w K mg base CX0 "_law_first_bad" 8 3 f_law_first_bad :=
  A.ok sc_law_first_bad rfl (by decide) fun f cdv A outer s H E ah hr => by
    exact (pfss_cons (pfs_if (pft_w (pfw_and (pft_not (pft_val (pf_is (t := "list") (by simp) T.play T.b_isinstance T.b_list (by decide +kernel) (pf_v 2)))) (pfw_and1 (pft_not (pft_val (pf_is (t := "tuple") (by simp) T.play T.b_isinstance T.b_tuple (by decide +kernel) (pf_v 2))))))) (pfss_one (pfs_ret (pf_neg pf_int))) pfss_nil) (pfss_cons (pfs_set 3 sc_law_first_bad.nd (pf_call d_first_standing (hr.mono (by decide)) (pfa_cons (pf_v 0) pfa_nil))) (pfss_cons (pfs_for PassesOwn.never rfl (pfi_rng1 T.b_range (pfa_cons (pf_len T.b_len (pfa_cons (pf_v 2) pfa_nil)) pfa_nil)) (pfg_n 4 sc_law_first_bad.nd) (pfss_cons (pfs_if (pft_w (pfw_or (pft_not (pft_val (pf_call d_law_is_within (hr.mono (by decide)) (pfa_cons (pf_ix ix_D os_ix (pf_v 2) (pf_v 4) (fun _ _ => rfl)) (pfa_cons pf_int (pfa_cons (pf_bin op_sub os_sub (pf_v 1) pf_int) pfa_nil)))))) (pfw_or1 (pft_cmp op_in_seq os_in (pf_ix ix_D os_ix (pf_v 2) (pf_v 4) (fun _ _ => rfl)) (pf_call d_law_over (hr.mono (by decide)) (pfa_cons (pf_v 3) pfa_nil)) rfl)))) (pfss_one (pfs_ret (pf_v 4))) pfss_nil) (pfss_one (pfs_set 3 sc_law_first_bad.nd (pf_call d_step (hr.mono (by decide)) (pfa_cons (pf_v 0) (pfa_cons (pf_v 3) (pfa_cons (pf_ix ix_D os_ix (pf_v 2) (pf_v 4) (fun _ _ => rfl)) pfa_nil)))))))) (pfss_one (pfs_ret pf_non)))))
abbrev s_is_word_of : Stmt := top 28
theorem sc_is_word_of : FnScope ["words", "thing"] ["words", "thing"] (defScope s_is_word_of) := ⟨rfl, rfl, rfl, by decide +kernel, rfl, by decide +kernel, by decide +kernel⟩
noncomputable def b_is_word_of : FS := (sRet (cAndV (cIs "str" (cV 1)) (cOp inD (cV 1) (cV 0))))
noncomputable def f_is_word_of : List D → Gh → M D := fun ds g => noX (fnOf 2 b_is_word_of ds g)
theorem d_is_word_of {P : Program} {w : World} {K : PySem.W.Frag} {mg : Str → Option Value} {base : Heap} (T : Txt P w K mg base) (A : DefAt K mg "is_word_of" s_is_word_of ["words", "thing"])  : DefOk P w K mg base CX0 "is_word_of" 1 2 f_is_word_of :=
  A.ok sc_is_word_of rfl (by decide) fun f cdv A outer s H E ah hr => by
    exact (pfss_one (pfs_ret (pf_and (pf_is (t := "str") (by simp) T.play T.b_isinstance T.b_str (by decide +kernel) (pf_v 1)) (pf_one (pf_cmp op_in_seq os_in (pf_v 1) (pf_v 0) rfl)))))
abbrev s_is_lot_below : Stmt := top 29
theorem sc_is_lot_below : FnScope ["limit", "thing", "item", "one", "other"] ["limit", "thing"] (defScope s_is_lot_below) := ⟨rfl, rfl, rfl, by decide +kernel, rfl, by decide +kernel, by decide +kernel⟩
noncomputable def b_is_lot_below : FS := (sSeq (sIf (cNot (cT (cIs "tuple" (cV 1)))) (sRet (cD (.bl false))) sNx) (sSeq (sIf (cNot (cT (cCall allD (cC (cLc (iS (cV 1)) [2] (gN 2) tY (cFn 2 f_is_number_below (cC (cV 0) (cC (cV 2) cN)))) cN)))) (sRet (cD (.bl false))) sNx) (sRet (cCall allD (cC (cLc (iZ (cC (cV 1) (cC (cSl (cV 1) (oS (cD (.int 1))) oN) cN))) [3, 4] (gT 2 (gsC (gN 3) (gsC (gN 4) gsN))) tY (cOp ltD (cV 3) (cV 4))) cN)))))
noncomputable def f_is_lot_below : List D → Gh → M D := fun ds g => noX (fnOf 5 b_is_lot_below ds g)
theorem d_is_lot_below {P : Program} {w : World} {K : PySem.W.Frag} {mg : Str → Option Value} {base : Heap} (T : Txt P w K mg base) (A : DefAt K mg "is_lot_below" s_is_lot_below ["limit", "thing"]) (d_is_number_below : DefOk P w K mg base CX0 "is_number_below" 3 2 f_is_number_below) : DefOk P w K mg base CX0 "is_lot_below" 4 2 f_is_lot_below :=
  A.ok sc_is_lot_below rfl (by decide) fun f cdv A outer s H E ah hr => by
    exact (pfss_cons (pfs_if (pft_not (pft_val (pf_is (t := "tuple") (by simp) T.play T.b_isinstance T.b_tuple (by decide +kernel) (pf_v 1)))) (pfss_one (pfs_ret pf_bl)) pfss_nil) (pfss_cons (pfs_if (pft_not (pft_val (pf_callB (cr_all rfl) cs_all T.b_all (by decide +kernel) (pfa_cons (pf_lc [("item", 2)] sc_is_lot_below.nd (pfi_seq (pf_v 1)) (fun _ => (pfg_n 2 sc_is_lot_below.nd)) (fun _ => pfts_nil) (fun _ => (pf_call d_is_number_below (hr.mono (by decide)) (pfa_cons (pf_v 0) (pfa_cons (pf_v 2) pfa_nil)))) (blkOk_by (N := ["limit", "thing", "item", "one", "other"]) (sc := defScope s_is_lot_below) (by decide +kernel))) pfa_nil)))) (pfss_one (pfs_ret pf_bl)) pfss_nil) (pfss_one (pfs_ret (pf_callB (cr_all rfl) cs_all T.b_all (by decide +kernel) (pfa_cons (pf_lc [("one", 3), ("other", 4)] sc_is_lot_below.nd (pfi_zip T.b_zip (pfa_cons (pf_v 1) (pfa_cons (pf_sl (pf_v 1) (pfo_some pf_int) pfo_none) pfa_nil))) (fun _ => (pfg_tup rfl (pfgs_cons (pfg_n 3 sc_is_lot_below.nd) (pfgs_cons (pfg_n 4 sc_is_lot_below.nd) pfgs_nil)))) (fun _ => pfts_nil) (fun _ => (pf_cmp op_lt os_lt (pf_v 3) (pf_v 4) (nomark _))) (blkOk_by (N := ["limit", "thing", "item", "one", "other"]) (sc := defScope s_is_lot_below) (by decide +kernel))) pfa_nil))))))
abbrev s_is_row_of_hands : Stmt := top 42
theorem sc_is_row_of_hands : FnScope ["thing"] ["thing"] (defScope s_is_row_of_hands) := ⟨rfl, rfl, rfl, by decide +kernel, rfl, by decide +kernel, by decide +kernel⟩
noncomputable def b_is_row_of_hands : FS := (sRet (cAndV (cIs "tuple" (cV 0)) (cChain leD leD (cD (.int 1)) (cCall lenD (cC (cV 0) cN)) (cD k_MOST_HANDS))))
noncomputable def f_is_row_of_hands : List D → Gh → M D := fun ds g => noX (fnOf 1 b_is_row_of_hands ds g)
theorem d_is_row_of_hands {P : Program} {w : World} {K : PySem.W.Frag} {mg : Str → Option Value} {base : Heap} (T : Txt P w K mg base) (A : DefAt K mg "is_row_of_hands" s_is_row_of_hands ["thing"])  : DefOk P w K mg base CX0 "is_row_of_hands" 1 1 f_is_row_of_hands :=
  A.ok sc_is_row_of_hands rfl (by decide) fun f cdv A outer s H E ah hr => by
    exact (pfss_one (pfs_ret (pf_and (pf_is (t := "tuple") (by simp) T.play T.b_isinstance T.b_tuple (by decide +kernel) (pf_v 0)) (pf_one (pf_chain op_le op_le fs_int os_le pf_int (pf_len T.b_len (pfa_cons (pf_v 0) pfa_nil)) (pf_const T.c_MOST_HANDS))))))
abbrev s_is_near : Stmt := top 43
theorem sc_is_near : FnScope ["thing", "rounds", "values", "value"] ["thing"] (defScope s_is_near) := ⟨rfl, rfl, rfl, by decide +kernel, rfl, by decide +kernel, by decide +kernel⟩
noncomputable def b_is_near : FS := (sSeq (sIf (cOr (cNot (cT (cIs "tuple" (cV 0)))) (cT (cOp neD (cCall lenD (cC (cV 0) cN)) (cD (.int 2))))) (sRet (cD (.bl false))) sNx) (sSeq (sAsg (cV 0) (gT 2 (gsC (gN 1) (gsC (gN 2) gsN)))) (sSeq (sIf (cOr (cNot (cT (cFn 3 f_is_whole_within (cC (cD (.int 1)) (cC (cD k_MOST_ROUNDS) (cC (cV 1) cN)))))) (cNot (cT (cFn 1 f_is_row_of_hands (cC (cV 2) cN))))) (sRet (cD (.bl false))) sNx) (sRet (cCall allD (cC (cLc (iS (cV 2)) [3] (gN 3) tY (cFn 3 f_is_whole_within (cC (c1 negD (cD k_NEAR_MOST)) (cC (cD k_NEAR_MOST) (cC (cV 3) cN))))) cN))))))
noncomputable def f_is_near : List D → Gh → M D := fun ds g => noX (fnOf 4 b_is_near ds g)
theorem d_is_near {P : Program} {w : World} {K : PySem.W.Frag} {mg : Str → Option Value} {base : Heap} (T : Txt P w K mg base) (A : DefAt K mg "is_near" s_is_near ["thing"]) (d_is_whole_within : DefOk P w K mg base CX0 "is_whole_within" 2 3 f_is_whole_within) (d_is_row_of_hands : DefOk P w K mg base CX0 "is_row_of_hands" 1 1 f_is_row_of_hands) : DefOk P w K mg base CX0 "is_near" 3 1 f_is_near :=
  A.ok sc_is_near rfl (by decide) fun f cdv A outer s H E ah hr => by
    exact (pfss_cons (pfs_if (pft_w (pfw_or (pft_not (pft_val (pf_is (t := "tuple") (by simp) T.play T.b_isinstance T.b_tuple (by decide +kernel) (pf_v 0)))) (pfw_or1 (pft_cmp (op_neD (hu64 hr)) os_ne (pf_len T.b_len (pfa_cons (pf_v 0) pfa_nil)) pf_int (nomark _))))) (pfss_one (pfs_ret pf_bl)) pfss_nil) (pfss_cons (pfs_asg (pf_v 0) (pfg_tup rfl (pfgs_cons (pfg_n 1 sc_is_near.nd) (pfgs_cons (pfg_n 2 sc_is_near.nd) pfgs_nil)))) (pfss_cons (pfs_if (pft_w (pfw_or (pft_not (pft_val (pf_call d_is_whole_within (hr.mono (by decide)) (pfa_cons pf_int (pfa_cons (pf_const T.c_MOST_ROUNDS) (pfa_cons (pf_v 1) pfa_nil)))))) (pfw_or1 (pft_not (pft_val (pf_call d_is_row_of_hands (hr.mono (by decide)) (pfa_cons (pf_v 2) pfa_nil))))))) (pfss_one (pfs_ret pf_bl)) pfss_nil) (pfss_one (pfs_ret (pf_callB (cr_all rfl) cs_all T.b_all (by decide +kernel) (pfa_cons (pf_lc [("value", 3)] sc_is_near.nd (pfi_seq (pf_v 2)) (fun _ => (pfg_n 3 sc_is_near.nd)) (fun _ => pfts_nil) (fun _ => (pf_call d_is_whole_within (hr.mono (by decide)) (pfa_cons (pf_neg (pf_const T.c_NEAR_MOST)) (pfa_cons (pf_const T.c_NEAR_MOST) (pfa_cons (pf_v 3) pfa_nil))))) (blkOk_by (N := ["thing", "rounds", "values", "value"]) (sc := defScope s_is_near) (by decide +kernel))) pfa_nil)))))))
abbrev s_is_deed : Stmt := top 45
theorem sc_is_deed : FnScope ["thing"] ["thing"] (defScope s_is_deed) := ⟨rfl, rfl, rfl, by decide +kernel, rfl, by decide +kernel, by decide +kernel⟩
noncomputable def b_is_deed : FS := (sSeq (sIf (cNot (cT (cIs "tuple" (cV 0)))) (sRet (cD (.bl false))) sNx) (sSeq (sIf (cT (cOp eqD (cCall lenD (cC (cV 0) cN)) (cD (.int 1)))) (sRet (cFn 2 f_is_word_of (cC (cTup (cC (cD (.str "see")) cN)) (cC (cOp ixD (cV 0) (cD (.int 0))) cN)))) sNx) (sRet (cAndV (cOp eqD (cCall lenD (cC (cV 0) cN)) (cD (.int 2))) (cAndV (cFn 2 f_is_word_of (cC (cTup (cC (cD (.str "put")) cN)) (cC (cOp ixD (cV 0) (cD (.int 0))) cN))) (cFn 2 f_is_number_below (cC (cD k_NUMBER_LIMIT) (cC (cOp ixD (cV 0) (cD (.int 1))) cN))))))))
noncomputable def f_is_deed : List D → Gh → M D := fun ds g => noX (fnOf 1 b_is_deed ds g)
theorem d_is_deed {P : Program} {w : World} {K : PySem.W.Frag} {mg : Str → Option Value} {base : Heap} (T : Txt P w K mg base) (A : DefAt K mg "is_deed" s_is_deed ["thing"]) (d_is_word_of : DefOk P w K mg base CX0 "is_word_of" 1 2 f_is_word_of) (d_is_number_below : DefOk P w K mg base CX0 "is_number_below" 3 2 f_is_number_below) : DefOk P w K mg base CX0 "is_deed" 4 1 f_is_deed :=
  A.ok sc_is_deed rfl (by decide) fun f cdv A outer s H E ah hr => by
    exact (pfss_cons (pfs_if (pft_not (pft_val (pf_is (t := "tuple") (by simp) T.play T.b_isinstance T.b_tuple (by decide +kernel) (pf_v 0)))) (pfss_one (pfs_ret pf_bl)) pfss_nil) (pfss_cons (pfs_if (pft_cmp (op_eqD (hu64 hr)) os_eq (pf_len T.b_len (pfa_cons (pf_v 0) pfa_nil)) pf_int (nomark _)) (pfss_one (pfs_ret (pf_call d_is_word_of (hr.mono (by decide)) (pfa_cons (pf_tup (pfa_cons pf_str pfa_nil)) (pfa_cons (pf_ix ix_D os_ix (pf_v 0) pf_int (fun _ _ => rfl)) pfa_nil))))) pfss_nil) (pfss_one (pfs_ret (pf_and (pf_cmp (op_eqD (hu64 hr)) os_eq (pf_len T.b_len (pfa_cons (pf_v 0) pfa_nil)) pf_int (nomark _)) (pf_and (pf_call d_is_word_of (hr.mono (by decide)) (pfa_cons (pf_tup (pfa_cons pf_str pfa_nil)) (pfa_cons (pf_ix ix_D os_ix (pf_v 0) pf_int (fun _ _ => rfl)) pfa_nil))) (pf_one (pf_call d_is_number_below (hr.mono (by decide)) (pfa_cons (pf_const T.c_NUMBER_LIMIT) (pfa_cons (pf_ix ix_D os_ix (pf_v 0) pf_int (fun _ _ => rfl)) pfa_nil))))))))))
abbrev s_is_script : Stmt := top 44
theorem sc_is_script : FnScope ["thing", "item"] ["thing"] (defScope s_is_script) := ⟨rfl, rfl, rfl, by decide +kernel, rfl, by decide +kernel, by decide +kernel⟩
noncomputable def b_is_script : FS := (sSeq (sIf (cOr (cNot (cT (cIs "tuple" (cV 0)))) (cT (cOp gtD (cCall lenD (cC (cV 0) cN)) (cD k_MOST_DEEDS)))) (sRet (cD (.bl false))) sNx) (sRet (cCall allD (cC (cLc (iS (cV 0)) [1] (gN 1) tY (cFn 1 f_is_deed (cC (cV 1) cN))) cN))))
noncomputable def f_is_script : List D → Gh → M D := fun ds g => noX (fnOf 2 b_is_script ds g)
theorem d_is_script {P : Program} {w : World} {K : PySem.W.Frag} {mg : Str → Option Value} {base : Heap} (T : Txt P w K mg base) (A : DefAt K mg "is_script" s_is_script ["thing"]) (d_is_deed : DefOk P w K mg base CX0 "is_deed" 4 1 f_is_deed) : DefOk P w K mg base CX0 "is_script" 5 1 f_is_script :=
  A.ok sc_is_script rfl (by decide) fun f cdv A outer s H E ah hr => by
    exact (pfss_cons (pfs_if (pft_w (pfw_or (pft_not (pft_val (pf_is (t := "tuple") (by simp) T.play T.b_isinstance T.b_tuple (by decide +kernel) (pf_v 0)))) (pfw_or1 (pft_cmp op_gt os_gt (pf_len T.b_len (pfa_cons (pf_v 0) pfa_nil)) (pf_const T.c_MOST_DEEDS) (nomark _))))) (pfss_one (pfs_ret pf_bl)) pfss_nil) (pfss_one (pfs_ret (pf_callB (cr_all rfl) cs_all T.b_all (by decide +kernel) (pfa_cons (pf_lc [("item", 1)] sc_is_script.nd (pfi_seq (pf_v 0)) (fun _ => (pfg_n 1 sc_is_script.nd)) (fun _ => pfts_nil) (fun _ => (pf_call d_is_deed (hr.mono (by decide)) (pfa_cons (pf_v 1) pfa_nil))) (blkOk_by (N := ["thing", "item"]) (sc := defScope s_is_script) (by decide +kernel))) pfa_nil)))))
abbrev s_is_inputs : Stmt := top 41
theorem sc_is_inputs : FnScope ["kind", "thing", "item"] ["kind", "thing"] (defScope s_is_inputs) := ⟨rfl, rfl, rfl, by decide +kernel, rfl, by decide +kernel, by decide +kernel⟩
noncomputable def b_is_inputs : FS := (sSeq (sIf (cT (cOp eqD (cV 0) (cD (.str "near")))) (sRet (cFn 1 f_is_near (cC (cV 1) cN))) sNx) (sSeq (sIf (cNot (cT (cFn 1 f_is_row_of_hands (cC (cV 1) cN)))) (sRet (cD (.bl false))) sNx) (sSeq (sIf (cT (cOp inD (cV 0) (cD k_MANNERS))) (sRet (cCall allD (cC (cLc (iS (cV 1)) [2] (gN 2) tY (cFn 1 f_is_script (cC (cV 2) cN))) cN))) sNx) (sSeq (sIf (cT (cOp eqD (cV 0) (cD (.str "chain")))) (sRet (cCall allD (cC (cLc (iS (cV 1)) [2] (gN 2) tY (cFn 2 f_is_lot_below (cC (cD k_LOT_LIMIT) (cC (cV 2) cN)))) cN))) sNx) (sSeq (sIf (cNot (cT (cCall allD (cC (cLc (iS (cV 1)) [2] (gN 2) tY (cFn 2 f_is_number_below (cC (cD k_NUMBER_LIMIT) (cC (cV 2) cN)))) cN)))) (sRet (cD (.bl false))) sNx) (sRet (cOrV (cOp eqD (cV 0) (cD (.str "levels"))) (cOp eqD (c1 lenSetD (cV 1)) (cCall lenD (cC (cV 1) cN))))))))))
noncomputable def f_is_inputs : List D → Gh → M D := fun ds g => noX (fnOf 3 b_is_inputs ds g)
theorem d_is_inputs {P : Program} {w : World} {K : PySem.W.Frag} {mg : Str → Option Value} {base : Heap} (T : Txt P w K mg base) (A : DefAt K mg "is_inputs" s_is_inputs ["kind", "thing"]) (d_is_near : DefOk P w K mg base CX0 "is_near" 3 1 f_is_near) (d_is_row_of_hands : DefOk P w K mg base CX0 "is_row_of_hands" 1 1 f_is_row_of_hands) (d_is_script : DefOk P w K mg base CX0 "is_script" 5 1 f_is_script) (d_is_lot_below : DefOk P w K mg base CX0 "is_lot_below" 4 2 f_is_lot_below) (d_is_number_below : DefOk P w K mg base CX0 "is_number_below" 3 2 f_is_number_below) : DefOk P w K mg base CX0 "is_inputs" 6 2 f_is_inputs :=
  A.ok sc_is_inputs rfl (by decide) fun f cdv A outer s H E ah hr => by
    exact (pfss_cons (pfs_if (pft_cmp (op_eqD (hu64 hr)) os_eq (pf_v 0) pf_str (nomark _)) (pfss_one (pfs_ret (pf_call d_is_near (hr.mono (by decide)) (pfa_cons (pf_v 1) pfa_nil)))) pfss_nil) (pfss_cons (pfs_if (pft_not (pft_val (pf_call d_is_row_of_hands (hr.mono (by decide)) (pfa_cons (pf_v 1) pfa_nil)))) (pfss_one (pfs_ret pf_bl)) pfss_nil) (pfss_cons (pfs_if (pft_cmp op_in_seq os_in (pf_v 0) (pf_const T.c_MANNERS) rfl) (pfss_one (pfs_ret (pf_callB (cr_all rfl) cs_all T.b_all (by decide +kernel) (pfa_cons (pf_lc [("item", 2)] sc_is_inputs.nd (pfi_seq (pf_v 1)) (fun _ => (pfg_n 2 sc_is_inputs.nd)) (fun _ => pfts_nil) (fun _ => (pf_call d_is_script (hr.mono (by decide)) (pfa_cons (pf_v 2) pfa_nil))) (blkOk_by (N := ["kind", "thing", "item"]) (sc := defScope s_is_inputs) (by decide +kernel))) pfa_nil)))) pfss_nil) (pfss_cons (pfs_if (pft_cmp (op_eqD (hu64 hr)) os_eq (pf_v 0) pf_str (nomark _)) (pfss_one (pfs_ret (pf_callB (cr_all rfl) cs_all T.b_all (by decide +kernel) (pfa_cons (pf_lc [("item", 2)] sc_is_inputs.nd (pfi_seq (pf_v 1)) (fun _ => (pfg_n 2 sc_is_inputs.nd)) (fun _ => pfts_nil) (fun _ => (pf_call d_is_lot_below (hr.mono (by decide)) (pfa_cons (pf_const T.c_LOT_LIMIT) (pfa_cons (pf_v 2) pfa_nil)))) (blkOk_by (N := ["kind", "thing", "item"]) (sc := defScope s_is_inputs) (by decide +kernel))) pfa_nil)))) pfss_nil) (pfss_cons (pfs_if (pft_not (pft_val (pf_callB (cr_all rfl) cs_all T.b_all (by decide +kernel) (pfa_cons (pf_lc [("item", 2)] sc_is_inputs.nd (pfi_seq (pf_v 1)) (fun _ => (pfg_n 2 sc_is_inputs.nd)) (fun _ => pfts_nil) (fun _ => (pf_call d_is_number_below (hr.mono (by decide)) (pfa_cons (pf_const T.c_NUMBER_LIMIT) (pfa_cons (pf_v 2) pfa_nil)))) (blkOk_by (N := ["kind", "thing", "item"]) (sc := defScope s_is_inputs) (by decide +kernel))) pfa_nil)))) (pfss_one (pfs_ret pf_bl)) pfss_nil) (pfss_one (pfs_ret (pf_or (pf_cmp (op_eqD (hu64 hr)) os_eq (pf_v 0) pf_str (nomark _)) (pf_one (pf_cmp (op_eqD (hu64 hr)) os_eq (pf_lenSet T.b_len T.b_set (pf_v 1)) (pf_len T.b_len (pfa_cons (pf_v 1) pfa_nil)) (nomark _)))))))))))
abbrev s_Play_init : Stmt := inClass (top 39) 0
theorem sc_Play_init : FnScope ["self", "kind", "inputs"] ["self", "kind", "inputs"] (defScope s_Play_init) := ⟨rfl, rfl, rfl, by decide +kernel, rfl, by decide +kernel, by decide +kernel⟩
noncomputable def f_Play : List D → Gh → M D := mkF2 "Play" "kind" "inputs" (cNot (cT (cFn 2 f_is_word_of (cC (cD k_KINDS) (cC (cV 1) cN))))) (sRaise "BadPlay" "part" (cD (.str "kind"))) (cNot (cT (cFn 2 f_is_inputs (cC (cV 1) (cC (cV 2) cN))))) (sRaise "BadPlay" "part" (cD (.str "inputs"))) 3
theorem d_MK {P : Program} {w : World} {K : PySem.W.Frag} {mg : Str → Option Value} {base : Heap} (T : Txt P w K mg base) {C f : Addr} {fd : FuncData} (F : Fun K "__init__" "Play.__init__" s_Play_init f fd) (hm : mg "Play" = some (.ref C)) (M : Mk K C f) (hb : Binds K fd ["self", "kind", "inputs"] []) (d_is_word_of : DefOk P w K mg base CX0 "is_word_of" 1 2 f_is_word_of) (d_is_inputs : DefOk P w K mg base CX0 "is_inputs" 6 2 f_is_inputs) : MkOk P w K mg base "Play" 7 2 f_Play := by
  refine ⟨C, f, fd, _, mk_ok2 F sc_Play_init rfl (T.play C hm).cl (T.play_kind C hm) (T.play_inputs C hm) (by decide +kernel) hm rfl rfl rfl rfl (by decide) (by decide) (by decide) (by decide) (fun cdv A outer s H E ah hr => ⟨?_, ?_, ?_, ?_⟩), hm, M, hb⟩
  · exact (pft_not (pft_val (pf_call d_is_word_of (hr.mono (by decide)) (pfa_cons (pf_const T.c_KINDS) (pfa_cons (pf_v 1) pfa_nil)))))
  · exact (pfs_raise rfl (takes_of rfl rfl rfl rfl) T.x_BadPlay (hr.mono (by decide)) pf_str)
  · exact (pft_not (pft_val (pf_call d_is_inputs (hr.mono (by decide)) (pfa_cons (pf_v 1) (pfa_cons (pf_v 2) pfa_nil)))))
  · exact (pfs_raise rfl (takes_of rfl rfl rfl rfl) T.x_BadPlay (hr.mono (by decide)) pf_str)
abbrev s_Play_eq : Stmt := inClass (top 39) 1
theorem sc_Play_eq : FnScope ["self", "other"] ["self", "other"] (defScope s_Play_eq) := ⟨rfl, rfl, rfl, by decide +kernel, rfl, by decide +kernel, by decide +kernel⟩
noncomputable def b_Play___eq__ : FS := (sRet (cAndV (cTyEq (cV 0) (cV 1)) (cAndV (cOp eqD (c1 (fldD "kind") (cV 0)) (c1 (fldD "kind") (cV 1))) (cOp eqD (c1 (fldD "inputs") (cV 0)) (c1 (fldD "inputs") (cV 1))))))
noncomputable def f_Play___eq__ : List D → Gh → M D := fun ds g => noX (fnOf 2 b_Play___eq__ ds g)
theorem d_EQ {P : Program} {w : World} {K : PySem.W.Frag} {mg : Str → Option Value} {base : Heap} (T : Txt P w K mg base) {C f : Addr} {fd : FuncData} (F : Fun K "__eq__" "Play.__eq__" s_Play_eq f fd) (hm : mg "Play" = some (.ref C)) (hb : Binds K fd ["self", "other"] []) (h1 : PySem.W.findIn K (.ref C) "__eq__" = some (some (.ref f))) (h2 : PySem.W.isFn K (.ref f) = true) (h3 : PySem.W.subIn K (.type "tuple") (.ref C) = some false) : EqOk P w K mg base 1 f_Play___eq__ :=
  ⟨C, f, fd, _, hm, fd_ok F sc_Play_eq rfl (by decide) (fun cdv A outer s H E ah hr => by
    exact (pfss_one (pfs_ret (pf_and (pf_tyEq T.b_type (pf_v 0) (pf_v 1)) (pf_and (pf_cmp (op_eqD (hu64 hr)) os_eq (pf_fld (fun C h => ⟨(T.play C h).cl, T.play_kind C h⟩) (pf_v 0)) (pf_fld (fun C h => ⟨(T.play C h).cl, T.play_kind C h⟩) (pf_v 1)) (nomark _)) (pf_one (pf_cmp (op_eqD (hu64 hr)) os_eq (pf_fld (fun C h => ⟨(T.play C h).cl, T.play_inputs C h⟩) (pf_v 0)) (pf_fld (fun C h => ⟨(T.play C h).cl, T.play_inputs C h⟩) (pf_v 1)) (nomark _)))))))), hb, h1, h2, h3⟩
abbrev s_law_odd : Stmt := top 78
theorem sc_law_odd : FnScope ["hand", "turn"] ["hand"] (defScope s_law_odd) := ⟨rfl, rfl, rfl, by decide +kernel, rfl, by decide +kernel, by decide +kernel⟩
noncomputable def b_law_odd : FS := (sSeq (sAsg (cFn 2 f_law_take (cC (cV 0) (cC (cD (.int 19)) cN))) (gN 1)) (sSeq (sIf (cT (cOp ltD (cV 1) (cD (.int 6)))) (sRet (cOp ixD (cLst (cC (cD .non) (cC (cD (.bl true)) (cC (cD (.bl false)) (cC (cD (.str "")) (cC (cD (.str "put")) (cC (cD (.str "0")) cN))))))) (cV 1))) sNx) (sSeq (sIf (cT (cOp ltD (cV 1) (cD (.int 12)))) (sRet (cOp ixD (cLst (cC (cTup cN) (cC (cLst cN) (cC (cD .emp) (cC (cTup (cC (cD (.int 0)) cN)) (cC (cLst (cC (cD (.int 0)) (cC (cD (.int 0)) cN))) (cC (cTup (cC (cTup cN) cN)) cN))))))) (cOp subD (cV 1) (cD (.int 6))))) sNx) (sSeq (sIf (cT (cOp eqD (cV 1) (cD (.int 18)))) (sRet (cFn 2 f_Play (cC (cD (.str "levels")) (cC (cTup (cC (cD (.int 3)) cN)) cN)))) sNx) (sRet (cOp ixD (cLst (cC (c1 negD (cD (.int 1))) (cC (cD (.int 1000)) (cC (cOp subD (cOp powD (cD (.int 10)) (cD (.int 20))) (cD (.int 1))) (cC (cTup (cC (cD (.int 0)) (cC (cD (.int 1)) cN))) (cC (cTup (cC (cD (.str "see")) cN)) (cC (cTup (cC (cTup (cC (cD (.int 0)) (cC (cD (.int 0)) cN))) cN)) cN))))))) (cOp subD (cV 1) (cD (.int 12)))))))))
noncomputable def f_law_odd : List D → Gh → M D := fun ds g => noX (fnOf 2 b_law_odd ds g)
theorem d_law_odd {P : Program} {w : World} {K : PySem.W.Frag} {mg : Str → Option Value} {base : Heap} (T : Txt P w K mg base) (A : DefAt K mg "_law_odd" s_law_odd ["hand"]) (d_law_take : DefOk P w K mg base CX0 "_law_take" 1 2 f_law_take) (d_MK : MkOk P w K mg base "Play" 7 2 f_Play) : DefOk P w K mg base CX0 "_law_odd" 9 1 f_law_odd :=
  A.ok sc_law_odd rfl (by decide) fun f cdv A outer s H E ah hr => by
    exact (pfss_cons (pfs_set 1 sc_law_odd.nd (pf_call d_law_take (hr.mono (by decide)) (pfa_cons (pf_v 0) (pfa_cons pf_int pfa_nil)))) (pfss_cons (pfs_if (pft_cmp op_lt os_lt (pf_v 1) pf_int (nomark _)) (pfss_one (pfs_ret (pf_ix ix_D os_ix (pf_lst (pfa_cons pf_non (pfa_cons pf_bl (pfa_cons pf_bl (pfa_cons pf_str (pfa_cons pf_str (pfa_cons pf_str pfa_nil))))))) (pf_v 1) (fun _ _ => rfl)))) pfss_nil) (pfss_cons (pfs_if (pft_cmp op_lt os_lt (pf_v 1) pf_int (nomark _)) (pfss_one (pfs_ret (pf_ix ix_D os_ix (pf_lst (pfa_cons (pf_tup pfa_nil) (pfa_cons (pf_lst pfa_nil) (pfa_cons pf_emp (pfa_cons (pf_tup (pfa_cons pf_int pfa_nil)) (pfa_cons (pf_lst (pfa_cons pf_int (pfa_cons pf_int pfa_nil))) (pfa_cons (pf_tup (pfa_cons (pf_tup pfa_nil) pfa_nil)) pfa_nil))))))) (pf_bin op_sub os_sub (pf_v 1) pf_int) (fun _ _ => rfl)))) pfss_nil) (pfss_cons (pfs_if (pft_cmp (op_eqD (hu64 hr)) os_eq (pf_v 1) pf_int (nomark _)) (pfss_one (pfs_ret (pf_mk d_MK (hr.mono (by decide)) (pfa_cons pf_str (pfa_cons (pf_tup (pfa_cons pf_int pfa_nil)) pfa_nil))))) pfss_nil) (pfss_one (pfs_ret (pf_ix ix_D os_ix (pf_lst (pfa_cons (pf_neg pf_int) (pfa_cons pf_int (pfa_cons (pf_bin op_sub os_sub (pf_bin op_pow os_pow pf_int pf_int) pf_int) (pfa_cons (pf_tup (pfa_cons pf_int (pfa_cons pf_int pfa_nil))) (pfa_cons (pf_tup (pfa_cons pf_str pfa_nil)) (pfa_cons (pf_tup (pfa_cons (pf_tup (pfa_cons pf_int (pfa_cons pf_int pfa_nil))) pfa_nil)) pfa_nil))))))) (pf_bin op_sub os_sub (pf_v 1) pf_int) (fun _ _ => rfl))))))))
abbrev s_law_bent : Stmt := top 88
theorem sc_law_bent : FnScope ["hand", "many", "weaving", "at", "turn"] ["hand", "many", "weaving"] (defScope s_law_bent) := ⟨rfl, rfl, rfl, by decide +kernel, rfl, by decide +kernel, by decide +kernel⟩
noncomputable def b_law_bent : FS := (sSeq (sAsg (cFn 2 f_law_take (cC (cV 0) (cC (cOp addD (cCall lenD (cC (cV 2) cN)) (cD (.int 1))) cN))) (gN 3)) (sSeq (sAsg (cFn 2 f_law_take (cC (cV 0) (cC (cD (.int 6)) cN))) (gN 4)) (sSeq (sIf (cT (cOp eqD (cV 4) (cD (.int 0)))) (sRet (cFn 2 f_law_pick (cC (cV 0) (cC (cLst (cC (cD .non) (cC (cD (.int 0)) (cC (cD (.str "0")) (cC (cD .emp) (cC (cD (.bl true)) cN)))))) cN)))) sNx) (sSeq (sIf (cT (cOp ltD (cV 4) (cD (.int 3)))) (sRet (cOp addD (cOp addD (cSl (cV 2) oN (oS (cV 3))) (cLst (cC (cFn 2 f_law_pick (cC (cV 0) (cC (cLst (cC (cV 1) (cC (c1 negD (cD (.int 1))) (cC (cD (.bl true)) (cC (cD .non) (cC (cD (.str "0")) (cC (cFn 1 f_law_odd (cC (cV 0) cN)) cN))))))) cN))) cN))) (cSl (cV 2) (oS (cV 3)) oN))) sNx) (sSeq (sIf (cT (cOp eqD (cV 4) (cD (.int 3)))) (sRet (cOp addD (cSl (cV 2) oN (oS (cV 3))) (cSl (cV 2) (oS (cOp addD (cV 3) (cD (.int 1)))) oN))) sNx) (sRet (cOp addD (cOp addD (cSl (cV 2) oN (oS (cV 3))) (cOp mulD (cLst (cC (cFn 2 f_law_take (cC (cV 0) (cC (cV 1) cN))) cN)) (cOp addD (cD (.int 1)) (cFn 2 f_law_take (cC (cV 0) (cC (cD (.int 9)) cN)))))) (cSl (cV 2) (oS (cV 3)) oN))))))))
noncomputable def f_law_bent : List D → Gh → M D := fun ds g => noX (fnOf 5 b_law_bent ds g)
theorem d_law_bent {P : Program} {w : World} {K : PySem.W.Frag} {mg : Str → Option Value} {base : Heap} (T : Txt P w K mg base) (A : DefAt K mg "_law_bent" s_law_bent ["hand", "many", "weaving"]) (d_law_take : DefOk P w K mg base CX0 "_law_take" 1 2 f_law_take) (d_law_pick : DefOk P w K mg base CX0 "_law_pick" 2 2 f_law_pick) (d_law_odd : DefOk P w K mg base CX0 "_law_odd" 9 1 f_law_odd) : DefOk P w K mg base CX0 "_law_bent" 10 3 f_law_bent :=
  A.ok sc_law_bent rfl (by decide) fun f cdv A outer s H E ah hr => by
    exact (pfss_cons (pfs_set 3 sc_law_bent.nd (pf_call d_law_take (hr.mono (by decide)) (pfa_cons (pf_v 0) (pfa_cons (pf_bin op_addD os_add (pf_len T.b_len (pfa_cons (pf_v 2) pfa_nil)) pf_int) pfa_nil)))) (pfss_cons (pfs_set 4 sc_law_bent.nd (pf_call d_law_take (hr.mono (by decide)) (pfa_cons (pf_v 0) (pfa_cons pf_int pfa_nil)))) (pfss_cons (pfs_if (pft_cmp (op_eqD (hu64 hr)) os_eq (pf_v 4) pf_int (nomark _)) (pfss_one (pfs_ret (pf_call d_law_pick (hr.mono (by decide)) (pfa_cons (pf_v 0) (pfa_cons (pf_lst (pfa_cons pf_non (pfa_cons pf_int (pfa_cons pf_str (pfa_cons pf_emp (pfa_cons pf_bl pfa_nil)))))) pfa_nil))))) pfss_nil) (pfss_cons (pfs_if (pft_cmp op_lt os_lt (pf_v 4) pf_int (nomark _)) (pfss_one (pfs_ret (pf_bin op_addD os_add (pf_bin op_addD os_add (pf_sl (pf_v 2) pfo_none (pfo_some (pf_v 3))) (pf_lst (pfa_cons (pf_call d_law_pick (hr.mono (by decide)) (pfa_cons (pf_v 0) (pfa_cons (pf_lst (pfa_cons (pf_v 1) (pfa_cons (pf_neg pf_int) (pfa_cons pf_bl (pfa_cons pf_non (pfa_cons pf_str (pfa_cons (pf_call d_law_odd (hr.mono (by decide)) (pfa_cons (pf_v 0) pfa_nil)) pfa_nil))))))) pfa_nil))) pfa_nil))) (pf_sl (pf_v 2) (pfo_some (pf_v 3)) pfo_none)))) pfss_nil) (pfss_cons (pfs_if (pft_cmp (op_eqD (hu64 hr)) os_eq (pf_v 4) pf_int (nomark _)) (pfss_one (pfs_ret (pf_bin op_addD os_add (pf_sl (pf_v 2) pfo_none (pfo_some (pf_v 3))) (pf_sl (pf_v 2) (pfo_some (pf_bin op_addD os_add (pf_v 3) pf_int)) pfo_none)))) pfss_nil) (pfss_one (pfs_ret (pf_bin op_addD os_add (pf_bin op_addD os_add (pf_sl (pf_v 2) pfo_none (pfo_some (pf_v 3))) (pf_bin op_mulD os_mul (pf_lst (pfa_cons (pf_call d_law_take (hr.mono (by decide)) (pfa_cons (pf_v 0) (pfa_cons (pf_v 1) pfa_nil))) pfa_nil)) (pf_bin op_addD os_add pf_int (pf_call d_law_take (hr.mono (by decide)) (pfa_cons (pf_v 0) (pfa_cons pf_int pfa_nil)))))) (pf_sl (pf_v 2) (pfo_some (pf_v 3)) pfo_none)))))))))
abbrev s_law_out_right : Stmt := top 89
theorem sc_law_out_right : FnScope ["play", "many", "weaving", "told", "standing", "one", "able"] ["play", "many", "weaving", "told"] (defScope s_law_out_right) := ⟨rfl, rfl, rfl, by decide +kernel, rfl, by decide +kernel, by decide +kernel⟩
noncomputable def b_law_out_right : FS := (sSeq (sIf (cOr (cNot (cT (cIs "tuple" (cV 3)))) (cT (cOp neD (cSl (cV 3) oN (oS (cCall lenD (cC (cV 2) cN)))) (cCall tupleD (cC (cV 2) cN))))) (sRet (cD (.bl false))) sNx) (sSeq (sAsg (cFn 2 f_run (cC (cV 0) (cC (cV 2) cN))) (gN 4)) (sSeq (sFor (iS (cSl (cV 3) (oS (cCall lenD (cC (cV 2) cN))) oN)) (gN 5) (sSeq (sAsg (cFn 2 f_can_step (cC (cV 0) (cC (cV 4) cN))) (gN 6)) (sSeq (sIf (cOr (cT (cOp eqD (cCall lenD (cC (cV 6) cN)) (cD (.int 0)))) (cT (cOp neD (cV 5) (cOp ixD (cV 6) (cD (.int 0)))))) (sRet (cD (.bl false))) sNx) (sAsg (cFn 3 f_step (cC (cV 0) (cC (cV 4) (cC (cV 5) cN)))) (gN 4))))) (sRet (cOp eqD (cCall lenD (cC (cFn 2 f_can_step (cC (cV 0) (cC (cV 4) cN))) cN)) (cD (.int 0)))))))
noncomputable def f_law_out_right : List D → Gh → M D := fun ds g => noX (fnOf 7 b_law_out_right ds g)
theorem d_law_out_right {P : Program} {w : World} {K : PySem.W.Frag} {mg : Str → Option Value} {base : Heap} (T : Txt P w K mg base) (A : DefAt K mg "_law_out_right" s_law_out_right ["play", "many", "weaving", "told"]) (d_run : DefOk P w K mg base (L2.CX P w) "run" 8 2 f_run) (d_can_step : DefOk P w K mg base CX0 "can_step" 1 2 f_can_step) (d_step : DefOk P w K mg base CX0 "step" 7 3 f_step) : DefOk P w K mg base CX0 "_law_out_right" 9 4 f_law_out_right :=
  A.ok sc_law_out_right rfl (by decide) fun f cdv A outer s H E ah hr => by
    exact (pfss_cons (pfs_if (pft_w (pfw_or (pft_not (pft_val (pf_is (t := "tuple") (by simp) T.play T.b_isinstance T.b_tuple (by decide +kernel) (pf_v 3)))) (pfw_or1 (pft_cmp (op_neD (hu64 hr)) os_ne (pf_sl (pf_v 3) pfo_none (pfo_some (pf_len T.b_len (pfa_cons (pf_v 2) pfa_nil)))) (pf_callTy call_tuple_of cs_tuple T.b_tuple (by decide +kernel) (pfa_cons (pf_v 2) pfa_nil)) (nomark _))))) (pfss_one (pfs_ret pf_bl)) pfss_nil) (pfss_cons (pfs_set 4 sc_law_out_right.nd (pf_callN d_run (hr.mono (by decide)) (pfa_cons (pf_v 0) (pfa_cons (pf_v 2) pfa_nil)))) (pfss_cons (pfs_for PassesOwn.never rfl (pfi_seq (pf_sl (pf_v 3) (pfo_some (pf_len T.b_len (pfa_cons (pf_v 2) pfa_nil))) pfo_none)) (pfg_n 5 sc_law_out_right.nd) (pfss_cons (pfs_set 6 sc_law_out_right.nd (pf_call d_can_step (hr.mono (by decide)) (pfa_cons (pf_v 0) (pfa_cons (pf_v 4) pfa_nil)))) (pfss_cons (pfs_if (pft_w (pfw_or (pft_cmp (op_eqD (hu64 hr)) os_eq (pf_len T.b_len (pfa_cons (pf_v 6) pfa_nil)) pf_int (nomark _)) (pfw_or1 (pft_cmp (op_neD (hu64 hr)) os_ne (pf_v 5) (pf_ix ix_D os_ix (pf_v 6) pf_int (fun _ _ => rfl)) (nomark _))))) (pfss_one (pfs_ret pf_bl)) pfss_nil) (pfss_one (pfs_set 4 sc_law_out_right.nd (pf_call d_step (hr.mono (by decide)) (pfa_cons (pf_v 0) (pfa_cons (pf_v 4) (pfa_cons (pf_v 5) pfa_nil))))))))) (pfss_one (pfs_ret (pf_cmp (op_eqD (hu64 hr)) os_eq (pf_len T.b_len (pfa_cons (pf_call d_can_step (hr.mono (by decide)) (pfa_cons (pf_v 0) (pfa_cons (pf_v 4) pfa_nil))) pfa_nil)) pf_int (nomark _)))))))
abbrev s_law : Stmt := top 90
theorem sc_law : FnScope ["script", "hand", "play", "many", "told", "k", "at", "kind", "inputs", "weaving", "standings", "bent", "bad", "which", "some", "one"] ["script"] (defScope s_law) := ⟨rfl, rfl, rfl, by decide +kernel, rfl, by decide +kernel, by decide +kernel⟩
noncomputable def b_law : FS := (sSeq (sAsg (cFn 1 f_law_some_play (cC (cV 1) cN)) (gT 2 (gsC (gN 7) (gsC (gN 8) gsN)))) (sSeq (sAsg (cFn 2 f_Play (cC (cV 7) (cC (cV 8) cN))) (gN 2)) (sSeq (sAsg (cFn 2 f_law_many (cC (cV 7) (cC (cV 8) cN))) (gN 3)) (sSeq (sAsg (cFn 4 f_law_walked (cC (cV 1) (cC (cV 2) (cC (cV 3) (cC (cFn 2 f_law_pick (cC (cV 1) (cC (cLst (cC (cD (.int 0)) (cC (cD (.int 5)) (cC (cD (.int 20)) (cC (cD (.int 60)) cN))))) cN))) cN))))) (gT 2 (gsC (gN 9) (gsC (gN 10) gsN)))) (sSeq (sAsg (cFn 2 f_events (cC (cV 2) (cC (cV 9) cN))) (gN 4)) (sSeq (sIf (cOr (cNot (cT (cIs "tuple" (cV 4)))) (cT (cOp neD (cCall lenD (cC (cV 4) cN)) (cCall lenD (cC (cV 9) cN))))) (sRet (cD (.bl false))) sNx) (sSeq (sFor (iR1 (cC (cCall lenD (cC (cV 9) cN)) cN)) (gN 5) (sSeq (sIf (cNot (cT (cFn 5 f_law_event_right (cC (cV 2) (cC (cOp ixD (cV 10) (cV 5)) (cC (cOp ixD (cV 10) (cOp addD (cV 5) (cD (.int 1)))) (cC (cOp ixD (cV 9) (cV 5)) (cC (cOp ixD (cV 4) (cV 5)) cN)))))))) (sRet (cD (.bl false))) sNx) (sIf (cNot (cT (cFn 2 f_law_same (cC (cFn 2 f_can_step (cC (cV 2) (cC (cOp ixD (cV 10) (cV 5)) cN))) (cC (cCall tupleD (cC (cLc (iR1 (cC (cV 3) cN)) [15] (gN 15) (cT (cOp notInD (cV 15) (cFn 1 f_law_over (cC (cOp ixD (cV 10) (cV 5)) cN)))) (cV 15)) cN)) cN))))) (sRet (cD (.bl false))) sNx))) (sSeq (sAsg (cFn 2 f_law_take (cC (cV 1) (cC (cOp addD (cCall lenD (cC (cV 9) cN)) (cD (.int 1))) cN))) (gN 6)) (sSeq (sIf (cOr (cNot (cT (cFn 2 f_law_same (cC (cFn 2 f_run (cC (cV 2) (cC (cV 9) cN))) (cC (cOp ixD (cV 10) (c1 negD (cD (.int 1)))) cN))))) (cNot (cT (cFn 2 f_law_same (cC (cFn 2 f_run (cC (cV 2) (cC (cCall tupleD (cC (cSl (cV 9) oN (oS (cV 6))) cN)) cN))) (cC (cOp ixD (cV 10) (cV 6)) cN)))))) (sRet (cD (.bl false))) sNx) (sSeq (sIf (cNot (cT (cFn 4 f_law_out_right (cC (cV 2) (cC (cV 3) (cC (cV 9) (cC (cFn 2 f_run_out (cC (cV 2) (cC (cCall tupleD (cC (cV 9) cN)) cN))) cN))))))) (sRet (cD (.bl false))) sNx) (sSeq (sFor (iR1 (cC (cD (.int 3)) cN)) (gN 5) (sSeq (sAsg (cFn 3 f_law_bent (cC (cV 1) (cC (cV 3) (cC (cV 9) cN)))) (gN 11)) (sSeq (sAsg (cFn 3 f_law_first_bad (cC (cV 2) (cC (cV 3) (cC (cV 11) cN)))) (gN 12)) (sFor (iR1 (cC (cD (.int 3)) cN)) (gN 13) (sSeq (sAsg (cFn 3 f_law_told (cC (cV 13) (cC (cV 2) (cC (cV 11) cN)))) (gN 14)) (sIf (cOr (cAnd (cT (cOp isND (cV 12) (cD .non))) (cT (cOp neD (cOp ixD (cV 14) (cD (.int 0))) (cD (.str "told"))))) (cAnd (cT (cOp notND (cV 12) (cD .non))) (cNot (cT (cFn 2 f_law_same (cC (cV 14) (cC (cTup (cC (cD (.str "NoWeaving")) (cC (cV 12) cN))) cN))))))) (sRet (cD (.bl false))) sNx)))))) (sRet (cD (.bl true))))))))))))))
abbrev s_law_hand : Stmt := top 72
theorem sc_law_hand : FnScope ["script"] ["script"] (defScope s_law_hand) := ⟨rfl, rfl, rfl, by decide +kernel, rfl, by decide +kernel, by decide +kernel⟩
theorem d_law {P : Program} {w : World} {K : PySem.W.Frag} {mg : Str → Option Value} {base : Heap} (T : Txt P w K mg base) {f fh : Addr} {fd fdh : FuncData} (F : Fun K "law" "law" s_law f fd) (Fh : Fun K "_law_hand" "_law_hand" s_law_hand fh fdh) (hmh : mg "_law_hand" = some (.ref fh)) (hbh : Binds K fdh ["script"] []) (hli : mg "list" = none) (d_law_some_play : DefOk P w K mg base CX0 "_law_some_play" 5 1 f_law_some_play) (d_law_many : DefOk P w K mg base CX0 "_law_many" 1 2 f_law_many) (d_law_pick : DefOk P w K mg base CX0 "_law_pick" 2 2 f_law_pick) (d_law_walked : DefOk P w K mg base CX0 "_law_walked" 8 4 f_law_walked) (d_events : DefOk P w K mg base (L2.CX P w) "events" 8 2 f_events) (d_law_event_right : DefOk P w K mg base CX0 "_law_event_right" 47 5 f_law_event_right) (d_law_over : DefOk P w K mg base CX0 "_law_over" 1 1 f_law_over) (d_can_step : DefOk P w K mg base CX0 "can_step" 1 2 f_can_step) (d_law_same : DefOk P w K mg base CX0 "_law_same" 46 2 f_law_same) (d_law_take : DefOk P w K mg base CX0 "_law_take" 1 2 f_law_take) (d_run : DefOk P w K mg base (L2.CX P w) "run" 8 2 f_run) (d_run_out : DefOk P w K mg base (L2.CX P w) "run_out" 9 2 f_run_out) (d_law_out_right : DefOk P w K mg base CX0 "_law_out_right" 9 4 f_law_out_right) (d_law_bent : DefOk P w K mg base CX0 "_law_bent" 10 3 f_law_bent) (d_law_first_bad : DefOk P w K mg base CX0 "_law_first_bad" 8 3 f_law_first_bad) (d_law_told : DefOk P w K mg base CX0 "_law_told" 10 3 f_law_told) (d_MK : MkOk P w K mg base "Play" 7 2 f_Play)
    (main : ∀ ns : List Int, ns.length ≤ 63 → ∃ g, b_law (.un :: .dt .hnd :: List.replicate 14 .un) ⟨ns, 0, 0, 1, 0⟩ = some (.ok (.rt (.bl true)) g)) : FnOk P w K mg base CX0 48 f fd ["script"] (spLaw K) := by
  refine law_ok (k := 47) F sc_law rfl (by decide) (hand_ok Fh sc_law_hand hli rfl rfl rfl (by decide) (by decide)) hmh Fh.kp hbh rfl rfl rfl (by first | exact Or.inl rfl | exact Or.inr rfl) (by decide) (by decide) (by decide) (fun cdv A outer s H E ah hr => ?_) (fun cdv A outer s H E => rfl) main
  exact (pfss_cons (pfs_asg (pf_call d_law_some_play (hr.mono (by decide)) (pfa_cons (pf_v 1) pfa_nil)) (pfg_tup rfl (pfgs_cons (pfg_n 7 sc_law.nd) (pfgs_cons (pfg_n 8 sc_law.nd) pfgs_nil)))) (pfss_cons (pfs_set 2 sc_law.nd (pf_mk d_MK (hr.mono (by decide)) (pfa_cons (pf_v 7) (pfa_cons (pf_v 8) pfa_nil)))) (pfss_cons (pfs_set 3 sc_law.nd (pf_call d_law_many (hr.mono (by decide)) (pfa_cons (pf_v 7) (pfa_cons (pf_v 8) pfa_nil)))) (pfss_cons (pfs_asg (pf_call d_law_walked (hr.mono (by decide)) (pfa_cons (pf_v 1) (pfa_cons (pf_v 2) (pfa_cons (pf_v 3) (pfa_cons (pf_call d_law_pick (hr.mono (by decide)) (pfa_cons (pf_v 1) (pfa_cons (pf_lst (pfa_cons pf_int (pfa_cons pf_int (pfa_cons pf_int (pfa_cons pf_int pfa_nil))))) pfa_nil))) pfa_nil))))) (pfg_tup rfl (pfgs_cons (pfg_n 9 sc_law.nd) (pfgs_cons (pfg_n 10 sc_law.nd) pfgs_nil)))) (pfss_cons (pfs_set 4 sc_law.nd (pf_callN d_events (hr.mono (by decide)) (pfa_cons (pf_v 2) (pfa_cons (pf_v 9) pfa_nil)))) (pfss_cons (pfs_if (pft_w (pfw_or (pft_not (pft_val (pf_is (t := "tuple") (by simp) T.play T.b_isinstance T.b_tuple (by decide +kernel) (pf_v 4)))) (pfw_or1 (pft_cmp (op_neD (hu64 hr)) os_ne (pf_len T.b_len (pfa_cons (pf_v 4) pfa_nil)) (pf_len T.b_len (pfa_cons (pf_v 9) pfa_nil)) (nomark _))))) (pfss_one (pfs_ret pf_bl)) pfss_nil) (pfss_cons (pfs_for PassesOwn.never rfl (pfi_rng1 T.b_range (pfa_cons (pf_len T.b_len (pfa_cons (pf_v 9) pfa_nil)) pfa_nil)) (pfg_n 5 sc_law.nd) (pfss_cons (pfs_if (pft_not (pft_val (pf_call d_law_event_right (hr.mono (by decide)) (pfa_cons (pf_v 2) (pfa_cons (pf_ix ix_D os_ix (pf_v 10) (pf_v 5) (fun _ _ => rfl)) (pfa_cons (pf_ix ix_D os_ix (pf_v 10) (pf_bin op_addD os_add (pf_v 5) pf_int) (fun _ _ => rfl)) (pfa_cons (pf_ix ix_D os_ix (pf_v 9) (pf_v 5) (fun _ _ => rfl)) (pfa_cons (pf_ix ix_D os_ix (pf_v 4) (pf_v 5) (fun _ _ => rfl)) pfa_nil)))))))) (pfss_one (pfs_ret pf_bl)) pfss_nil) (pfss_one (pfs_if (pft_not (pft_val (pf_call d_law_same (hr.mono (by decide)) (pfa_cons (pf_call d_can_step (hr.mono (by decide)) (pfa_cons (pf_v 2) (pfa_cons (pf_ix ix_D os_ix (pf_v 10) (pf_v 5) (fun _ _ => rfl)) pfa_nil))) (pfa_cons (pf_callTy call_tuple_of cs_tuple T.b_tuple (by decide +kernel) (pfa_cons (pf_lc [("one", 15)] sc_law.nd (pfi_rng1 T.b_range (pfa_cons (pf_v 3) pfa_nil)) (fun _ => (pfg_n 15 sc_law.nd)) (fun _ => (pfts_one (pft_cmp op_notIn_seq os_notIn (pf_v 15) (pf_call d_law_over (hr.mono (by decide)) (pfa_cons (pf_ix ix_D os_ix (pf_v 10) (pf_v 5) (fun _ _ => rfl)) pfa_nil)) rfl))) (fun _ => (pf_v 15)) (blkOk_by (N := ["script", "hand", "play", "many", "told", "k", "at", "kind", "inputs", "weaving", "standings", "bent", "bad", "which", "some", "one"]) (sc := defScope s_law) (by decide +kernel))) pfa_nil)) pfa_nil))))) (pfss_one (pfs_ret pf_bl)) pfss_nil)))) (pfss_cons (pfs_set 6 sc_law.nd (pf_call d_law_take (hr.mono (by decide)) (pfa_cons (pf_v 1) (pfa_cons (pf_bin op_addD os_add (pf_len T.b_len (pfa_cons (pf_v 9) pfa_nil)) pf_int) pfa_nil)))) (pfss_cons (pfs_if (pft_w (pfw_or (pft_not (pft_val (pf_call d_law_same (hr.mono (by decide)) (pfa_cons (pf_callN d_run (hr.mono (by decide)) (pfa_cons (pf_v 2) (pfa_cons (pf_v 9) pfa_nil))) (pfa_cons (pf_ix ix_D os_ix (pf_v 10) (pf_neg pf_int) (fun _ _ => rfl)) pfa_nil))))) (pfw_or1 (pft_not (pft_val (pf_call d_law_same (hr.mono (by decide)) (pfa_cons (pf_callN d_run (hr.mono (by decide)) (pfa_cons (pf_v 2) (pfa_cons (pf_callTy call_tuple_of cs_tuple T.b_tuple (by decide +kernel) (pfa_cons (pf_sl (pf_v 9) pfo_none (pfo_some (pf_v 6))) pfa_nil)) pfa_nil))) (pfa_cons (pf_ix ix_D os_ix (pf_v 10) (pf_v 6) (fun _ _ => rfl)) pfa_nil)))))))) (pfss_one (pfs_ret pf_bl)) pfss_nil) (pfss_cons (pfs_if (pft_not (pft_val (pf_call d_law_out_right (hr.mono (by decide)) (pfa_cons (pf_v 2) (pfa_cons (pf_v 3) (pfa_cons (pf_v 9) (pfa_cons (pf_callN d_run_out (hr.mono (by decide)) (pfa_cons (pf_v 2) (pfa_cons (pf_callTy call_tuple_of cs_tuple T.b_tuple (by decide +kernel) (pfa_cons (pf_v 9) pfa_nil)) pfa_nil))) pfa_nil))))))) (pfss_one (pfs_ret pf_bl)) pfss_nil) (pfss_cons (pfs_for PassesOwn.never rfl (pfi_rng1 T.b_range (pfa_cons pf_int pfa_nil)) (pfg_n 5 sc_law.nd) (pfss_cons (pfs_set 11 sc_law.nd (pf_call d_law_bent (hr.mono (by decide)) (pfa_cons (pf_v 1) (pfa_cons (pf_v 3) (pfa_cons (pf_v 9) pfa_nil))))) (pfss_cons (pfs_set 12 sc_law.nd (pf_call d_law_first_bad (hr.mono (by decide)) (pfa_cons (pf_v 2) (pfa_cons (pf_v 3) (pfa_cons (pf_v 11) pfa_nil))))) (pfss_one (pfs_for PassesOwn.never rfl (pfi_rng1 T.b_range (pfa_cons pf_int pfa_nil)) (pfg_n 13 sc_law.nd) (pfss_cons (pfs_set 14 sc_law.nd (pf_call d_law_told (hr.mono (by decide)) (pfa_cons (pf_v 13) (pfa_cons (pf_v 2) (pfa_cons (pf_v 11) pfa_nil))))) (pfss_one (pfs_if (pft_w (pfw_or (pft_w (pfw_and (pft_cmp op_isN os_isN (pf_v 12) pf_non (nomark _)) (pfw_and1 (pft_cmp (op_neD (hu64 hr)) os_ne (pf_ix ix_D os_ix (pf_v 14) pf_int (fun _ _ => rfl)) pf_str (nomark _))))) (pfw_or1 (pft_w (pfw_and (pft_cmp op_notN os_notN (pf_v 12) pf_non (nomark _)) (pfw_and1 (pft_not (pft_val (pf_call d_law_same (hr.mono (by decide)) (pfa_cons (pf_v 14) (pfa_cons (pf_tup (pfa_cons pf_str (pfa_cons (pf_v 12) pfa_nil))) pfa_nil))))))))))) (pfss_one (pfs_ret pf_bl)) pfss_nil)))))))) (pfss_one (pfs_ret pf_bl)))))))))))))
end Kk03
set_option Elab.async false
set_option linter.all false
set_option maxRecDepth 100000
set_option maxHeartbeats 0
namespace Kk03
open PySem PySem.Spec PyProof.Rows L2 FD
/-! ### the text of the errors -/
abbrev s_BadPlay_exc : Stmt := inClass (top 2) 0
theorem sc_BadPlay_exc : FnScope ["self", "part"] ["self", "part"] (defScope s_BadPlay_exc) := ⟨rfl, rfl, rfl, by decide +kernel, rfl, by decide +kernel, by decide +kernel⟩
abbrev s_NoWeaving_exc : Stmt := inClass (top 5) 0
theorem sc_NoWeaving_exc : FnScope ["self", "index"] ["self", "index"] (defScope s_NoWeaving_exc) := ⟨rfl, rfl, rfl, by decide +kernel, rfl, by decide +kernel, by decide +kernel⟩
abbrev s_NoHand_exc : Stmt := inClass (top 3) 0
theorem sc_NoHand_exc : FnScope ["self"] ["self"] (defScope s_NoHand_exc) := ⟨rfl, rfl, rfl, by decide +kernel, rfl, by decide +kernel, by decide +kernel⟩
abbrev s_NoStep_exc : Stmt := inClass (top 4) 0
theorem sc_NoStep_exc : FnScope ["self"] ["self"] (defScope s_NoStep_exc) := ⟨rfl, rfl, rfl, by decide +kernel, rfl, by decide +kernel, by decide +kernel⟩
/-! ### the defs, the facts -/
def D_BadPlay_init : He.DefD := ⟨("BadPlay", some "__init__"), "__init__", "BadPlay.__init__", defArgs s_BadPlay_exc, defBody s_BadPlay_exc, defScope s_BadPlay_exc, [], []⟩
def D_NoWeaving_init : He.DefD := ⟨("NoWeaving", some "__init__"), "__init__", "NoWeaving.__init__", defArgs s_NoWeaving_exc, defBody s_NoWeaving_exc, defScope s_NoWeaving_exc, [], []⟩
def D_NoHand_init : He.DefD := ⟨("NoHand", some "__init__"), "__init__", "NoHand.__init__", defArgs s_NoHand_exc, defBody s_NoHand_exc, defScope s_NoHand_exc, [], []⟩
def D_NoStep_init : He.DefD := ⟨("NoStep", some "__init__"), "__init__", "NoStep.__init__", defArgs s_NoStep_exc, defBody s_NoStep_exc, defScope s_NoStep_exc, [], []⟩
def D_can_step : He.DefD := ⟨("can_step", none), "can_step", "can_step", defArgs s_can_step, defBody s_can_step, defScope s_can_step, [], []⟩
def D_many_hands : He.DefD := ⟨("many_hands", none), "many_hands", "many_hands", defArgs s_many_hands, defBody s_many_hands, defScope s_many_hands, [], []⟩
def D_first_in_levels : He.DefD := ⟨("first_in_levels", none), "first_in_levels", "first_in_levels", defArgs s_first_in_levels, defBody s_first_in_levels, defScope s_first_in_levels, [], []⟩
def D_state_ahead : He.DefD := ⟨("state_ahead", none), "state_ahead", "state_ahead", defArgs s_state_ahead, defBody s_state_ahead, defScope s_state_ahead, [], []⟩
def D_first_in_manner : He.DefD := ⟨("first_in_manner", none), "first_in_manner", "first_in_manner", defArgs s_first_in_manner, defBody s_first_in_manner, defScope s_first_in_manner, [], []⟩
def D_first_in_seeing : He.DefD := ⟨("first_in_seeing", none), "first_in_seeing", "first_in_seeing", defArgs s_first_in_seeing, defBody s_first_in_seeing, defScope s_first_in_seeing, [], []⟩
def D_first_of_hand : He.DefD := ⟨("first_of_hand", none), "first_of_hand", "first_of_hand", defArgs s_first_of_hand, defBody s_first_of_hand, defScope s_first_of_hand, [], []⟩
def D_first_standing : He.DefD := ⟨("first_standing", none), "first_standing", "first_standing", defArgs s_first_standing, defBody s_first_standing, defScope s_first_standing, [], []⟩
def D_is_whole : He.DefD := ⟨("is_whole", none), "is_whole", "is_whole", defArgs s_is_whole, defBody s_is_whole, defScope s_is_whole, [], []⟩
def D_is_whole_within : He.DefD := ⟨("is_whole_within", none), "is_whole_within", "is_whole_within", defArgs s_is_whole_within, defBody s_is_whole_within, defScope s_is_whole_within, [], []⟩
def D_is_number_below : He.DefD := ⟨("is_number_below", none), "is_number_below", "is_number_below", defArgs s_is_number_below, defBody s_is_number_below, defScope s_is_number_below, [], []⟩
def D_is_hand : He.DefD := ⟨("is_hand", none), "is_hand", "is_hand", defArgs s_is_hand, defBody s_is_hand, defScope s_is_hand, [], []⟩
def D_those_below : He.DefD := ⟨("those_below", none), "those_below", "those_below", defArgs s_those_below, defBody s_those_below, defScope s_those_below, [], []⟩
def D_step_in_levels : He.DefD := ⟨("step_in_levels", none), "step_in_levels", "step_in_levels", defArgs s_step_in_levels, defBody s_step_in_levels, defScope s_step_in_levels, [], []⟩
def D_puts_next : He.DefD := ⟨("puts_next", none), "puts_next", "puts_next", defArgs s_puts_next, defBody s_puts_next, defScope s_puts_next, [], []⟩
def D_behind_put : He.DefD := ⟨("behind_put", none), "behind_put", "behind_put", defArgs s_behind_put, defBody s_behind_put, defScope s_behind_put, [], []⟩
def D_behind_picture : He.DefD := ⟨("behind_picture", none), "behind_picture", "behind_picture", defArgs s_behind_picture, defBody s_behind_picture, defScope s_behind_picture, [], []⟩
def D_numbers_of : He.DefD := ⟨("numbers_of", none), "numbers_of", "numbers_of", defArgs s_numbers_of, defBody s_numbers_of, defScope s_numbers_of, [], []⟩
def D_borrowed : He.DefD := ⟨("borrowed", none), "borrowed", "borrowed", defArgs s_borrowed, defBody s_borrowed, defScope s_borrowed, [], []⟩
def D_picture_of_sweep : He.DefD := ⟨("picture_of_sweep", none), "picture_of_sweep", "picture_of_sweep", defArgs s_picture_of_sweep, defBody s_picture_of_sweep, defScope s_picture_of_sweep, [], []⟩
def D_behind_look : He.DefD := ⟨("behind_look", none), "behind_look", "behind_look", defArgs s_behind_look, defBody s_behind_look, defScope s_behind_look, [], []⟩
def D_step_in_manner : He.DefD := ⟨("step_in_manner", none), "step_in_manner", "step_in_manner", defArgs s_step_in_manner, defBody s_step_in_manner, defScope s_step_in_manner, [], []⟩
def D_free_number : He.DefD := ⟨("free_number", none), "free_number", "free_number", defArgs s_free_number, defBody s_free_number, defScope s_free_number, [], []⟩
def D_step_in_names : He.DefD := ⟨("step_in_names", none), "step_in_names", "step_in_names", defArgs s_step_in_names, defBody s_step_in_names, defScope s_step_in_names, [], []⟩
def D_step_in_near : He.DefD := ⟨("step_in_near", none), "step_in_near", "step_in_near", defArgs s_step_in_near, defBody s_step_in_near, defScope s_step_in_near, [], []⟩
def D_step_in_chain : He.DefD := ⟨("step_in_chain", none), "step_in_chain", "step_in_chain", defArgs s_step_in_chain, defBody s_step_in_chain, defScope s_step_in_chain, [], []⟩
def D_step_in_seeing : He.DefD := ⟨("step_in_seeing", none), "step_in_seeing", "step_in_seeing", defArgs s_step_in_seeing, defBody s_step_in_seeing, defScope s_step_in_seeing, [], []⟩
def D_step_of_hand : He.DefD := ⟨("step_of_hand", none), "step_of_hand", "step_of_hand", defArgs s_step_of_hand, defBody s_step_of_hand, defScope s_step_of_hand, [], []⟩
def D_put_at : He.DefD := ⟨("put_at", none), "put_at", "put_at", defArgs s_put_at, defBody s_put_at, defScope s_put_at, [], []⟩
def D_standing_behind : He.DefD := ⟨("standing_behind", none), "standing_behind", "standing_behind", defArgs s_standing_behind, defBody s_standing_behind, defScope s_standing_behind, [], []⟩
def D_standings_along : He.DefD := ⟨("standings_along", none), "standings_along", "standings_along", defArgs s_standings_along, defBody s_standings_along, defScope s_standings_along, [], []⟩
def D_run : He.DefD := ⟨("run", none), "run", "run", defArgs s_run, defBody s_run, defScope s_run, [], []⟩
def D_word_in_levels : He.DefD := ⟨("word_in_levels", none), "word_in_levels", "word_in_levels", defArgs s_word_in_levels, defBody s_word_in_levels, defScope s_word_in_levels, [], []⟩
def D_word_in_manner : He.DefD := ⟨("word_in_manner", none), "word_in_manner", "word_in_manner", defArgs s_word_in_manner, defBody s_word_in_manner, defScope s_word_in_manner, [], []⟩
def D_word_in_seeing : He.DefD := ⟨("word_in_seeing", none), "word_in_seeing", "word_in_seeing", defArgs s_word_in_seeing, defBody s_word_in_seeing, defScope s_word_in_seeing, [], []⟩
def D_word_of_step : He.DefD := ⟨("word_of_step", none), "word_of_step", "word_of_step", defArgs s_word_of_step, defBody s_word_of_step, defScope s_word_of_step, [], []⟩
def D_event : He.DefD := ⟨("event", none), "event", "event", defArgs s_event, defBody s_event, defScope s_event, [], []⟩
def D_events : He.DefD := ⟨("events", none), "events", "events", defArgs s_events, defBody s_events, defScope s_events, [], []⟩
def D_run_out : He.DefD := ⟨("run_out", none), "run_out", "run_out", defArgs s_run_out, defBody s_run_out, defScope s_run_out, [], []⟩
def D_law_take : He.DefD := ⟨("_law_take", none), "_law_take", "_law_take", defArgs s_law_take, defBody s_law_take, defScope s_law_take, [], []⟩
def D_law_pick : He.DefD := ⟨("_law_pick", none), "_law_pick", "_law_pick", defArgs s_law_pick, defBody s_law_pick, defScope s_law_pick, [], []⟩
def D_law_is_integer : He.DefD := ⟨("_law_is_integer", none), "_law_is_integer", "_law_is_integer", defArgs s_law_is_integer, defBody s_law_is_integer, defScope s_law_is_integer, [], []⟩
def D_law_same : He.DefD := ⟨("_law_same", none), "_law_same", "_law_same", defArgs s_law_same, defBody s_law_same, defScope s_law_same, [], []⟩
def D_law_script : He.DefD := ⟨("_law_script", none), "_law_script", "_law_script", defArgs s_law_script, defBody s_law_script, defScope s_law_script, [], []⟩
def D_law_manner : He.DefD := ⟨("_law_manner", none), "_law_manner", "_law_manner", defArgs s_law_manner, defBody s_law_manner, defScope s_law_manner, [], []⟩
def D_law_some_play : He.DefD := ⟨("_law_some_play", none), "_law_some_play", "_law_some_play", defArgs s_law_some_play, defBody s_law_some_play, defScope s_law_some_play, [], []⟩
def D_law_many : He.DefD := ⟨("_law_many", none), "_law_many", "_law_many", defArgs s_law_many, defBody s_law_many, defScope s_law_many, [], []⟩
def D_law_over : He.DefD := ⟨("_law_over", none), "_law_over", "_law_over", defArgs s_law_over, defBody s_law_over, defScope s_law_over, [], []⟩
def D_check_turn : He.DefD := ⟨("check_turn", none), "check_turn", "check_turn", defArgs s_check_turn, defBody s_check_turn, defScope s_check_turn, [], []⟩
def D_step : He.DefD := ⟨("step", none), "step", "step", defArgs s_step, defBody s_step, defScope s_step, [], []⟩
def D_law_walked : He.DefD := ⟨("_law_walked", none), "_law_walked", "_law_walked", defArgs s_law_walked, defBody s_law_walked, defScope s_law_walked, [], []⟩
def D_next_step : He.DefD := ⟨("next_step", none), "next_step", "next_step", defArgs s_next_step, defBody s_next_step, defScope s_next_step, [], []⟩
def D_law_event_right : He.DefD := ⟨("_law_event_right", none), "_law_event_right", "_law_event_right", defArgs s_law_event_right, defBody s_law_event_right, defScope s_law_event_right, [], []⟩
def D_law_told : He.DefD := ⟨("_law_told", none), "_law_told", "_law_told", defArgs s_law_told, defBody s_law_told, defScope s_law_told, [], []⟩
def D_law_is_within : He.DefD := ⟨("_law_is_within", none), "_law_is_within", "_law_is_within", defArgs s_law_is_within, defBody s_law_is_within, defScope s_law_is_within, [], []⟩
def D_law_first_bad : He.DefD := ⟨("_law_first_bad", none), "_law_first_bad", "_law_first_bad", defArgs s_law_first_bad, defBody s_law_first_bad, defScope s_law_first_bad, [], []⟩
def D_is_word_of : He.DefD := ⟨("is_word_of", none), "is_word_of", "is_word_of", defArgs s_is_word_of, defBody s_is_word_of, defScope s_is_word_of, [], []⟩
def D_is_lot_below : He.DefD := ⟨("is_lot_below", none), "is_lot_below", "is_lot_below", defArgs s_is_lot_below, defBody s_is_lot_below, defScope s_is_lot_below, [], []⟩
def D_is_row_of_hands : He.DefD := ⟨("is_row_of_hands", none), "is_row_of_hands", "is_row_of_hands", defArgs s_is_row_of_hands, defBody s_is_row_of_hands, defScope s_is_row_of_hands, [], []⟩
def D_is_near : He.DefD := ⟨("is_near", none), "is_near", "is_near", defArgs s_is_near, defBody s_is_near, defScope s_is_near, [], []⟩
def D_is_deed : He.DefD := ⟨("is_deed", none), "is_deed", "is_deed", defArgs s_is_deed, defBody s_is_deed, defScope s_is_deed, [], []⟩
def D_is_script : He.DefD := ⟨("is_script", none), "is_script", "is_script", defArgs s_is_script, defBody s_is_script, defScope s_is_script, [], []⟩
def D_is_inputs : He.DefD := ⟨("is_inputs", none), "is_inputs", "is_inputs", defArgs s_is_inputs, defBody s_is_inputs, defScope s_is_inputs, [], []⟩
def D_MK : He.DefD := ⟨("Play", some "__init__"), "__init__", "Play.__init__", defArgs s_Play_init, defBody s_Play_init, defScope s_Play_init, [], []⟩
def D_EQ : He.DefD := ⟨("Play", some "__eq__"), "__eq__", "Play.__eq__", defArgs s_Play_eq, defBody s_Play_eq, defScope s_Play_eq, [], []⟩
def D_law_odd : He.DefD := ⟨("_law_odd", none), "_law_odd", "_law_odd", defArgs s_law_odd, defBody s_law_odd, defScope s_law_odd, [], []⟩
def D_law_bent : He.DefD := ⟨("_law_bent", none), "_law_bent", "_law_bent", defArgs s_law_bent, defBody s_law_bent, defScope s_law_bent, [], []⟩
def D_law_out_right : He.DefD := ⟨("_law_out_right", none), "_law_out_right", "_law_out_right", defArgs s_law_out_right, defBody s_law_out_right, defScope s_law_out_right, [], []⟩
def D_hand : He.DefD := ⟨("_law_hand", none), "_law_hand", "_law_hand", defArgs s_law_hand, defBody s_law_hand, defScope s_law_hand, [], []⟩
def D_law : He.DefD := ⟨("law", none), "law", "law", defArgs s_law, defBody s_law, defScope s_law, [], []⟩
def fns : List He.DefD := [D_BadPlay_init, D_NoWeaving_init, D_NoHand_init, D_NoStep_init, D_can_step, D_many_hands, D_first_in_levels, D_state_ahead, D_first_in_manner, D_first_in_seeing, D_first_of_hand, D_first_standing, D_is_whole, D_is_whole_within, D_is_number_below, D_is_hand, D_those_below, D_step_in_levels, D_puts_next, D_behind_put, D_behind_picture, D_numbers_of, D_borrowed, D_picture_of_sweep, D_behind_look, D_step_in_manner, D_free_number, D_step_in_names, D_step_in_near, D_step_in_chain, D_step_in_seeing, D_step_of_hand, D_put_at, D_standing_behind, D_standings_along, D_run, D_word_in_levels, D_word_in_manner, D_word_in_seeing, D_word_of_step, D_event, D_events, D_run_out, D_law_take, D_law_pick, D_law_is_integer, D_law_same, D_law_script, D_law_manner, D_law_some_play, D_law_many, D_law_over, D_check_turn, D_step, D_law_walked, D_next_step, D_law_event_right, D_law_told, D_law_is_within, D_law_first_bad, D_is_word_of, D_is_lot_below, D_is_row_of_hands, D_is_near, D_is_deed, D_is_script, D_is_inputs, D_MK, D_EQ, D_law_odd, D_law_bent, D_law_out_right, D_hand, D_law]
def fas : List He.Fa := [.free "all", .free "bool", .free "enumerate", .free "int", .free "isinstance", .free "len", .free "list", .free "max", .free "min", .free "range", .free "set", .free "sorted", .free "str", .free "tuple", .free "type", .free "zip", .int "LOT_LIMIT" 20, .int "MOST_DEEDS" 6, .int "MOST_HANDS" 5, .int "MOST_ROUNDS" 6, .int "NEAR_MOST" 1000, .int "NUMBER_LIMIT" 1000, .glo "Play", .cls "Play", .noat "Play" "kind", .noat "Play" "inputs", .glo "can_step", .glo "many_hands", .glo "first_in_levels", .glo "state_ahead", .glo "first_in_manner", .glo "first_in_seeing", .glo "first_of_hand", .glo "first_standing", .glo "is_whole", .glo "is_whole_within", .glo "is_number_below", .glo "is_hand", .glo "those_below", .glo "step_in_levels", .glo "puts_next", .glo "behind_put", .glo "behind_picture", .glo "numbers_of", .glo "borrowed", .glo "picture_of_sweep", .glo "behind_look", .glo "step_in_manner", .glo "free_number", .glo "step_in_names", .glo "step_in_near", .glo "step_in_chain", .glo "step_in_seeing", .glo "step_of_hand", .glo "put_at", .glo "standing_behind", .glo "standings_along", .glo "run", .glo "word_in_levels", .glo "word_in_manner", .glo "word_in_seeing", .glo "word_of_step", .glo "event", .glo "events", .glo "run_out", .glo "_law_take", .glo "_law_pick", .glo "_law_is_integer", .glo "_law_same", .glo "_law_script", .glo "_law_manner", .glo "_law_some_play", .glo "_law_many", .glo "_law_over", .glo "check_turn", .glo "step", .glo "_law_walked", .glo "next_step", .glo "_law_event_right", .glo "_law_told", .glo "_law_is_within", .glo "_law_first_bad", .glo "is_word_of", .glo "is_lot_below", .glo "is_row_of_hands", .glo "is_near", .glo "is_deed", .glo "is_script", .glo "is_inputs", .mkr "Play", .meth "Play" "__eq__", .glo "_law_odd", .glo "_law_bent", .glo "_law_out_right", .glo "_law_hand", .glo "law"]
def exs (K : PySem.W.Frag) : List Bool := [cgB K "FIRST_CELL" [(.int 0), (.int 0), .non], ctB K "KINDS" ["sweep", "twice", "borrow", "levels", "names", "near", "chain"], ctB K "MANNERS" ["sweep", "twice", "borrow"], excB K "BadPlay" "part", excB K "NoWeaving" "index", excB0 K "NoHand", excB0 K "NoStep", clsIB K "Play", decide (PySem.W.subIn K (.type "tuple") (.ref (He.ga K "Play")) = some false)]
def ex (K : PySem.W.Frag) : Bool := (exs K).all id
theorem ex_at {K : PySem.W.Frag} (i : Nat) (e : ex K = true) {b : Bool} (h : (exs K)[i]? = some b := by rfl) : b = true := List.all_eq_true.mp e b (List.mem_of_getElem? h)
abbrev R : PySem.W.OpenRow := PySem.W.OpenLaw.row PySem.Challenge.rw_onepicture_k03_whole_weavings_of_all_kin
abbrev hk : PySem.W.Hook := hookF 5 fas fns ex
def ob (s : PySem.W.SharedT) : AlF := obsF 5 fas fns ex (HandSHeadRun.getT s)
theorem ob_eq (s : PySem.W.SharedT) : ob s = hk.obs s.abs := obsF_eq (HandSHeadRun.getT_eq s)
abbrev ls0 : List Str := ["PictureError", "BadPlay", "NoHand", "NoStep", "NoWeaving", "first_in_levels", "word_in_levels", "step_in_levels", "those_below", "FIRST_CELL", "state_ahead", "first_in_manner", "word_in_manner", "puts_next", "step_in_manner", "behind_put", "behind_look", "behind_picture", "numbers_of", "picture_of_sweep", "borrowed", "is_whole", "is_whole_within", "is_number_below", "is_word_of", "is_lot_below", "MANNERS", "KINDS", "MOST_HANDS", "MOST_DEEDS"]
abbrev ls1 : List Str := ["MOST_ROUNDS", "NEAR_MOST", "NUMBER_LIMIT", "LOT_LIMIT", "Play", "many_hands", "is_inputs", "is_row_of_hands", "is_near", "is_script", "is_deed", "first_in_seeing", "word_in_seeing", "step_in_seeing", "step_in_names", "free_number", "step_in_near", "step_in_chain", "first_standing", "can_step", "step", "next_step", "run", "events", "run_out", "standings_along", "is_hand", "check_turn", "first_of_hand", "word_of_step"]
abbrev ls2 : List Str := ["standing_behind", "step_of_hand", "put_at", "event", "_law_hand", "_law_take", "_law_pick", "_law_is_integer", "_law_is_within", "_law_same", "_law_odd", "_law_script", "_law_manner", "_law_some_play", "_law_many", "_law_over", "_law_walked", "_law_event_right", "_law_told", "_law_first_bad", "_law_bent", "_law_out_right"]
abbrev ls : List Str := ls0 ++ ls1 ++ ls2
theorem runA (w : World) : HandSHeadRun.RunEq R (PySem.W.view R.prog [90]) PySem.W.Hook.none (fun _ => ()) 4000 ls w := by
  intro os
  kernel_rfl
theorem runB (w : World) (os : OsState) : (topEnd R 4000 w os).map (fun s => fas.all fun f => f.ok (topK 5 s)) = some true := by kernel_rfl
theorem runC (w : World) (os : OsState) : (topEnd R 4000 w os).map (fun s => (fns.take 40).all fun d => d.ok (topK 5 s)) = some true := by kernel_rfl
theorem runD (w : World) (os : OsState) : (topEnd R 4000 w os).map (fun s => (fns.drop 40).all fun d => d.ok (topK 5 s)) = some true := by kernel_rfl
theorem runE (w : World) (os : OsState) : (topEnd R 4000 w os).map (fun s => fns.map fun d => He.fnW (topK 5 s) d.at_) = some (fns.map He.DefD.val) := by kernel_rfl
theorem runF (w : World) (os : OsState) : (topEnd R 4000 w os).map (fun s => ex (topK 5 s)) = some true := by kernel_rfl
theorem run (w : World) : HandSHeadRun.RunEq R (PySem.W.view R.prog [90]) hk ob 4000 ls w := run_join 40 (runA w) (runB w) (runC w) (runD w) (runE w) (runF w)
end Kk03
set_option Elab.async false
set_option linter.all false
set_option maxRecDepth 100000
set_option maxHeartbeats 2000000
namespace Kk03
open PySem L2 FD
theorem fmod_lt {a b : Int} (h : 0 < b) : 0 ≤ a.fmod b ∧ a.fmod b < b := by
  rw [Int.fmod_eq_emod_of_nonneg a (by omega)]
  exact ⟨Int.emod_nonneg a (by omega), Int.emod_lt_of_pos a h⟩
theorem take_ok {g : Gh} {m : Int} (hg : HOK g) (h0 : 0 < m) (h1 : m < 1073741824) : Sat (f_law_take [.hnd, .int m] g) fun d g' => ∃ v, d = .int v ∧ 0 ≤ v ∧ v < m ∧ HOK g' := by
  have hm : m ≠ 0 := by omega
  have hm2 : m.natAbs < 1073741824 := by omega
  have big : powD (.int 10) (.int 18) = some (.int 1000000000000000000) := by
    show (if (0:Int) ≤ 18 ∧ (18:Int) ≤ 1000000 ∧ (10:Int).natAbs < 2 ^ 64 then some (D.int ((10:Int) ^ (18:Int).toNat)) else none) = _
    rw [if_pos (by decide)]
    rfl
  have m1 : ∀ a : Int, modD (.int a) (.int m) = some (.int (a.fmod m)) := fun a => modD_int hm
  have m2 : ∀ a : Int, modD (.int a) (.int 2147483647) = some (.int (a.fmod 2147483647)) := fun a => modD_int (by decide)
  have m3 : ∀ a : Int, modD (.int a) (.int 2147483399) = some (.int (a.fmod 2147483399)) := fun a => modD_int (by decide)
  have d1 : ∀ a : Int, divD (.int a) (.int m) = some (.int (a.fdiv m)) := fun a => divD_int hm hm2
  have d2 : ∀ a : Int, divD (.int a) (.int 1009) = some (.int (a.fdiv 1009)) := fun a => divD_int (by decide) (by decide)
  have d3 : ∀ a : Int, divD (.int a) (.int 2003) = some (.int (a.fdiv 2003)) := fun a => divD_int (by decide) (by decide)
  have d4 : ∀ a : Int, divD (.int a) (.int 16) = some (.int (a.fdiv 16)) := fun a => divD_int (by decide) (by decide)
  have u1 : ∀ a : Int, mulD (.int a) (.int 48271) = some (.int (a * 48271)) := fun a => mulD_int (.inr (by decide))
  have u2 : ∀ a : Int, mulD (.int a) (.int 69621) = some (.int (a * 69621)) := fun a => mulD_int (.inr (by decide))
  have u3 : ∀ a : Int, mulD (.int 7919) (.int a) = some (.int (7919 * a)) := fun a => mulD_int (.inl (by decide))
  have u4 : ∀ a b : Int, 0 ≤ a → a < 2147483647 → mulD (.int a) (.int b) = some (.int (a * b)) := fun a b h1 h2 => mulD_int (.inl ⟨by omega, by omega⟩)
  obtain ⟨xs, i, c, r, n⟩ := g
  obtain ⟨i0, r0, r1⟩ := hg
  simp only at i0 r0 r1
  have key : Sat (b_law_take [.dt .hnd, .dt (.int m), .un, .un, .un] ⟨xs, i, c, r, n⟩) fun f g' => ∃ v, f = .rt (.int v) ∧ 0 ≤ v ∧ v < m ∧ HOK g' := by
    unfold b_law_take
    refine Sat.seq (P := fun f g => f = .nx [.dt .hnd, .dt (.int m), .un, .un, .un] ∧ g = ⟨xs, i, c, r, n + 1⟩) ?_ ?_
    · simp [handD, handPut]
      exact Sat.ok ⟨rfl, rfl⟩
    rintro f g1 ⟨rfl, rfl⟩
    refine .inl ⟨_, rfl, ?_⟩
    refine Sat.seq (P := fun f g => (∃ x, f = .nx [.dt .hnd, .dt (.int m), .un, x, .un]) ∧ HOK g) ?_ ?_
    · by_cases hc : c = 0
      · by_cases hi : i < (xs.length : Int)
        · have hx : ∃ z, (xs.map D.int)[i.toNat]? = some (.int z) := by
            have : i.toNat < xs.length := by omega
            exact ⟨xs[i.toNat], by simp [this]⟩
          obtain ⟨z, hz⟩ := hx
          simp [handD, hc, hi, sSeq, ixD_lst i0, hz, handPut, big]
          by_cases hb : (1000000000000000000 : Int) ≤ z
          · simp [hb]
            exact Sat.ok ⟨⟨_, rfl⟩, by simp only; omega, r0, r1⟩
          · have w := fmod_lt (a := r * 48271 + z.fmod 2147483647 + 1) (b := 2147483647) (by decide)
            simp [hb, u1, m2]
            exact Sat.ok ⟨⟨_, rfl⟩, by simp only; omega, w.1, w.2⟩
        · simp [handD, hc, hi]
          exact Sat.ok ⟨⟨_, rfl⟩, i0, r0, r1⟩
      · simp [handD, hc]
        exact Sat.ok ⟨⟨_, rfl⟩, i0, r0, r1⟩
    rintro f ⟨xs', i', c', r', n'⟩ ⟨⟨x, rfl⟩, i0', r0', r1'⟩
    simp only at i0' r0' r1'
    refine .inl ⟨_, rfl, ?_⟩
    by_cases hc : 0 < c'
    · have w := fmod_lt (a := c') h0
      simp [handD, hc, sSeq, m1, d1, handPut]
      exact Sat.ok ⟨_, rfl, w.1, w.2, i0', r0', r1'⟩
    · have w := fmod_lt (a := r' * 69621 + 7919 * n') (b := 2147483647) (by decide)
      generalize hr : (r' * 69621 + 7919 * n').fmod 2147483647 = r2 at w
      have w2 := fmod_lt (a := r2 * (r2.fdiv 1009 + 69621)) (b := 2147483647) (by decide)
      have z1 := u4 r2 (r2.fdiv 1009 + 69621) w.1 w.2
      generalize hr2 : (r2 * (r2.fdiv 1009 + 69621)).fmod 2147483647 = r3 at w2
      have z2 := u4 r3 (r3.fdiv 2003 + 40692) w2.1 w2.2
      generalize hr3 : (r3 * (r3.fdiv 2003 + 40692)).fmod 2147483399 = r4
      have w4 := fmod_lt (a := r4.fdiv 16) h0
      simp [handD, hc, sSeq, u2, u3, m2, m3, d2, d3, d4, m1, handPut, hr, z1, hr2, z2, hr3]
      exact Sat.ok ⟨_, rfl, w4.1, w4.2, i0', w.1, w.2⟩
  obtain ⟨f, g', e, v, rfl, hv⟩ := key
  refine ⟨.int v, g', ?_, v, rfl, hv⟩
  show noX (fnOf 5 b_law_take [.hnd, .int m] _) = _
  unfold fnOf
  rw [show ([D.hnd, .int m].map En.dt ++ List.replicate (5 - [D.hnd, .int m].length) En.un) = [.dt .hnd, .dt (.int m), .un, .un, .un] from rfl, e]
  rfl
end Kk03
set_option Elab.async false
set_option linter.all false
set_option maxRecDepth 100000
set_option maxHeartbeats 2000000
namespace Kk03
open PySem L2 FD
/-! ### things that are judged -/
mutual
def fine : D → Bool
  | .non => true
  | .bl _ => true
  | .int _ => true
  | .str z => okStr z
  | .tup xs => decide (xs.length ≤ 500) && fines xs
  | .lst xs => decide (xs.length ≤ 500) && fines xs
  | .emp => true
  | .obj c _ _ => c == "Play"
  | .hnd => false
  | .rng _ _ => false
  | .scr _ => false
def fines : List D → Bool
  | [] => true
  | d :: ds => fine d && fines ds
end
theorem fines_mem {ds : List D} : fines ds = true ↔ ∀ d ∈ ds, fine d = true := by
  induction ds with
  | nil => simp [fines]
  | cons d ds ih => simp [fines, ih]
theorem fine_tup {xs : List D} : fine (.tup xs) = true ↔ xs.length ≤ 500 ∧ ∀ d ∈ xs, fine d = true := by simp [fine, fines_mem]
theorem fine_lst {xs : List D} : fine (.lst xs) = true ↔ xs.length ≤ 500 ∧ ∀ d ∈ xs, fine d = true := by simp [fine, fines_mem]
def isInt : D → Bool
  | .int _ => true
  | _ => false
theorem is_whole_eq {d : D} (h : fine d = true) (g : Gh) : f_is_whole [d] g = some (.ok (.bl (isInt d)) g) := by
  cases d <;> simp_all [f_is_whole, b_is_whole, fnOf, isTyD, isTyB, isInt, fine]
theorem law_is_integer_eq {d : D} (h : fine d = true) (g : Gh) : f_law_is_integer [d] g = some (.ok (.bl (isInt d)) g) := by
  cases d <;> simp_all [f_law_is_integer, b_law_is_integer, fnOf, isTyD, isTyB, isInt, fine]
def inR (a b : Int) : D → Bool
  | .int i => decide (a ≤ i) && decide (i ≤ b)
  | _ => false
theorem is_whole_within_eq (a b : Int) {d : D} (h : fine d = true) (g : Gh) : f_is_whole_within [.int a, .int b, d] g = some (.ok (.bl (inR a b d)) g) := by
  have := is_whole_eq h g
  simp [f_is_whole_within, b_is_whole_within, fnOf, this]
  cases d <;> simp [isInt, inR]
  rename_i i
  by_cases h1 : a ≤ i <;> simp [h1]
theorem law_is_within_eq (a b : Int) {d : D} (h : fine d = true) (g : Gh) : f_law_is_within [d, .int a, .int b] g = some (.ok (.bl (inR a b d)) g) := by
  have := law_is_integer_eq h g
  simp [f_law_is_within, b_law_is_within, fnOf, this]
  cases d <;> simp [isInt, inR]
  rename_i i
  by_cases h1 : a ≤ i <;> simp [h1]
theorem is_number_below_eq (l : Int) {d : D} (h : fine d = true) (g : Gh) : f_is_number_below [.int l, d] g = some (.ok (.bl (inR 0 (l - 1) d)) g) := by
  simp [f_is_number_below, b_is_number_below, fnOf, is_whole_within_eq 0 (l - 1) h g]
/-- one of these words -/
def isW (ws : List Str) : D → Bool
  | .str z => ws.contains z
  | _ => false
theorem inV_strs (z : Str) : ∀ ws : List Str, inV (.str z) (ws.map V.str) = ws.contains z
  | [] => rfl
  | w :: ws => by
    have ih := inV_strs z ws
    simp only [inV] at ih
    simp only [List.map_cons, inV, List.any_cons, ih, List.contains_cons, eqV]
    congr 1
    exact Bool.beq_comm
theorem inD_strs (z : Str) (ws : List Str) : inD (.str z) (.tup (ws.map .str)) = some (.bl (ws.contains z)) := by
  have h1 : (ws.map D.str).all flatD = true := by simp [flatD]
  have h2 : (ws.map D.str).map toV = ws.map V.str := by simp [toV]
  simp [inD, inB, flatD, h1, h2, inV_strs, toV]
theorem inD_strsL (z : Str) (ws : List Str) : inD (.str z) (.lst (ws.map .str)) = some (.bl (ws.contains z)) := by
  have h1 : (ws.map D.str).all flatD = true := by simp [flatD]
  have h2 : (ws.map D.str).map toV = ws.map V.str := by simp [toV]
  simp [inD, inB, flatD, h1, h2, inV_strs, toV]
theorem notInD_strsL (z : Str) (ws : List Str) : notInD (.str z) (.lst (ws.map .str)) = some (.bl (!ws.contains z)) := by
  have h1 : (ws.map D.str).all flatD = true := by simp [flatD]
  have h2 : (ws.map D.str).map toV = ws.map V.str := by simp [toV]
  simp [notInD, inB, flatD, h1, h2, inV_strs, toV]
theorem is_word_of_eq (ws : List Str) {d : D} (h : fine d = true) (g : Gh) : f_is_word_of [.tup (ws.map .str), d] g = some (.ok (.bl (isW ws d)) g) := by
  cases d <;> simp_all [f_is_word_of, b_is_word_of, fnOf, isTyD, isTyB, isW, fine, inD_strs]
/-! deeds -/
def deedB : D → Bool
  | .tup [x] => isW ["see"] x
  | .tup [x, y] => isW ["put"] x && inR 0 999 y
  | _ => false
theorem is_word_one (w : Str) {d : D} (h : fine d = true) (g : Gh) : f_is_word_of [.tup [.str w], d] g = some (.ok (.bl (isW [w] d)) g) := is_word_of_eq [w] h g
theorem is_deed_eq {d : D} (h : fine d = true) (g : Gh) : f_is_deed [d] g = some (.ok (.bl (deedB d)) g) := by
  cases d with
  | tup xs =>
    obtain ⟨hl, hm⟩ := fine_tup.mp h
    match xs, hl, hm with
    | [], _, _ => simp [f_is_deed, b_is_deed, fnOf, isTyD, isTyB, sSeq, deedB]
    | [x], _, hm =>
      have hx := hm x (by simp)
      simp [f_is_deed, b_is_deed, fnOf, isTyD, isTyB, sSeq, deedB, ixD_tup, is_word_one, hx]
    | [x, y], _, hm =>
      have hx := hm x (by simp)
      have hy := hm y (by simp)
      have hb := is_number_below_eq 1000 hy g
      simp [f_is_deed, b_is_deed, fnOf, isTyD, isTyB, sSeq, deedB, ixD_tup, is_word_one, hx, hb, k_NUMBER_LIMIT]
      cases isW [Str.ofString "put"] x <;> simp
    | x :: y :: z :: r, hl, _ =>
      have e1 : ((r.length : Int) + 1 + 1 + 1 == 1) = false := by simp; omega
      have e2 : ((r.length : Int) + 1 + 1 + 1 == 2) = false := by simp; omega
      simp [f_is_deed, b_is_deed, fnOf, isTyD, isTyB, sSeq, deedB, e1, e2]
  | hnd => simp [fine] at h
  | rng => simp [fine] at h
  | scr => simp [fine] at h
  | obj c ks ds => simp_all [f_is_deed, b_is_deed, fnOf, isTyD, isTyB, sSeq, deedB, fine]
  | _ => simp [f_is_deed, b_is_deed, fnOf, isTyD, isTyB, sSeq, deedB]
end Kk03
set_option Elab.async false
set_option linter.all false
set_option maxRecDepth 100000
set_option maxHeartbeats 2000000
namespace Kk03
open PySem L2 FD
theorem okS {z : Str} (h : z.cps.all (· < 0x110000) = true) : okStr z = true := by
  unfold okStr
  simpa [PyData.canLay0, PyData.strOk] using h
/-! scripts -/
def scriptB : D → Bool
  | .tup xs => decide (xs.length ≤ 6) && xs.all deedB
  | _ => false
theorem is_script_eq {d : D} (h : fine d = true) (g : Gh) : f_is_script [d] g = some (.ok (.bl (scriptB d)) g) := by
  cases d with
  | tup xs =>
    obtain ⟨hl, hm⟩ := fine_tup.mp h
    have hc : compD (gN 1) tY (cFn 1 f_is_deed (cC (cV 1) cN)) xs (blkE [.dt (.tup xs), .un] [1]) g = some (.ok (xs.map fun d => .bl (deedB d)) g) := by
      refine compD_map fun d hd => ⟨_, rfl, ?_⟩
      have := is_deed_eq (hm d hd) g
      simp [blkE, wipeE, hideE, this]
    by_cases h6 : xs.length ≤ 6
    · have e1 : ¬ (6 : Int) < xs.length := by omega
      have e2 : xs.length ≤ 1000 := by omega
      simp [f_is_script, b_is_script, fnOf, isTyD, isTyB, sSeq, scriptB, k_MOST_DEEDS, e1, hc, h6, e2, allD_map]
    · have e1 : (6 : Int) < xs.length := by omega
      simp [f_is_script, b_is_script, fnOf, isTyD, isTyB, sSeq, scriptB, k_MOST_DEEDS, e1, h6]
  | hnd => simp [fine] at h
  | rng => simp [fine] at h
  | scr => simp [fine] at h
  | obj c ks ds => simp_all [f_is_script, b_is_script, fnOf, isTyD, isTyB, sSeq, scriptB, fine]
  | _ => simp [f_is_script, b_is_script, fnOf, isTyD, isTyB, sSeq, scriptB]
/-! lots -/
def ascI : List D → Bool
  | .int a :: .int b :: r => decide (a < b) && ascI (.int b :: r)
  | _ => true
def lotB : D → Bool
  | .tup xs => xs.all (inR 0 19) && ascI xs
  | _ => false
theorem asc_zip : ∀ {xs : List D}, (∀ d ∈ xs, ∃ i, d = .int i) → ∃ ps : List (Int × Int), (xs.zip (xs.drop 1)) = ps.map (fun p => (.int p.1, .int p.2)) ∧ ps.all (fun p => decide (p.1 < p.2)) = ascI xs
  | [], _ => ⟨[], rfl, rfl⟩
  | [x], h => ⟨[], rfl, by obtain ⟨i, rfl⟩ := h x (by simp); rfl⟩
  | x :: y :: r, h => by
    obtain ⟨ps, h1, h2⟩ := asc_zip (xs := y :: r) fun d hd => h d (by simp only [List.mem_cons] at hd ⊢; exact .inr hd)
    obtain ⟨i, rfl⟩ := h x (by simp)
    obtain ⟨j, rfl⟩ := h y (by simp)
    refine ⟨(i, j) :: ps, ?_, ?_⟩
    · simp at h1 ⊢
      exact h1
    · simp [h2, ascI]
theorem inR_int {a b : Int} {d : D} (h : inR a b d = true) : ∃ i, d = .int i ∧ a ≤ i ∧ i ≤ b := by
  cases d <;> simp [inR] at h
  exact ⟨_, rfl, h.1, h.2⟩
theorem is_lot_below_eq {d : D} (h : fine d = true) (g : Gh) : f_is_lot_below [.int 20, d] g = some (.ok (.bl (lotB d)) g) := by
  cases d with
  | tup xs =>
    obtain ⟨hl, hm⟩ := fine_tup.mp h
    have hc : compD (gN 2) tY (cFn 2 f_is_number_below (cC (cV 0) (cC (cV 2) cN))) xs (blkE [.dt (.int 20), .dt (.tup xs), .un, .un, .un] [2]) g = some (.ok (xs.map fun d => .bl (inR 0 19 d)) g) := by
      refine compD_map fun d hd => ⟨_, rfl, ?_⟩
      have := is_number_below_eq 20 (hm d hd) g
      simp [blkE, wipeE, hideE, this]
    have e2 : xs.length ≤ 1000 := by omega
    by_cases ha : xs.all (inR 0 19) = true
    · obtain ⟨ps, h1, h2⟩ := asc_zip (xs := xs) fun d hd => by
        obtain ⟨i, rfl, _⟩ := inR_int (List.all_eq_true.mp ha d hd)
        exact ⟨i, rfl⟩
      have hz : zipD [.tup xs, .tup (cutD xs (some 1) none)] = some (ps.map fun p => .tup [.int p.1, .int p.2]) := by
        have : cutD xs (some 1) none = xs.drop 1 := by
          unfold cutD HT.sIx
          cases xs with
          | nil => rfl
          | cons x r => simp
        rw [this]
        show some ((xs.zip (xs.drop 1)).map _) = _
        rw [h1]
        simp
      have hl2 : ps.length ≤ 1000 := by
        have := congrArg List.length h1
        simp at this
        omega
      have hc2 : compD (gT 2 (gsC (gN 3) (gsC (gN 4) gsN))) tY (cOp ltD (cV 3) (cV 4)) (ps.map fun p => .tup [.int p.1, .int p.2]) (blkE [.dt (.int 20), .dt (.tup xs), .un, .un, .un] [3, 4]) g = some (.ok ((ps.map fun p => D.tup [.int p.1, .int p.2]).map fun d => match d with
        | .tup [.int a, .int b] => .bl (decide (a < b))
        | _ => .non) g) := by
        refine compD_map fun d hd => ?_
        obtain ⟨p, _, rfl⟩ := List.mem_map.mp hd
        exact ⟨_, rfl, by simp [blkE, wipeE, hideE]⟩
      have hf : ((ps.map fun p => D.tup [.int p.1, .int p.2]).map fun d => match d with
        | .tup [.int a, .int b] => D.bl (decide (a < b))
        | _ => .non) = ps.map fun p => D.bl (decide (p.1 < p.2)) := by simp
      rw [hf] at hc2
      simp [f_is_lot_below, b_is_lot_below, fnOf, isTyD, isTyB, sSeq, lotB, hc, e2, allD_map, ha, slD, hz, hc2, hl2, h2]
    · have ha' : xs.all (inR 0 19) = false := by simpa using ha
      simp [f_is_lot_below, b_is_lot_below, fnOf, isTyD, isTyB, sSeq, lotB, hc, e2, allD_map, ha']
  | hnd => simp [fine] at h
  | rng => simp [fine] at h
  | scr => simp [fine] at h
  | obj c ks ds => simp_all [f_is_lot_below, b_is_lot_below, fnOf, isTyD, isTyB, sSeq, lotB, fine]
  | _ => simp [f_is_lot_below, b_is_lot_below, fnOf, isTyD, isTyB, sSeq, lotB]
end Kk03
set_option Elab.async false
set_option linter.all false
set_option maxRecDepth 100000
set_option maxHeartbeats 2000000
namespace Kk03
open PySem L2 FD
theorem rngD_cons (lo : Int) (n : Nat) : rngD lo (n + 1) = .int lo :: rngD (lo + 1) n := by
  unfold rngD
  rw [List.range_succ_eq_map]
  simp only [List.map_cons, List.map_map, List.cons.injEq, Int.natCast_zero, Int.add_zero, true_and]
  refine List.map_congr_left fun k _ => ?_
  simp only [Function.comp]
  congr 1
  omega
theorem rngD_zero (lo : Int) : rngD lo 0 = [] := rfl
def ascF : Option Int → List D → Bool
  | _, [] => true
  | none, .int i :: r => (decide (0 ≤ i) && decide (i ≤ 19)) && ascF (some i) r
  | some p, .int i :: r => (decide (0 ≤ i) && decide (i ≤ 19)) && (decide (p < i) && ascF (some i) r)
  | _, _ => false
theorem ascF_some : ∀ {r : List D} {p : Int}, ascF (some p) r = (r.all (inR 0 19) && ascI (.int p :: r))
  | [], p => rfl
  | .int i :: r, p => by
    rw [ascF, ascF_some, ascI]
    simp only [List.all_cons, inR]
    cases decide (0 ≤ i) <;> cases decide (i ≤ 19) <;> cases decide (p < i) <;> cases r.all (inR 0 19) <;> rfl
  | .non :: r, p => by simp [ascF, inR]
  | .bl _ :: r, p => by simp [ascF, inR]
  | .str _ :: r, p => by simp [ascF, inR]
  | .tup _ :: r, p => by simp [ascF, inR]
  | .lst _ :: r, p => by simp [ascF, inR]
  | .emp :: r, p => by simp [ascF, inR]
  | .obj _ _ _ :: r, p => by simp [ascF, inR]
  | .hnd :: r, p => by simp [ascF, inR]
  | .rng _ _ :: r, p => by simp [ascF, inR]
  | .scr _ :: r, p => by simp [ascF, inR]
theorem ascF_none {xs : List D} : ascF none xs = (xs.all (inR 0 19) && ascI xs) := by
  match xs with
  | [] => rfl
  | .int i :: r =>
    rw [ascF, ascF_some]
    simp only [List.all_cons, inR]
    cases decide (0 ≤ i) <;> cases decide (i ≤ 19) <;> cases r.all (inR 0 19) <;> rfl
  | .non :: r => simp [ascF, inR]
  | .bl _ :: r => simp [ascF, inR]
  | .str _ :: r => simp [ascF, inR]
  | .tup _ :: r => simp [ascF, inR]
  | .lst _ :: r => simp [ascF, inR]
  | .emp :: r => simp [ascF, inR]
  | .obj _ _ _ :: r => simp [ascF, inR]
  | .hnd :: r => simp [ascF, inR]
  | .rng _ _ :: r => simp [ascF, inR]
  | .scr _ :: r => simp [ascF, inR]
theorem ix_here {pre r : List D} {d : D} : ixD (.tup (pre ++ d :: r)) (.int (pre.length : Nat)) = some d := by
  show atI (pre ++ d :: r) ((pre.length : Nat) : Int) = _
  rw [FD.atI_nat]; simp
end Kk03
set_option Elab.async false
set_option linter.all false
set_option maxRecDepth 100000
set_option maxHeartbeats 2000000
namespace Kk03
open PySem L2 FD
end Kk03
set_option Elab.async false
set_option linter.all false
set_option maxRecDepth 100000
set_option maxHeartbeats 2000000
namespace Kk03
open PySem L2 FD
/-! rows of hands -/
def rowB : D → Bool
  | .tup xs => decide (1 ≤ xs.length) && decide (xs.length ≤ 5)
  | _ => false
theorem is_row_eq {d : D} (h : fine d = true) (g : Gh) : f_is_row_of_hands [d] g = some (.ok (.bl (rowB d)) g) := by
  cases d with
  | tup xs =>
    by_cases h1 : 1 ≤ xs.length
    · have e1 : (1 : Int) ≤ xs.length := by omega
      have e2 : (decide ((xs.length : Int) ≤ 5)) = decide (xs.length ≤ 5) := by
        by_cases h5 : xs.length ≤ 5
        · rw [decide_eq_true h5, decide_eq_true (by omega)]
        · rw [decide_eq_false h5, decide_eq_false (by omega)]
      simp [f_is_row_of_hands, b_is_row_of_hands, fnOf, isTyD, isTyB, rowB, k_MOST_HANDS, e1, h1, e2]
    · have e1 : ¬ (1 : Int) ≤ xs.length := by omega
      simp [f_is_row_of_hands, b_is_row_of_hands, fnOf, isTyD, isTyB, rowB, k_MOST_HANDS, e1, h1]
  | hnd => simp [fine] at h
  | rng => simp [fine] at h
  | scr => simp [fine] at h
  | obj c ks ds =>
    have hc : c = "Play" := by simpa [fine] using h
    subst hc
    simp [f_is_row_of_hands, b_is_row_of_hands, fnOf, isTyD, isTyB, rowB]
  | _ => simp [f_is_row_of_hands, b_is_row_of_hands, fnOf, isTyD, isTyB, rowB]
def nearB : D → Bool
  | .tup [r, .tup xs] => inR 1 6 r && (rowB (.tup xs) && xs.all (inR (-1000) 1000))
  | _ => false
theorem is_near_eq {d : D} (h : fine d = true) (g : Gh) : f_is_near [d] g = some (.ok (.bl (nearB d)) g) := by
  cases d with
  | tup xs =>
    obtain ⟨hl, hm⟩ := fine_tup.mp h
    match xs, hl, hm with
    | [], _, _ => simp [f_is_near, b_is_near, fnOf, isTyD, isTyB, sSeq, nearB]
    | [x], _, _ => simp [f_is_near, b_is_near, fnOf, isTyD, isTyB, sSeq, nearB]
    | [r, v], _, hm =>
      have hr := is_whole_within_eq 1 6 (hm r (by simp)) g
      have hv := is_row_eq (hm v (by simp)) g
      have fv := hm v (by simp)
      by_cases h1 : inR 1 6 r = true
      · by_cases h2 : rowB v = true
        · cases v with
          | tup ys =>
            obtain ⟨hl2, hm2⟩ := fine_tup.mp fv
            have hc : compD (gN 3) tY (cFn 3 f_is_whole_within (cC (c1 negD (cD k_NEAR_MOST)) (cC (cD k_NEAR_MOST) (cC (cV 3) cN)))) ys (blkE [.dt (.tup [r, .tup ys]), .dt r, .dt (.tup ys), .un] [3]) g = some (.ok (ys.map fun d => .bl (inR (-1000) 1000 d)) g) := by
              refine compD_map fun d hd => ⟨_, rfl, ?_⟩
              have := is_whole_within_eq (-1000) 1000 (hm2 d hd) g
              simp [blkE, wipeE, hideE, k_NEAR_MOST, this]
            have e2 : ys.length ≤ 1000 := by omega
            simp [f_is_near, b_is_near, fnOf, isTyD, isTyB, sSeq, nearB, k_MOST_ROUNDS, hr, hv, h1, h2, hc, e2, allD_map]
          | _ => simp [rowB] at h2
        · have h2' : rowB v = false := by simpa using h2
          have hn : nearB (.tup [r, v]) = false := by
            cases v <;> simp [nearB]
            intro _ z
            rw [z] at h2'; cases h2'
          simp [f_is_near, b_is_near, fnOf, isTyD, isTyB, sSeq, hn, k_MOST_ROUNDS, hr, hv, h1, h2']
      · have h1' : inR 1 6 r = false := by simpa using h1
        have hn : nearB (.tup [r, v]) = false := by cases v <;> simp [nearB, h1']
        simp [f_is_near, b_is_near, fnOf, isTyD, isTyB, sSeq, hn, k_MOST_ROUNDS, hr, h1']
    | x :: y :: z :: r, hl, _ =>
      have e1 : ((r.length : Int) + 1 + 1 + 1 == 2) = false := by simp; omega
      simp [f_is_near, b_is_near, fnOf, isTyD, isTyB, sSeq, nearB, e1]
  | hnd => simp [fine] at h
  | rng => simp [fine] at h
  | scr => simp [fine] at h
  | obj c ks ds =>
    have hc : c = "Play" := by simpa [fine] using h
    subst hc
    simp [f_is_near, b_is_near, fnOf, isTyD, isTyB, sSeq, nearB]
  | _ => simp [f_is_near, b_is_near, fnOf, isTyD, isTyB, sSeq, nearB]
/-! inputs -/
abbrev MAN : List Str := ["sweep", "twice", "borrow"]
abbrev KIN : List Str := ["sweep", "twice", "borrow", "levels", "names", "near", "chain"]
theorem kMAN : k_MANNERS = .tup (MAN.map .str) := rfl
theorem kKIN : k_KINDS = .tup (KIN.map .str) := rfl
def ints? : List D → Option (List Int) := intsOf
theorem intsOf_all : ∀ {xs : List D} {a b : Int}, xs.all (inR a b) = true → ∃ ns, intsOf xs = some ns ∧ xs = ns.map .int ∧ ns.length = xs.length
  | [], _, _, _ => ⟨[], rfl, rfl, rfl⟩
  | d :: xs, a, b, h => by
    simp only [List.all_cons, Bool.and_eq_true] at h
    obtain ⟨i, rfl, _⟩ := inR_int h.1
    obtain ⟨ns, h1, h2, h3⟩ := intsOf_all h.2
    exact ⟨i :: ns, by simp [intsOf, h1], by simp [h2], by simp [h3]⟩
def distinctB (xs : List D) : Bool := match intsOf xs with
  | some ns => unlike ns == ns.length
  | none => false
def inputsB (k : Str) : D → Bool
  | .tup xs => if k = "near" then nearB (.tup xs) else
      rowB (.tup xs) && (if MAN.contains k then xs.all scriptB else if k = "chain" then xs.all lotB else xs.all (inR 0 999) && (k == "levels" || distinctB xs))
  | _ => false
theorem inputsB_tup (k : Str) (xs : List D) : inputsB k (.tup xs) = if k = "near" then nearB (.tup xs) else
      rowB (.tup xs) && (if MAN.contains k then xs.all scriptB else if k = "chain" then xs.all lotB else xs.all (inR 0 999) && (k == "levels" || distinctB xs)) := rfl
theorem ok7 : ∀ k ∈ KIN, okStr k = true := by
  intro k hk
  simp only [List.mem_cons, List.not_mem_nil, or_false] at hk
  rcases hk with rfl | rfl | rfl | rfl | rfl | rfl | rfl <;> exact okS (by decide +kernel)
theorem okW {z : Str} (h : z ∈ KIN) (w : Str) (hw : okStr w = true) : eqD (.str z) (.str w) = some (.bl (z == w)) := eqD_str (ok7 z h) hw
theorem is_inputs_eq {k : Str} (hk : k ∈ KIN) {d : D} (h : fine d = true) (g : Gh) : f_is_inputs [.str k, d] g = some (.ok (.bl (inputsB k d)) g) := by
  have q1 := okW hk "near" (okS (by decide +kernel))
  have q2 := okW hk "chain" (okS (by decide +kernel))
  have q3 := okW hk "levels" (okS (by decide +kernel))
  have q4 : inD (.str k) k_MANNERS = some (.bl (MAN.contains k)) := inD_strs k MAN
  by_cases hn : k = "near"
  · subst hn
    have hne := is_near_eq h g
    have e : inputsB "near" d = nearB d := by
      cases d <;> simp [inputsB, nearB]
    simp [f_is_inputs, b_is_inputs, fnOf, sSeq, q1, hne, e]
  have hrow := is_row_eq h g
  have q1' : eqD (.str k) (.str "near") = some (.bl false) := by rw [q1]; simp [hn]
  by_cases hr : rowB d = true
  case neg =>
    have hr' : rowB d = false := by simpa using hr
    have e : inputsB k d = false := by
      cases d <;> simp [inputsB, hn]
      intro z; rw [z] at hr'; cases hr'
    simp [f_is_inputs, b_is_inputs, fnOf, sSeq, q1', hrow, hr', e]
  cases d with
  | tup xs =>
    obtain ⟨hl, hm⟩ := fine_tup.mp h
    have e2 : xs.length ≤ 1000 := by omega
    have hr2 := hr
    by_cases hman : MAN.contains k = true
    · have hc : compD (gN 2) tY (cFn 1 f_is_script (cC (cV 2) cN)) xs (blkE [.dt (.str k), .dt (.tup xs), .un] [2]) g = some (.ok (xs.map fun d => .bl (scriptB d)) g) := by
        refine compD_map fun d hd => ⟨_, rfl, ?_⟩
        have := is_script_eq (hm d hd) g
        simp [blkE, wipeE, hideE, this]
      rw [hman] at q4
      have e : inputsB k (.tup xs) = xs.all scriptB := by
        rw [inputsB_tup, if_neg hn, hr, hman]
        simp
      simp [f_is_inputs, b_is_inputs, fnOf, sSeq, q1', hrow, hr, q4, hc, e2, allD_map, e]
    · have hman' : MAN.contains k = false := by simpa using hman
      rw [hman'] at q4
      by_cases hch : k = "chain"
      · have hc : compD (gN 2) tY (cFn 2 f_is_lot_below (cC (cD k_LOT_LIMIT) (cC (cV 2) cN))) xs (blkE [.dt (.str k), .dt (.tup xs), .un] [2]) g = some (.ok (xs.map fun d => .bl (lotB d)) g) := by
          refine compD_map fun d hd => ⟨_, rfl, ?_⟩
          have := is_lot_below_eq (hm d hd) g
          simp [blkE, wipeE, hideE, k_LOT_LIMIT, this]
        have e : inputsB k (.tup xs) = xs.all lotB := by
          rw [inputsB_tup, if_neg hn, hr, hman', if_pos hch]
          simp
        have q2' : eqD (.str k) (.str "chain") = some (.bl true) := by rw [q2]; simp [hch]
        simp [f_is_inputs, b_is_inputs, fnOf, sSeq, q1', q2', hrow, hr, q4, hc, e2, allD_map, e]
      · have q2' : eqD (.str k) (.str "chain") = some (.bl false) := by rw [q2]; simp [hch]
        have hc : compD (gN 2) tY (cFn 2 f_is_number_below (cC (cD k_NUMBER_LIMIT) (cC (cV 2) cN))) xs (blkE [.dt (.str k), .dt (.tup xs), .un] [2]) g = some (.ok (xs.map fun d => .bl (inR 0 999 d)) g) := by
          refine compD_map fun d hd => ⟨_, rfl, ?_⟩
          have := is_number_below_eq 1000 (hm d hd) g
          simp [blkE, wipeE, hideE, k_NUMBER_LIMIT, this]
        by_cases ha : xs.all (inR 0 999) = true
        · obtain ⟨ns, h1, h2, h3⟩ := intsOf_all ha
          have hls : lenSetD (.tup xs) = some (.int (unlike ns : Nat)) := by
            simp only [lenSetD, h1, Option.bind_some]
            exact if_pos (by omega)
          have e : inputsB k (.tup xs) = (k == "levels" || (unlike ns == xs.length)) := by
            have e3 : distinctB xs = (unlike ns == xs.length) := by
              unfold distinctB
              rw [h1]
              simp only [h3]
            rw [inputsB_tup, if_neg hn, hr, hman', if_neg hch, ha, e3]
            simp
          have ec : ((((unlike ns : Nat) : Int) == ((xs.length : Nat) : Int)) = (unlike ns == xs.length)) := by
            by_cases z : unlike ns = xs.length
            · simp [z]
            · have : ¬ ((unlike ns : Nat) : Int) = ((xs.length : Nat) : Int) := by omega
              rw [beq_eq_false_iff_ne.mpr this, beq_eq_false_iff_ne.mpr z]
          cases hlv : (k == "levels") with
          | true =>
            rw [hlv] at q3
            simp [f_is_inputs, b_is_inputs, fnOf, sSeq, q1', q2', q3, hrow, hr, q4, hc, e2, allD_map, ha, e, hlv]
          | false =>
            rw [hlv] at q3
            simp [f_is_inputs, b_is_inputs, fnOf, sSeq, q1', q2', q3, hrow, hr, q4, hc, e2, allD_map, ha, e, hlv, hls]
            simpa using ec
        · have ha' : xs.all (inR 0 999) = false := by simpa using ha
          have e : inputsB k (.tup xs) = false := by
            rw [inputsB_tup, if_neg hn, hr, hman', if_neg hch, ha']
            simp
          simp [f_is_inputs, b_is_inputs, fnOf, sSeq, q1', q2', hrow, hr, q4, hc, e2, allD_map, ha', e]
  | _ => simp [rowB] at hr
end Kk03
set_option Elab.async false
set_option linter.all false
set_option maxRecDepth 100000
set_option maxHeartbeats 2000000
namespace Kk03
open PySem L2 FD
theorem cLc_ok {fi : FI} {vs : List Nat} {gs : FG} {ft : FT} {fe : FE} {ρ : List En} {g g1 g2 : Gh} {ds ys : List D} (hi : fi ρ g = some (.ok ds g1)) (hc : compD gs ft fe ds (blkE ρ vs) g1 = some (.ok ys g2)) (hl : ys.length ≤ 1000) : cLc fi vs gs ft fe ρ g = some (.ok (.lst ys) g2) := by
  simp only [cLc, hi, M.bd, hc, if_pos hl]
theorem filter_zero {α : Type} {p : α → Bool} {xs : List α} : ((((xs.filter fun d => !p d).length : Nat) : Int) == 0) = xs.all p := by
  by_cases h : xs.all p = true
  · rw [h]
    have : (xs.filter fun d => !p d) = [] := by
      rw [List.filter_eq_nil_iff]
      intro a ha
      simp [List.all_eq_true.mp h a ha]
    rw [this]; rfl
  · have h' : xs.all p = false := by simpa using h
    rw [h']
    have : (xs.filter fun d => !p d) ≠ [] := by
      intro z
      rw [List.filter_eq_nil_iff] at z
      apply h
      rw [List.all_eq_true]
      intro a ha
      have := z a ha
      simpa using this
    have h0 : (xs.filter fun d => !p d).length ≠ 0 := fun z => this (List.eq_nil_of_length_eq_zero z)
    rw [beq_eq_false_iff_ne]
    omega
theorem filter_pos {α : Type} {p : α → Bool} {xs : List α} : (decide ((0 : Int) < (((xs.filter fun d => !p d).length : Nat) : Int))) = !xs.all p := by
  have := filter_zero (p := p) (xs := xs)
  cases h : xs.all p with
  | true =>
    rw [h] at this
    have := beq_iff_eq.mp this
    rw [decide_eq_false (by omega)]; rfl
  | false =>
    rw [h] at this
    have := beq_eq_false_iff_ne.mp this
    rw [decide_eq_true (by omega)]; rfl
/-- an item of a kind -/
def itemB (k : Str) (d : D) : Bool := if MAN.contains k then scriptB d else if k = "chain" then lotB d else if k = "near" then inR (-1000) 1000 d else inR 0 999 d
theorem inMANL (k : Str) : inD (.str k) (.lst [.str "sweep", .str "twice", .str "borrow"]) = some (.bl (MAN.contains k)) := inD_strsL k MAN
theorem sortSet_len (ns : List Int) : (sortSet ns).length = unlike ns := by
  unfold sortSet unlike
  exact List.length_mergeSort _
end Kk03
set_option Elab.async false
set_option linter.all false
set_option maxRecDepth 100000
set_option maxHeartbeats 2000000
namespace Kk03
open PySem L2 FD
theorem isW_kin (d : D) : isW KIN d = true → ∃ k, d = .str k ∧ k ∈ KIN := by
  cases d <;> simp [isW]
end Kk03
set_option Elab.async false
set_option linter.all false
set_option maxRecDepth 100000
set_option maxHeartbeats 2000000
namespace Kk03
open PySem L2 FD
def plain : Nat → D → Bool
  | 0, _ => false
  | _ + 1, .non => true
  | _ + 1, .bl _ => true
  | _ + 1, .int _ => true
  | _ + 1, .str z => okStr z
  | n + 1, .tup xs => decide (xs.length ≤ 500) && xs.all (plain n)
  | _ + 1, _ => false
theorem plain_tup {n : Nat} {xs : List D} : plain (n + 1) (.tup xs) = true ↔ xs.length ≤ 500 ∧ ∀ d ∈ xs, plain n d = true := by
  simp [plain]
theorem plain_mono {n : Nat} : ∀ {d : D}, plain n d = true → plain (n + 1) d = true := by
  induction n with
  | zero => intro d h; simp [plain] at h
  | succ n ih =>
    intro d h
    cases d with
    | tup xs =>
      rw [plain_tup] at h ⊢
      exact ⟨h.1, fun d hd => ih (h.2 d hd)⟩
    | _ => simpa [plain] using h
def pyOk (n : Nat) (d : D) : Prop := ∃ p, d.py = some p ∧ p.canLay0 = true ∧ p.depth ≤ n ∧ PyData.eqv p p = true
def pysOk (n : Nat) (ds : List D) : Prop := ∃ ps, D.pys ds = some ps ∧ PyData.canLayAll0 ps = true ∧ PyData.depthAll ps ≤ n ∧ PyData.eqvAll ps ps = true
theorem pysOk_of {n : Nat} : ∀ {ds : List D}, (∀ d ∈ ds, pyOk n d) → pysOk n ds
  | [], _ => ⟨[], rfl, rfl, Nat.zero_le _, rfl⟩
  | d :: ds, h => by
    obtain ⟨p, h1, h2, h3, h4⟩ := h d (by simp)
    obtain ⟨ps, e1, e2, e3, e4⟩ := pysOk_of (ds := ds) fun d hd => h d (by simp [hd])
    refine ⟨p :: ps, by simp [D.pys, h1, e1], by simp [PyData.canLayAll0, h2, e2], ?_, by simp [PyData.eqvAll, h4, e4]⟩
    simp only [PyData.depthAll]
    omega
theorem plain_py {n : Nat} : ∀ {d : D}, plain n d = true → pyOk n d := by
  induction n with
  | zero => intro d h; simp [plain] at h
  | succ n ih =>
    intro d h
    cases d with
    | non => exact ⟨_, rfl, rfl, by simp [PyData.depth], rfl⟩
    | bl b => exact ⟨_, rfl, rfl, by simp [PyData.depth], by simp [PyData.eqv]⟩
    | int i => exact ⟨_, rfl, rfl, by simp [PyData.depth], by simp [PyData.eqv]⟩
    | str z => exact ⟨_, rfl, h, by simp [PyData.depth], by simp [PyData.eqv]⟩
    | tup xs =>
      obtain ⟨ps, e1, e2, e3, e4⟩ := pysOk_of (ds := xs) fun d hd => ih ((plain_tup.mp h).2 d hd)
      refine ⟨.tuple ps, by simp [D.py, e1], by simp [PyData.canLay0, e2], ?_, by simp [PyData.eqv, e4]⟩
      simp only [PyData.depth]
      omega
    | _ => simp [plain] at h
theorem plain_fine {n : Nat} : ∀ {d : D}, plain n d = true → fine d = true := by
  induction n with
  | zero => intro d h; simp [plain] at h
  | succ n ih =>
    intro d h
    cases d with
    | tup xs =>
      rw [plain_tup] at h
      rw [fine_tup]
      exact ⟨h.1, fun d hd => ih (h.2 d hd)⟩
    | str z => exact h
    | lst z => simp [plain] at h
    | obj z => simp [plain] at h
    | hnd => simp [plain] at h
    | rng => simp [plain] at h
    | scr => simp [plain] at h
    | _ => rfl
def eqP (a b : D) : Bool := match a.py, b.py with
  | some p, some q => PyData.eqv p q
  | _, _ => false
theorem shaped_of {p : PyData} {n : Nat} (h : p.canLay0 = true) (hd : p.depth ≤ n) (hn : n ≤ 64) : SeqAt.shaped p = true := by
  unfold SeqAt.shaped
  rw [h, decide_eq_true (by omega)]; rfl
theorem eqB_plain {n m : Nat} {a b : D} (ha : plain n a = true) (hb : plain m b = true) (hn : n ≤ 64) (hm : m ≤ 64) : eqB a b = some (eqP a b) := by
  obtain ⟨p, h1, h2, h3, h4⟩ := plain_py ha
  obtain ⟨q, e1, e2, e3, e4⟩ := plain_py hb
  simp only [eqB, eqP, h1, e1]
  exact if_pos ⟨shaped_of h2 h3 hn, shaped_of e2 e3 hm⟩
theorem eqD_plain {n m : Nat} {a b : D} (ha : plain n a = true) (hb : plain m b = true) (hn : n ≤ 64) (hm : m ≤ 64) : eqD a b = some (.bl (eqP a b)) := by
  unfold eqD; rw [eqB_plain ha hb hn hm]; rfl
theorem eqP_refl {n : Nat} {a : D} (ha : plain n a = true) : eqP a a = true := by
  obtain ⟨p, h1, h2, h3, h4⟩ := plain_py ha
  simp [eqP, h1, h4]
theorem eqP_pair {n m : Nat} {a b c d : D} (ha : plain n a = true) (hb : plain n b = true) (hc : plain m c = true) (hd : plain m d = true) : eqP (.tup [a, b]) (.tup [c, d]) = (eqP a c && eqP b d) := by
  obtain ⟨p, h1, _⟩ := plain_py ha
  obtain ⟨q, h2, _⟩ := plain_py hb
  obtain ⟨r, h3, _⟩ := plain_py hc
  obtain ⟨s, h4, _⟩ := plain_py hd
  simp [eqP, D.py, D.pys, h1, h2, h3, h4, PyData.eqv, PyData.eqvAll]
end Kk03
set_option Elab.async false
set_option linter.all false
set_option maxRecDepth 100000
set_option maxHeartbeats 2000000
namespace Kk03
open PySem L2 FD
theorem zip_self (xs : List D) : ((xs.zip xs).map fun p => D.tup [p.1, p.2]) = xs.map fun x => D.tup [x, x] := by
  induction xs with
  | nil => rfl
  | cons x xs ih => simp [ih]
abbrev sameBody (F : List D → Gh → M D) : FS := (sIf (cNot (cT (cFn 2 F (cC (cV 2) (cC (cV 3) cN))))) (sRet (cD (.bl false))) sNx)
theorem plain_le {n : Nat} {d : D} : ∀ (k : Nat), plain n d = true → plain (n + k) d = true
  | 0, h => h
  | k + 1, h => plain_mono (plain_le k h)
/-! what is right is plain -/
theorem inR_plain {a b : Int} {d : D} (h : inR a b d = true) (n : Nat) : plain (n + 1) d = true := by
  obtain ⟨i, rfl, _⟩ := inR_int h; rfl
theorem isW_str {ws : List Str} {d : D} (h : isW ws d = true) (hf : fine d = true) (n : Nat) : plain (n + 1) d = true := by
  cases d <;> simp [isW] at h
  exact hf
theorem deed_plain {d : D} (h : deedB d = true) (hf : fine d = true) : plain 2 d = true := by
  cases d with
  | tup xs =>
    obtain ⟨hl, hm⟩ := fine_tup.mp hf
    match xs, h, hl, hm with
    | [], h, _, _ => simp [deedB] at h
    | [x], h, _, hm =>
      rw [plain_tup]
      refine ⟨by simp, fun d hd => ?_⟩
      have : d = x := by simpa using hd
      subst this
      exact isW_str h (hm d (by simp)) 0
    | [x, y], h, _, hm =>
      simp only [deedB, Bool.and_eq_true] at h
      rw [plain_tup]
      refine ⟨by simp, fun d hd => ?_⟩
      have : d = x ∨ d = y := by simpa using hd
      rcases this with rfl | rfl
      · exact isW_str h.1 (hm d (by simp)) 0
      · exact inR_plain h.2 0
    | _ :: _ :: _ :: _, h, _, _ => simp [deedB] at h
  | _ => simp [deedB] at h
theorem all_plain {p : D → Bool} {n : Nat} {xs : List D} (hl : xs.length ≤ 500) (hp : ∀ d ∈ xs, p d = true → plain n d = true) (h : xs.all p = true) : plain (n + 1) (.tup xs) = true := by
  rw [plain_tup]
  exact ⟨hl, fun d hd => hp d hd (List.all_eq_true.mp h d hd)⟩
theorem script_plain {d : D} (h : scriptB d = true) (hf : fine d = true) : plain 3 d = true := by
  cases d with
  | tup xs =>
    obtain ⟨hl, hm⟩ := fine_tup.mp hf
    simp only [scriptB, Bool.and_eq_true] at h
    exact all_plain hl (fun d hd hq => deed_plain hq (hm d hd)) h.2
  | _ => simp [scriptB] at h
theorem lot_plain {d : D} (h : lotB d = true) (hf : fine d = true) : plain 3 d = true := by
  cases d with
  | tup xs =>
    obtain ⟨hl, hm⟩ := fine_tup.mp hf
    simp only [lotB, Bool.and_eq_true] at h
    exact all_plain hl (fun d hd hq => inR_plain hq 1) h.1
  | _ => simp [lotB] at h
theorem inputs_plain {k : Str} {d : D} (h : inputsB k d = true) (hf : fine d = true) : plain 4 d = true := by
  cases d with
  | tup xs =>
    obtain ⟨hl, hm⟩ := fine_tup.mp hf
    rw [inputsB_tup] at h
    by_cases hn : k = "near"
    · rw [if_pos hn] at h
      match xs, h, hl, hm with
      | [], h, _, _ => simp [nearB] at h
      | [x], h, _, hm => simp [nearB] at h
      | [r, .tup ys], h, _, hm =>
        simp only [nearB, Bool.and_eq_true] at h
        obtain ⟨hl2, _⟩ := fine_tup.mp (hm (.tup ys) (by simp))
        rw [plain_tup]
        refine ⟨by simp, fun d hd => ?_⟩
        have : d = r ∨ d = .tup ys := by simpa using hd
        rcases this with rfl | rfl
        · exact inR_plain h.1 2
        · exact all_plain hl2 (fun d hd hq => inR_plain hq 1) h.2.2
      | [r, .non], h, _, _ => simp [nearB] at h
      | [r, .bl _], h, _, _ => simp [nearB] at h
      | [r, .int _], h, _, _ => simp [nearB] at h
      | [r, .str _], h, _, _ => simp [nearB] at h
      | [r, .lst _], h, _, _ => simp [nearB] at h
      | [r, .emp], h, _, _ => simp [nearB] at h
      | [r, .obj _ _ _], h, _, _ => simp [nearB] at h
      | [r, .hnd], h, _, _ => simp [nearB] at h
      | [r, .rng _ _], h, _, _ => simp [nearB] at h
      | [r, .scr _], h, _, _ => simp [nearB] at h
      | _ :: _ :: _ :: _, h, _, _ => simp [nearB] at h
    · rw [if_neg hn] at h
      simp only [Bool.and_eq_true] at h
      obtain ⟨_, h⟩ := h
      by_cases hm1 : MAN.contains k = true
      · rw [if_pos hm1] at h
        exact all_plain hl (fun d hd hq => script_plain hq (hm d hd)) h
      · rw [if_neg hm1] at h
        by_cases hc : k = "chain"
        · rw [if_pos hc] at h
          exact all_plain hl (fun d hd hq => lot_plain hq (hm d hd)) h
        · rw [if_neg hc] at h
          simp only [Bool.and_eq_true] at h
          exact all_plain hl (fun d hd hq => inR_plain hq 2) h.1
  | _ => simp [inputsB] at h
/-! Play -/
/-- the part that has not its form -/
def goodB : D → D → Bool
  | .str z, d => inputsB z d
  | _, _ => false
def thePlay (k d : D) : D := .obj "Play" ["kind", "inputs"] [k, d]
theorem Play_eq {k d : D} (hk : fine k = true) (hd : fine d = true) (g : Gh) : f_Play [k, d] g = if isW KIN k = true then (if goodB k d = true then some (.ok (thePlay k d) g) else some (.ex "BadPlay" ["part"] [.str "inputs"] g)) else some (.ex "BadPlay" ["part"] [.str "kind"] g) := by
  have hw := is_word_of_eq KIN hk g
  rw [← kKIN] at hw
  by_cases w : isW KIN k = true
  · rw [if_pos w]
    rw [w] at hw
    obtain ⟨z, rfl, hz⟩ := isW_kin k w
    have hi := is_inputs_eq hz hd g
    by_cases hb : goodB (.str z) d = true
    · have hb' : inputsB z d = true := hb
      rw [hb'] at hi
      rw [if_pos hb]
      simp [f_Play, mkF2, hw, hi, thePlay]
    · have hb' : inputsB z d = false := by
        have : ¬ inputsB z d = true := hb
        simpa using this
      rw [hb'] at hi
      rw [if_neg hb]
      simp [f_Play, mkF2, hw, hi, exOf]
  · rw [if_neg w]
    have w' : isW KIN k = false := by simpa using w
    rw [w'] at hw
    simp [f_Play, mkF2, hw, exOf]
end Kk03
set_option Elab.async false
set_option linter.all false
set_option maxRecDepth 100000
set_option maxHeartbeats 2000000
namespace Kk03
open PySem L2 FD
theorem Sat.loop {gs : FG} {fb : FS} {I : List En → Prop} (h : ∀ d ρ g, I ρ → HOK g → ∃ ρ1, gs d ρ = some ρ1 ∧ Sat (fb ρ1 g) (fun f g' => (∃ ρ2, f = .nx ρ2 ∧ I ρ2) ∧ HOK g')) : ∀ (ds : List D) (ρ : List En) (g : Gh), I ρ → HOK g → Sat (loopD gs fb ds ρ g) (fun f g' => (∃ ρ2, f = .nx ρ2 ∧ I ρ2) ∧ HOK g')
  | [], ρ, g, i, hg => .ok ⟨⟨ρ, rfl, i⟩, hg⟩
  | d :: ds, ρ, g, i, hg => by
    obtain ⟨ρ1, h1, f, g2, e, ⟨ρ2, rfl, i2⟩, hg2⟩ := h d ρ g i hg
    obtain ⟨f3, g3, e3, p3⟩ := Sat.loop h ds ρ2 g2 i2 hg2
    refine ⟨f3, g3, ?_, p3⟩
    unfold loopD
    rw [h1]
    simp only [e]
    exact e3
@[simp] theorem fld_kind (k d : D) : fldD "kind" (thePlay k d) = some k := rfl
@[simp] theorem fld_inputs (k d : D) : fldD "inputs" (thePlay k d) = some d := rfl
@[simp] theorem isPlay_thePlay (k d : D) : isPlay (thePlay k d) = true := rfl
@[simp] theorem tyEq_pp (k d k' d' : D) : tyEqD (thePlay k d) (thePlay k' d') = some (.bl true) := rfl
@[simp] theorem tyEq_pt (k d : D) (xs : List D) : tyEqD (thePlay k d) (.tup xs) = some (.bl false) := rfl
/-- a right pair -/
structure GP (k d : D) : Prop where
  kin : ∃ z, k = .str z ∧ z ∈ KIN ∧ inputsB z d = true
  fk : fine k = true
  fd : fine d = true
theorem GP.w {k d : D} (h : GP k d) : isW KIN k = true := by
  obtain ⟨z, rfl, hz, _⟩ := h.kin
  exact List.contains_iff_mem.mpr hz
theorem GP.g {k d : D} (h : GP k d) : goodB k d = true := by
  obtain ⟨z, rfl, hz, hi⟩ := h.kin
  exact hi
theorem GP.pk {k d : D} (h : GP k d) : plain 1 k = true := by
  obtain ⟨z, rfl, hz, hi⟩ := h.kin
  exact h.fk
theorem GP.pd {k d : D} (h : GP k d) : plain 4 d = true := by
  obtain ⟨z, rfl, hz, hi⟩ := h.kin
  exact inputs_plain hi h.fd
theorem GP.of {k d : D} (hk : fine k = true) (hd : fine d = true) (w : isW KIN k = true) (g : goodB k d = true) : GP k d := by
  obtain ⟨z, rfl, hz⟩ := isW_kin k w
  exact ⟨⟨z, rfl, hz, g⟩, hk, hd⟩
theorem GP.play {k d : D} (h : GP k d) (g : Gh) : f_Play [k, d] g = some (.ok (thePlay k d) g) := by
  rw [Play_eq h.fk h.fd, if_pos h.w, if_pos h.g]
theorem play_eq {k d k' d' : D} (h : GP k d) (h' : GP k' d') (g : Gh) : f_Play___eq__ [thePlay k d, thePlay k' d'] g = some (.ok (.bl (eqP k k' && eqP d d')) g) := by
  have e1 := eqD_plain h.pk h'.pk (by decide) (by decide)
  have e2 := eqD_plain h.pd h'.pd (by decide) (by decide)
  cases hb : eqP k k' <;> rw [hb] at e1 <;> simp [f_Play___eq__, b_Play___eq__, fnOf, e1, e2]
theorem play_ne_tup {k d : D} (xs : List D) (h : GP k d) (g : Gh) : f_Play___eq__ [thePlay k d, .tup xs] g = some (.ok (.bl false) g) := by
  simp [f_Play___eq__, b_Play___eq__, fnOf]
theorem many_eq {k d : D} (h : GP k d) (g : Gh) : ∃ i : Int, f_many_hands [thePlay k d] g = some (.ok (.int i) g) ∧ f_law_many [k, d] g = some (.ok (.int i) g) := by
  obtain ⟨z, rfl, hz, hi⟩ := h.kin
  have q1 := okW hz "near" (okS (by decide +kernel))
  cases d with
  | tup xs =>
    by_cases hn : z = "near"
    · have q1' : eqD (.str z) (.str "near") = some (.bl true) := by rw [q1]; simp [hn]
      rw [inputsB_tup, if_pos hn] at hi
      match xs, hi with
      | [r, .tup ys], _ => exact ⟨ys.length, by simp [f_many_hands, b_many_hands, fnOf, sSeq, q1', ixD_tup], by simp [f_law_many, b_law_many, fnOf, sSeq, q1', ixD_tup]⟩
      | [], hi => simp [nearB] at hi
      | [_], hi => simp [nearB] at hi
      | [r, .non], hi => simp [nearB] at hi
      | [r, .bl _], hi => simp [nearB] at hi
      | [r, .int _], hi => simp [nearB] at hi
      | [r, .str _], hi => simp [nearB] at hi
      | [r, .lst _], hi => simp [nearB] at hi
      | [r, .emp], hi => simp [nearB] at hi
      | [r, .obj _ _ _], hi => simp [nearB] at hi
      | [r, .hnd], hi => simp [nearB] at hi
      | [r, .rng _ _], hi => simp [nearB] at hi
      | [r, .scr _], hi => simp [nearB] at hi
      | _ :: _ :: _ :: _, hi => simp [nearB] at hi
    · have q1' : eqD (.str z) (.str "near") = some (.bl false) := by rw [q1]; simp [hn]
      exact ⟨xs.length, by simp [f_many_hands, b_many_hands, fnOf, sSeq, q1'], by simp [f_law_many, b_law_many, fnOf, sSeq, q1']⟩
  | _ => simp [inputsB] at hi
theorem pair_plain {k d : D} (h : GP k d) : plain 5 (.tup [k, d]) = true := by
  rw [plain_tup]
  refine ⟨by simp, fun x hx => ?_⟩
  have : x = k ∨ x = d := by simpa using hx
  rcases this with rfl | rfl
  · exact plain_le 3 h.pk
  · exact h.pd
end Kk03
set_option Elab.async false
set_option linter.all false
set_option maxRecDepth 100000
set_option maxHeartbeats 4000000
namespace Kk03
open PySem L2 FD
/-! ### what draws give -/
def TM {α : Type} (m : Gh → M α) (P : α → Prop) : Prop := ∀ g, HOK g → Sat (m g) (fun d g' => P d ∧ HOK g')
theorem TM.imp {α : Type} {m : Gh → M α} {P Q : α → Prop} (h : TM m P) (k : ∀ a, P a → Q a) : TM m Q := fun g hg => (h g hg).imp fun a _ p => ⟨k a p.1, p.2⟩
theorem TM.bd {α β : Type} {m : Gh → M α} {k : α → Gh → M β} {P : α → Prop} {Q : β → Prop} (h : TM m P) (hk : ∀ a, P a → TM (k a) Q) : TM (fun g => (m g).bd k) Q := fun g hg => Sat.bd (h g hg) fun a g1 p => hk a p.1 g1 p.2
theorem TM.pure {α : Type} {a : α} {P : α → Prop} (h : P a) : TM (fun g => some (.ok a g)) P := fun g hg => .ok ⟨h, hg⟩
theorem TM.of {α : Type} {m : Gh → M α} {a : α} {P : α → Prop} (h : P a) (e : ∀ g, m g = some (.ok a g)) : TM m P := fun g hg => ⟨a, g, e g, h, hg⟩
theorem te_d {ρ : List En} {d : D} {P : D → Prop} (h : P d) : TM (cD d ρ) P := TM.pure h
theorem te_v {ρ : List En} {i : Nat} {d : D} {P : D → Prop} (e : ρ[i]? = some (.dt d)) (h : P d) : TM (cV i ρ) P := by
  refine TM.of h fun g => ?_
  simp only [cV, e]
theorem ta_n {ρ : List En} {P : List D → Prop} (h : P []) : TM (cN ρ) P := TM.pure h
theorem ta_c {ρ : List En} {a : FE} {b : FA} {P : D → Prop} {R : List D → Prop} {Q : List D → Prop} (ha : TM (a ρ) P) (hb : TM (b ρ) R) (h : ∀ x xs, P x → R xs → Q (x :: xs)) : TM (cC a b ρ) Q := by
  show TM (fun g => (a ρ g).bd _) Q
  refine TM.bd ha fun x hx => ?_
  refine TM.bd hb fun xs hxs => ?_
  exact TM.pure (h x xs hx hxs)
/-- exactly these, one by one -/
def Each (Ps : List (D → Prop)) (xs : List D) : Prop := xs.length = Ps.length ∧ ∀ p ∈ Ps.zip xs, p.1 p.2
theorem each_n {ρ : List En} : TM (cN ρ) (fun xs => xs = []) := ta_n rfl
theorem te_tup {ρ : List En} {a : FA} {R : List D → Prop} {P : D → Prop} (ha : TM (a ρ) R) (h : ∀ xs, R xs → xs.length ≤ 1000 ∧ P (.tup xs)) : TM (cTup a ρ) P := by
  show TM (fun g => (a ρ g).bd _) P
  refine TM.bd ha fun xs hx => ?_
  refine TM.of (h xs hx).2 fun g => ?_
  exact if_pos (h xs hx).1
theorem te_lst {ρ : List En} {a : FA} {R : List D → Prop} {P : D → Prop} (ha : TM (a ρ) R) (h : ∀ xs, R xs → xs.length ≤ 1000 ∧ P (.lst xs)) : TM (cLst a ρ) P := by
  show TM (fun g => (a ρ g).bd _) P
  refine TM.bd ha fun xs hx => ?_
  refine TM.of (h xs hx).2 fun g => ?_
  exact if_pos (h xs hx).1
theorem te_op {ρ : List En} {op : D → D → Option D} {a b : FE} {P R Q : D → Prop} (ha : TM (a ρ) P) (hb : TM (b ρ) R) (h : ∀ x y, P x → R y → ∃ z, op x y = some z ∧ Q z) : TM (cOp op a b ρ) Q := by
  show TM (fun g => (a ρ g).bd _) Q
  refine TM.bd ha fun x hx => TM.bd hb fun y hy => ?_
  obtain ⟨z, e, q⟩ := h x y hx hy
  refine TM.of q fun g => ?_
  rw [e]; rfl
theorem te_1 {ρ : List En} {op : D → Option D} {a : FE} {P Q : D → Prop} (ha : TM (a ρ) P) (h : ∀ x, P x → ∃ z, op x = some z ∧ Q z) : TM (c1 op a ρ) Q := by
  show TM (fun g => (a ρ g).bd _) Q
  refine TM.bd ha fun x hx => ?_
  obtain ⟨z, e, q⟩ := h x hx
  refine TM.of q fun g => ?_
  rw [e]; rfl
theorem te_call {ρ : List En} {op : List D → Option D} {a : FA} {R : List D → Prop} {Q : D → Prop} (ha : TM (a ρ) R) (h : ∀ x, R x → ∃ z, op x = some z ∧ Q z) : TM (cCall op a ρ) Q := by
  show TM (fun g => (a ρ g).bd _) Q
  refine TM.bd ha fun x hx => ?_
  obtain ⟨z, e, q⟩ := h x hx
  refine TM.of q fun g => ?_
  rw [e]; rfl
theorem te_fn {ρ : List En} {n : Nat} {Fn : List D → Gh → M D} {a : FA} {R : List D → Prop} {P : D → Prop} (ha : TM (a ρ) R) (h : ∀ xs, R xs → xs.length = n ∧ TM (Fn xs) P) : TM (cFn n Fn a ρ) P := by
  show TM (fun g => (a ρ g).bd _) P
  refine TM.bd ha fun xs hx => fun g hg => ?_
  obtain ⟨hl, hf⟩ := h xs hx
  obtain ⟨d, g', e, p⟩ := hf g hg
  refine ⟨d, g', ?_, p⟩
  show (if xs.length = n then noX (Fn xs g) else none) = _
  rw [if_pos hl, e]; rfl
theorem tt_t {ρ : List En} {a : FE} {P : D → Prop} {Q : Bool → Prop} (ha : TM (a ρ) P) (h : ∀ x, P x → ∃ b, toB x = some b ∧ Q b) : TM (cT a ρ) Q := by
  show TM (fun g => (a ρ g).bd _) Q
  refine TM.bd ha fun x hx => ?_
  obtain ⟨z, e, q⟩ := h x hx
  refine TM.of q fun g => ?_
  rw [e]; rfl
theorem tt_and {ρ : List En} {a b : FT} {P Q R : Bool → Prop} (ha : TM (a ρ) P) (hb : P true → TM (b ρ) R) (h1 : P false → Q false) (h2 : ∀ y, P true → R y → Q y) : TM (cAnd a b ρ) Q := by
  show TM (fun g => (a ρ g).bd _) Q
  refine TM.bd ha fun x hx => ?_
  cases x with
  | false => exact TM.of (h1 hx) fun g => rfl
  | true => exact (hb hx).imp fun y hy => h2 y hx hy
theorem ts_ret {ρ : List En} {a : FE} {P : D → Prop} {Q : Fl → Prop} (ha : TM (a ρ) P) (h : ∀ x, P x → Q (.rt x)) : TM (sRet a ρ) Q := by
  show TM (fun g => (a ρ g).bd _) Q
  exact TM.bd ha fun x hx => TM.pure (h x hx)
theorem ts_asg {ρ : List En} {a : FE} {gs : FG} {P : D → Prop} {Q : Fl → Prop} (ha : TM (a ρ) P) (h : ∀ x, P x → ∃ ρ1, gs x ρ = some ρ1 ∧ Q (.nx ρ1)) : TM (sAsg a gs ρ) Q := by
  show TM (fun g => (a ρ g).bd _) Q
  refine TM.bd ha fun x hx => ?_
  obtain ⟨ρ1, e, q⟩ := h x hx
  refine TM.of q fun g => ?_
  rw [e]
theorem ts_if {ρ : List En} {c : FT} {a b : FS} {P : Bool → Prop} {Q : Fl → Prop} (hc : TM (c ρ) P) (ha : P true → TM (a ρ) Q) (hb : P false → TM (b ρ) Q) : TM (sIf c a b ρ) Q := by
  show TM (fun g => (c ρ g).bd _) Q
  refine TM.bd hc fun x hx => ?_
  cases x with
  | true => exact ha hx
  | false => exact hb hx
/-- a step that goes on, then the rest -/
theorem ts_seq {ρ : List En} {a b : FS} {Q : Fl → Prop} {I : List En → Prop} (ha : TM (a ρ) (fun f => ∃ ρ1, f = .nx ρ1 ∧ I ρ1)) (hb : ∀ ρ1, I ρ1 → TM (b ρ1) Q) : TM (sSeq a b ρ) Q := fun g hg => by
  obtain ⟨_, g1, e, ⟨ρ1, rfl, i⟩, hg1⟩ := ha g hg
  obtain ⟨f, g2, e2, q⟩ := hb ρ1 i g1 hg1
  exact ⟨f, g2, (sSeq_nx e).trans e2, q⟩
/-- a step that goes on or returns -/
theorem ts_seq2 {ρ : List En} {a b : FS} {P : D → Prop} {I : List En → Prop} (ha : TM (a ρ) (fun f => (∃ ρ1, f = .nx ρ1 ∧ I ρ1) ∨ ∃ d, f = .rt d ∧ P d)) (hb : ∀ ρ1, I ρ1 → TM (b ρ1) (fun f => ∃ d, f = .rt d ∧ P d)) : TM (sSeq a b ρ) (fun f => ∃ d, f = .rt d ∧ P d) := fun g hg => by
  obtain ⟨f, g1, e, h, hg1⟩ := ha g hg
  rcases h with ⟨ρ1, rfl, i⟩ | ⟨d, rfl, p⟩
  · obtain ⟨f, g2, e2, q⟩ := hb ρ1 i g1 hg1
    exact ⟨f, g2, (sSeq_nx e).trans e2, q⟩
  · exact ⟨_, g1, sSeq_rt e, ⟨d, rfl, p⟩, hg1⟩
/-- if it is so, this is told; else the rest -/
theorem ts_ifret {ρ : List En} {c : FT} {a b : FS} {B : Bool → Prop} {P : D → Prop} (hc : TM (c ρ) B) (ha : B true → TM (a ρ) (fun f => ∃ d, f = .rt d ∧ P d)) (hb : B false → TM (b ρ) (fun f => ∃ d, f = .rt d ∧ P d)) : TM (sSeq (sIf c a sNx) b ρ) (fun f => ∃ d, f = .rt d ∧ P d) := by
  refine ts_seq2 (I := fun ρ1 => ρ1 = ρ ∧ B false) (ts_if hc (fun h => (ha h).imp fun f q => .inr q) (fun h => TM.pure (.inl ⟨ρ, rfl, rfl, h⟩))) ?_
  rintro ρ1 ⟨rfl, h⟩
  exact hb h
theorem tf_fn {N : Nat} {b : FS} {ds : List D} {P : D → Prop} (h : TM (b (ds.map .dt ++ List.replicate (N - ds.length) .un)) (fun f => ∃ d, f = .rt d ∧ P d)) : TM (fun g => noX (fnOf N b ds g)) P := fun g hg => by
  obtain ⟨_, g1, e, ⟨d, rfl, p⟩, hg1⟩ := h g hg
  refine ⟨d, g1, ?_, p, hg1⟩
  show noX (fnOf N b ds g) = _
  unfold fnOf
  rw [e]; rfl
theorem t_take {m : Int} (h0 : 0 < m) (h1 : m < 1073741824) : TM (f_law_take [.hnd, .int m]) (fun d => ∃ v, d = .int v ∧ 0 ≤ v ∧ v < m) := fun g hg => by
  refine (take_ok hg h0 h1).imp ?_
  rintro d g' ⟨v, e, a, b, c⟩
  exact ⟨⟨v, e, a, b⟩, c⟩

/-- these, one by one -/
def Fit : List (D → Prop) → List D → Prop
  | [], [] => True
  | p :: ps, x :: xs => p x ∧ Fit ps xs
  | _, _ => False
theorem fa_n {ρ : List En} : TM (cN ρ) (Fit []) := ta_n trivial
theorem fa_c {ρ : List En} {a : FE} {b : FA} {P : D → Prop} {Ps : List (D → Prop)} (ha : TM (a ρ) P) (hb : TM (b ρ) (Fit Ps)) : TM (cC a b ρ) (Fit (P :: Ps)) := ta_c ha hb fun x xs p q => ⟨p, q⟩
theorem fit1 {P : D → Prop} {xs : List D} (h : Fit [P] xs) : ∃ x, xs = [x] ∧ P x := by
  match xs, h with
  | [x], h => exact ⟨x, rfl, h.1⟩
theorem fit2 {P Q : D → Prop} {xs : List D} (h : Fit [P, Q] xs) : ∃ x y, xs = [x, y] ∧ P x ∧ Q y := by
  match xs, h with
  | [x, y], h => exact ⟨x, y, rfl, h.1, h.2.1⟩
theorem fit3 {P Q R : D → Prop} {xs : List D} (h : Fit [P, Q, R] xs) : ∃ x y z, xs = [x, y, z] ∧ P x ∧ Q y ∧ R z := by
  match xs, h with
  | [x, y, z], h => exact ⟨x, y, z, rfl, h.1, h.2.1, h.2.2.1⟩
/-- so many, each of this sort -/
def Menu (n : Nat) (P : D → Prop) (xs : List D) : Prop := xs.length = n ∧ ∀ x ∈ xs, P x
theorem me_n {ρ : List En} {P : D → Prop} : TM (cN ρ) (Menu 0 P) := ta_n ⟨rfl, fun x h => by simp at h⟩
theorem me_c {ρ : List En} {a : FE} {b : FA} {P : D → Prop} {n : Nat} (ha : TM (a ρ) P) (hb : TM (b ρ) (Menu n P)) : TM (cC a b ρ) (Menu (n + 1) P) := ta_c ha hb fun x xs p q => ⟨by simp [q.1], fun y hy => by
  rcases List.mem_cons.mp hy with rfl | h
  · exact p
  · exact q.2 y h⟩
/-- take(hand, m) as an expression, m given -/
theorem te_take {ρ : List En} {j : Nat} {e : FE} {m : Int} (he : TM (e ρ) (fun d => d = .int m)) (h0 : 0 < m) (h1 : m < 1073741824) (hj : ρ[j]? = some (.dt .hnd) := by rfl) : TM (cFn 2 f_law_take (cC (cV j) (cC e cN)) ρ) (fun d => ∃ v, d = .int v ∧ 0 ≤ v ∧ v < m) := by
  refine te_fn (fa_c (P := fun d => d = .hnd) (te_v hj rfl) (fa_c he fa_n)) fun xs h => ?_
  obtain ⟨x, y, rfl, rfl, rfl⟩ := fit2 h
  exact ⟨rfl, t_take h0 h1⟩
theorem te_takeK {ρ : List En} {j : Nat} {m : Int} (h0 : 0 < m := by decide) (h1 : m < 1073741824 := by decide) (hj : ρ[j]? = some (.dt .hnd) := by rfl) : TM (cFn 2 f_law_take (cC (cV j) (cC (cD (.int m)) cN)) ρ) (fun d => ∃ v, d = .int v ∧ 0 ≤ v ∧ v < m) := te_take (te_d rfl) h0 h1 hj
theorem t_pick {xs : List D} {n : Nat} {P : D → Prop} (h : Menu (n + 1) P xs) (hn : n ≤ 1000) : TM (f_law_pick [.hnd, .lst xs]) P := by
  refine tf_fn (N := 2) (ts_ret (P := P) (te_op (P := fun d => d = .lst xs) (te_v rfl rfl) (te_take (m := (n + 1 : Nat)) (te_call (fa_c (P := fun d => d = .lst xs) (te_v rfl rfl) fa_n) ?_) (by omega) (by omega)) ?_) fun x hx => ⟨x, rfl, hx⟩)
  · intro ys hy
    obtain ⟨y, rfl, rfl⟩ := fit1 hy
    exact ⟨_, rfl, by rw [h.1]⟩
  · rintro x y rfl ⟨v, rfl, h0, h1⟩
    have hv : v.toNat < xs.length := by rw [h.1]; omega
    refine ⟨xs[v.toNat], ?_, h.2 _ (List.getElem_mem hv)⟩
    rw [ixD_lst h0, List.getElem?_eq_getElem hv]
theorem te_pick {ρ : List En} {j n : Nat} {a : FA} {P : D → Prop} (ha : TM (a ρ) (Menu (n + 1) P)) (hn : n + 1 ≤ 1000 := by decide) (hj : ρ[j]? = some (.dt .hnd) := by rfl) : TM (cFn 2 f_law_pick (cC (cV j) (cC (cLst a) cN)) ρ) P := by
  refine te_fn (fa_c (P := fun d => d = .hnd) (te_v hj rfl) (fa_c (te_lst (P := fun d => ∃ xs, d = .lst xs ∧ Menu (n + 1) P xs) ha fun xs h => ⟨by rw [h.1]; exact hn, xs, rfl, h⟩) fa_n)) fun xs h => ?_
  obtain ⟨x, y, rfl, rfl, xs, rfl, hm⟩ := fit2 h
  exact ⟨rfl, t_pick hm (by omega)⟩
theorem te_pickV {ρ : List En} {j i n : Nat} {xs : List D} {P : D → Prop} (hi : ρ[i]? = some (.dt (.lst xs))) (hm : Menu (n + 1) P xs) (hn : n + 1 ≤ 1000 := by decide) (hj : ρ[j]? = some (.dt .hnd) := by rfl) : TM (cFn 2 f_law_pick (cC (cV j) (cC (cV i) cN)) ρ) P := by
  refine te_fn (fa_c (P := fun d => d = .hnd) (te_v hj rfl) (fa_c (P := fun d => d = .lst xs) (te_v hi rfl) fa_n)) fun ys h => ?_
  obtain ⟨x, y, rfl, rfl, rfl⟩ := fit2 h
  exact ⟨rfl, t_pick hm (by omega)⟩
/-! blocks -/
theorem t_comp {gs : FG} {fe : FE} {ρ : List En} {P : D → Prop} : ∀ {ds : List D}, (∀ d ∈ ds, ∃ ρ1, gs d ρ = some ρ1 ∧ TM (fe ρ1) P) → TM (compD gs tY fe ds ρ) (fun ys => ys.length = ds.length ∧ ∀ y ∈ ys, P y)
  | [], _ => TM.pure ⟨rfl, fun y hy => by simp at hy⟩
  | d :: ds, h => fun g hg => by
    obtain ⟨ρ1, e1, h1⟩ := h d (by simp)
    obtain ⟨y, g2, e2, p, hg2⟩ := h1 g hg
    obtain ⟨ys, g3, e3, ⟨q1, q2⟩, hg3⟩ := t_comp (ds := ds) (fun d hd => h d (by simp [hd])) g2 hg2
    refine ⟨y :: ys, g3, ?_, ⟨by simp [q1], fun z hz => ?_⟩, hg3⟩
    · simp [compD, e1, e2, e3]
    · rcases List.mem_cons.mp hz with rfl | hz
      · exact p
      · exact q2 z hz
theorem t_compF {gs : FG} {ft : FT} {fe : FE} {ρ : List En} : ∀ {ds : List D}, (∀ d ∈ ds, ∃ ρ1, gs d ρ = some ρ1 ∧ TM (ft ρ1) (fun _ => True) ∧ TM (fe ρ1) (fun y => y = d)) → TM (compD gs ft fe ds ρ) (fun ys => ys.Sublist ds)
  | [], _ => TM.pure (List.Sublist.refl _)
  | d :: ds, h => fun g hg => by
    obtain ⟨ρ1, e1, h0, h1⟩ := h d (by simp)
    obtain ⟨b, g1, e0, _, hg1⟩ := h0 g hg
    cases b with
    | false =>
      obtain ⟨ys, g3, e3, q, hg3⟩ := t_compF (ds := ds) (fun d hd => h d (by simp [hd])) g1 hg1
      exact ⟨ys, g3, by simp [compD, e1, e0, e3], q.cons _, hg3⟩
    | true =>
      obtain ⟨y, g2, e2, rfl, hg2⟩ := h1 g1 hg1
      obtain ⟨ys, g3, e3, q, hg3⟩ := t_compF (ds := ds) (fun d hd => h d (by simp [hd])) g2 hg2
      exact ⟨y :: ys, g3, by simp [compD, e1, e0, e2, e3], q.cons₂ _, hg3⟩
theorem te_lc {fi : FI} {vs : List Nat} {gs : FG} {ft : FT} {fe : FE} {ρ : List En} {ds : List D} {R : List D → Prop} {Q : D → Prop} (hi : TM (fi ρ) (fun xs => xs = ds)) (hc : TM (compD gs ft fe ds (blkE ρ vs)) R) (h : ∀ ys, R ys → ys.length ≤ 1000 ∧ Q (.lst ys)) : TM (cLc fi vs gs ft fe ρ) Q := by
  show TM (fun g => (fi ρ g).bd _) Q
  refine TM.bd hi ?_
  rintro xs rfl
  show TM (fun g => (compD gs ft fe xs (blkE ρ vs) g).bd _) Q
  refine TM.bd hc fun ys hy => TM.of (h ys hy).2 fun g => if_pos (h ys hy).1
theorem ti_rng {ρ : List En} {a : FE} {j : Int} (h0 : 0 ≤ j) (h1 : j ≤ 100000) (ha : TM (a ρ) (fun d => d = .int j)) : TM (iR1 (cC a cN) ρ) (fun xs => xs = rngD 0 j.toNat) := by
  show TM (fun g => (cC a cN ρ g).bd _) _
  refine TM.bd (fa_c ha fa_n) fun xs h => ?_
  obtain ⟨x, rfl, rfl⟩ := fit1 h
  refine TM.of rfl fun g => ?_
  rw [rng1_int h0 h1]; rfl
theorem rng_len (a : Int) (n : Nat) : (rngD a n).length = n := by simp [rngD]
/-! walks, counted -/
theorem t_loop {gs : FG} {fb : FS} {I : Nat → List En → Prop} (h : ∀ d n ρ, I n ρ → ∃ ρ1, gs d ρ = some ρ1 ∧ TM (fb ρ1) (fun f => ∃ ρ2, f = .nx ρ2 ∧ I (n + 1) ρ2)) : ∀ (ds : List D) (n : Nat) (ρ : List En), I n ρ → TM (loopD gs fb ds ρ) (fun f => ∃ ρ2, f = .nx ρ2 ∧ I (n + ds.length) ρ2)
  | [], n, ρ, i => TM.pure ⟨ρ, rfl, i⟩
  | d :: ds, n, ρ, i => fun g hg => by
    obtain ⟨ρ1, h1, hb⟩ := h d n ρ i
    obtain ⟨f, g2, e, ⟨ρ2, rfl, i2⟩, hg2⟩ := hb g hg
    obtain ⟨f3, g3, e3, ⟨ρ3, rfl, i3⟩, hg3⟩ := t_loop h ds (n + 1) ρ2 i2 g2 hg2
    refine ⟨_, g3, ?_, ⟨ρ3, rfl, ?_⟩, hg3⟩
    · unfold loopD
      rw [h1]
      simp only [e]
      exact e3
    · rw [List.length_cons, show n + (ds.length + 1) = n + 1 + ds.length by omega]; exact i3
theorem ts_for {ρ : List En} {fi : FI} {gs : FG} {fb : FS} {ds : List D} {Q : Fl → Prop} (hi : TM (fi ρ) (fun xs => xs = ds)) (hl : TM (loopD gs fb ds ρ) Q) : TM (sFor fi gs fb ρ) Q := by
  show TM (fun g => (fi ρ g).bd _) Q
  refine TM.bd hi ?_
  rintro xs rfl
  exact hl
theorem ts_app {ρ : List En} {i : Nat} {a : FE} {xs : List D} {P : D → Prop} {Q : Fl → Prop} (hi : ρ[i]? = some (.own xs)) (hl : xs.length ≤ 1000) (ha : TM (a ρ) P) (h : ∀ y, P y → Q (.nx (ρ.set i (.own (xs ++ [y]))))) : TM (sApp i a ρ) Q := by
  have e : sApp i a ρ = fun g => (a ρ g).bd fun y g1 => if xs.length ≤ 1000 then some (.ok (.nx (ρ.set i (.own (xs ++ [y])))) g1) else none := by
    funext g
    simp only [sApp, hi]
  rw [e]
  exact TM.bd ha fun y hy => TM.of (h y hy) fun g => if_pos hl
theorem ts_own {ρ : List En} {i : Nat} {Q : Fl → Prop} (h : Q (.nx (ρ.set i (.own [])))) : TM (sOwn i ρ) Q := TM.pure h
theorem ts_frz {ρ : List En} {i : Nat} {b : FS} {xs : List D} {Q : Fl → Prop} (hi : ρ[i]? = some (.own xs)) (hb : TM (b (ρ.set i (.dt (.lst xs)))) Q) : TM (sFrz i b ρ) Q := by
  have e : sFrz i b ρ = b (ρ.set i (.dt (.lst xs))) := by
    funext g
    simp only [sFrz, hi]
  rw [e]
  exact hb
end Kk03
set_option Elab.async false
set_option linter.all false
set_option maxRecDepth 100000
set_option maxHeartbeats 4000000
namespace Kk03
open PySem L2 FD
theorem te_of {α : Type} {m : Gh → M α} {a : α} {P : α → Prop} (e : ∀ g, m g = some (.ok a g)) (h : P a) : TM m P := TM.of h e
theorem ts_forR {ρ : List En} {fi : FI} {gs : FG} {fb : FS} {R : List D → Prop} {Q : Fl → Prop} (hi : TM (fi ρ) R) (hl : ∀ xs, R xs → TM (loopD gs fb xs ρ) Q) : TM (sFor fi gs fb ρ) Q := by
  show TM (fun g => (fi ρ g).bd _) Q
  exact TM.bd hi fun xs h => hl xs h
theorem t_loopN {gs : FG} {fb : FS} {N : Nat} {I : Nat → List En → Prop} (h : ∀ d n ρ, n < N → I n ρ → ∃ ρ1, gs d ρ = some ρ1 ∧ TM (fb ρ1) (fun f => ∃ ρ2, f = .nx ρ2 ∧ I (n + 1) ρ2)) : ∀ (ds : List D) (n : Nat) (ρ : List En), n + ds.length ≤ N → I n ρ → TM (loopD gs fb ds ρ) (fun f => ∃ ρ2, f = .nx ρ2 ∧ I (n + ds.length) ρ2)
  | [], n, ρ, _, i => TM.pure ⟨ρ, rfl, i⟩
  | d :: ds, n, ρ, hn, i => fun g hg => by
    simp only [List.length_cons] at hn
    obtain ⟨ρ1, h1, hb⟩ := h d n ρ (by omega) i
    obtain ⟨f, g2, e, ⟨ρ2, rfl, i2⟩, hg2⟩ := hb g hg
    obtain ⟨f3, g3, e3, ⟨ρ3, rfl, i3⟩, hg3⟩ := t_loopN h ds (n + 1) ρ2 (by omega) i2 g2 hg2
    refine ⟨_, g3, ?_, ⟨ρ3, rfl, ?_⟩, hg3⟩
    · unfold loopD
      rw [h1]
      simp only [e]
      exact e3
    · rw [List.length_cons, show n + (ds.length + 1) = n + 1 + ds.length by omega]; exact i3
theorem te_ixm {ρ : List En} {n : Nat} {a : FA} {e : FE} {P : D → Prop} (ha : TM (a ρ) (Menu n P)) (he : TM (e ρ) (fun d => ∃ v, d = .int v ∧ 0 ≤ v ∧ v < (n : Int))) (hn : n ≤ 1000 := by decide) : TM (cOp ixD (cLst a) e ρ) P := by
  refine te_op (P := fun d => ∃ xs, d = .lst xs ∧ Menu n P xs) (te_lst ha fun xs h => ⟨by rw [h.1]; exact hn, xs, rfl, h⟩) he ?_
  rintro x y ⟨xs, rfl, h⟩ ⟨v, rfl, h0, h1⟩
  have hv : v.toNat < xs.length := by rw [h.1]; omega
  refine ⟨xs[v.toNat], ?_, h.2 _ (List.getElem_mem hv)⟩
  rw [ixD_lst h0, List.getElem?_eq_getElem hv]
theorem tt_int {ρ : List En} {c : FT} {b : Bool} (e : ∀ g, c ρ g = some (.ok b g)) : TM (c ρ) (fun x => x = b) := TM.of rfl e
theorem ti_v {ρ : List En} {i : Nat} {v : Int} (e : ρ[i]? = some (.dt (.int v))) : TM (cV i ρ) (fun d => d = .int v) := te_v e rfl
def Fine (d : D) : Prop := fine d = true
theorem odd_play (g : Gh) : f_Play [.str "levels", .tup [.int 3]] g = some (.ok (thePlay (.str "levels") (.tup [.int 3])) g) := by
  have h1 : fine (.str "levels") = true := okS (by decide +kernel)
  rw [Play_eq h1 rfl, if_pos (by decide +kernel), if_pos (by decide +kernel)]
theorem t_odd : TM (f_law_odd [.hnd]) Fine := by
  refine tf_fn (N := 2) ?_
  refine ts_seq (I := fun ρ1 => ∃ v, ρ1 = [.dt .hnd, .dt (.int v)] ∧ 0 ≤ v ∧ v < 19) (ts_asg te_takeK ?_) ?_
  · rintro x ⟨v, rfl, h⟩
    exact ⟨_, rfl, _, rfl, v, rfl, h⟩
  rintro _ ⟨v, rfl, h0, h1⟩
  refine ts_ifret (B := fun x => x = decide (v < 6)) (tt_int fun g => by simp) (fun hb => ?_) (fun hb => ?_)
  · have hv : v < 6 := of_decide_eq_true hb.symm
    refine ts_ret (P := Fine) (te_ixm (n := 6) (me_c (te_d rfl) (me_c (te_d rfl) (me_c (te_d rfl) (me_c (te_d (okS (by decide +kernel))) (me_c (te_d (okS (by decide +kernel))) (me_c (te_d (okS (by decide +kernel))) me_n)))))) (te_v rfl ⟨v, rfl, h0, by omega⟩)) fun x hx => ⟨x, rfl, hx⟩
  have hv : ¬ v < 6 := of_decide_eq_false hb.symm
  refine ts_ifret (B := fun x => x = decide (v < 12)) (tt_int fun g => by simp) (fun hb => ?_) (fun hb => ?_)
  · have hv2 : v < 12 := of_decide_eq_true hb.symm
    refine ts_ret (P := Fine) (te_ixm (n := 6) (me_c (te_of (fun g => rfl) rfl) (me_c (te_of (fun g => rfl) rfl) (me_c (te_of (fun g => rfl) rfl) (me_c (te_of (fun g => rfl) rfl) (me_c (te_of (fun g => rfl) rfl) (me_c (te_of (fun g => rfl) rfl) me_n)))))) (te_of (a := .int (v - 6)) (fun g => by simp) ⟨_, rfl, by omega, by omega⟩)) fun x hx => ⟨x, rfl, hx⟩
  have hv2 : ¬ v < 12 := of_decide_eq_false hb.symm
  refine ts_ifret (B := fun x => x = (v == 18)) (tt_int fun g => by simp) (fun hb => ?_) (fun hb => ?_)
  · refine ts_ret (P := Fine) (te_of (a := thePlay (.str "levels") (.tup [.int 3])) (fun g => ?_) rfl) fun x hx => ⟨x, rfl, hx⟩
    have := odd_play g
    simp [this]
  have hv3 : v ≠ 18 := fun z => by subst z; simp at hb
  refine ts_ret (P := Fine) (te_ixm (n := 6) (me_c (te_of (fun g => rfl) rfl) (me_c (te_of (fun g => rfl) rfl) (me_c (te_of (fun g => rfl) rfl) (me_c (te_of (fun g => rfl) rfl) (me_c (te_of (fun g => rfl) (by show fine _ = true; decide +kernel)) (me_c (te_of (fun g => rfl) rfl) me_n)))))) (te_of (a := .int (v - 12)) (fun g => by simp) ⟨_, rfl, by omega, by omega⟩)) fun x hx => ⟨x, rfl, hx⟩
/-! scripts -/
def Deed (d : D) : Prop := deedB d = true ∧ fine d = true
def Range (a b : Int) (d : D) : Prop := ∃ v, d = .int v ∧ a ≤ v ∧ v ≤ b
theorem Range.inR {a b : Int} {d : D} (h : Range a b d) : inR a b d = true := by
  obtain ⟨v, rfl, h0, h1⟩ := h
  simp [Kk03.inR, h0, h1]
theorem Range.fine {a b : Int} {d : D} (h : Range a b d) : fine d = true := by
  obtain ⟨v, rfl, _⟩ := h; rfl
theorem see_deed : Deed (.tup [.str "see"]) := ⟨by decide +kernel, by decide +kernel⟩
theorem t_script {most : Int} (h0 : 0 ≤ most) (h6 : most ≤ 6) : TM (f_law_script [.hnd, .int most]) (fun d => scriptB d = true ∧ fine d = true) := by
  refine tf_fn (N := 4) ?_
  refine ts_seq (I := fun ρ1 => ρ1 = [.dt .hnd, .dt (.int most), .own [], .un]) (ts_own ⟨_, rfl, rfl⟩) ?_
  rintro _ rfl
  refine ts_seq (I := fun ρ1 => ∃ n x xs, ρ1 = [.dt .hnd, .dt (.int most), .own xs, x] ∧ xs.length = n ∧ n ≤ 6 ∧ ∀ d ∈ xs, Deed d) (ts_forR (R := fun xs => xs.length ≤ 6) ?_ ?_) ?_
  · show TM (fun g => (cC (cFn 2 f_law_take (cC (cV 0) (cC (cOp addD (cV 1) (cD (.int 1))) cN))) cN [.dt .hnd, .dt (.int most), .own [], .un] g).bd _) _
    refine TM.bd (fa_c (te_take (m := most + 1) (te_of (fun g => rfl) rfl) (by omega) (by omega)) fa_n) fun xs h => ?_
    obtain ⟨_, rfl, v, rfl, g0, g1⟩ := fit1 h
    refine TM.of (a := rngD 0 v.toNat) ?_ fun g => ?_
    · rw [rng_len]; omega
    · rw [rng1_int g0 (by omega)]; rfl
  · intro ds hds
    refine (t_loopN (N := 6) (I := fun n ρ1 => ∃ x xs, ρ1 = [.dt .hnd, .dt (.int most), .own xs, x] ∧ xs.length = n ∧ ∀ d ∈ xs, Deed d) ?_ ds 0 _ (by omega) ⟨_, _, rfl, rfl, fun d hd => by simp at hd⟩).imp ?_
    · rintro d n _ hn ⟨x, xs, rfl, hl, hx⟩
      refine ⟨_, rfl, ts_if (P := fun _ => True) (tt_t (te_op te_takeK (te_d (P := fun d => d = .int 0) rfl) ?_) (Q := fun _ => True) (P := fun d => ∃ b, d = .bl b) ?_) (fun _ => ?_) (fun _ => ?_)⟩
      · rintro x y ⟨v, rfl, _⟩ rfl
        exact ⟨_, eqD_int _ _, _, rfl⟩
      · rintro x ⟨b, rfl⟩
        exact ⟨b, rfl, trivial⟩
      · refine ts_app rfl (by omega) (te_of (P := Deed) (fun g => rfl) see_deed) fun y hy => ⟨_, rfl, _, _, rfl, by simp [hl], fun z hz => ?_⟩
        rcases List.mem_append.mp hz with hz | hz
        · exact hx z hz
        · have : z = y := by simpa using hz
          exact this ▸ hy
      · refine ts_app (P := Deed) rfl (by omega) (te_tup (fa_c (P := fun d => d = .str "put") (te_d rfl) (fa_c (P := Range 0 999) (te_pick (n := 5) (me_c (te_d ⟨_, rfl, by decide, by decide⟩) (me_c (te_d ⟨_, rfl, by decide, by decide⟩) (me_c (te_d ⟨_, rfl, by decide, by decide⟩) (me_c (te_d ⟨_, rfl, by decide, by decide⟩) (me_c (te_d ⟨_, rfl, by decide, by decide⟩) (me_c (TM.imp te_takeK ?_) me_n))))))) fa_n)) fun ys h => ?_) fun y hy => ⟨_, rfl, _, _, rfl, by simp [hl], fun z hz => ?_⟩
        · rintro a ⟨v, rfl, g0, g1⟩
          exact ⟨v, rfl, g0, by omega⟩
        · obtain ⟨a, b, rfl, rfl, hb⟩ := fit2 h
          refine ⟨by simp, ?_, ?_⟩
          · show (isW ["put"] (.str "put") && inR 0 999 b) = true
            rw [hb.inR]; decide +kernel
          · rw [fine_tup]
            refine ⟨by simp, fun d hd => ?_⟩
            have : d = .str "put" ∨ d = b := by simpa using hd
            rcases this with rfl | rfl
            · exact okS (by decide +kernel)
            · exact hb.fine
        · rcases List.mem_append.mp hz with hz | hz
          · exact hx z hz
          · have : z = y := by simpa using hz
            exact this ▸ hy
    · rintro f ⟨ρ2, rfl, x, xs, rfl, hl, hx⟩
      exact ⟨_, rfl, _, _, _, rfl, rfl, by omega, hx⟩
  · rintro _ ⟨n, x, xs, rfl, hl, hn, hx⟩
    refine ts_frz rfl (ts_ret (te_of (a := .tup xs) (P := fun d => scriptB d = true ∧ fine d = true) (fun g => rfl) ⟨?_, ?_⟩) fun x hx => ⟨x, rfl, hx⟩)
    · simp only [scriptB, Bool.and_eq_true, decide_eq_true_eq]
      exact ⟨by omega, List.all_eq_true.mpr fun d hd => (hx d hd).1⟩
    · rw [fine_tup]
      exact ⟨by omega, fun d hd => (hx d hd).2⟩
end Kk03
set_option Elab.async false
set_option linter.all false
set_option maxRecDepth 100000
set_option maxHeartbeats 4000000
namespace Kk03
open PySem L2 FD
def Script (d : D) : Prop := scriptB d = true ∧ fine d = true
def Pair (d : D) : Prop := ∃ k x, d = .tup [k, x] ∧ GP k x
theorem rowB_of {n : Nat} {P : D → Prop} {ys : List D} (h : Menu n P ys) (h1 : 1 ≤ n) (h5 : n ≤ 5) : rowB (.tup ys) = true := by
  simp only [rowB, Bool.and_eq_true, decide_eq_true_eq, h.1]
  omega
theorem gp_manner {k : Str} {ys : List D} {n : Nat} (hk : k ∈ MAN) (h : Menu n Script ys) (h1 : 1 ≤ n) (h5 : n ≤ 5) : GP (.str k) (.tup ys) := by
  have hk2 : k ∈ KIN := by
    simp only [List.mem_cons, List.not_mem_nil, or_false] at hk
    rcases hk with rfl | rfl | rfl <;> decide +kernel
  have hn : k ≠ "near" := by
    simp only [List.mem_cons, List.not_mem_nil, or_false] at hk
    rcases hk with rfl | rfl | rfl <;> decide +kernel
  refine ⟨⟨k, rfl, hk2, ?_⟩, ok7 k hk2, ?_⟩
  · rw [inputsB_tup, if_neg hn, rowB_of h h1 h5, if_pos (List.contains_iff_mem.mpr hk)]
    simp only [Bool.true_and]
    exact List.all_eq_true.mpr fun d hd => (h.2 d hd).1
  · rw [fine_tup]
    exact ⟨by rw [h.1]; omega, fun d hd => (h.2 d hd).2⟩
theorem t_manner : TM (f_law_manner [.hnd]) Pair := by
  refine tf_fn (N := 4) ?_
  refine ts_seq (I := fun ρ1 => ∃ v, ρ1 = [.dt .hnd, .dt (.int v), .un, .un] ∧ 1 ≤ v ∧ v ≤ 5) (ts_asg (te_pick (P := Range 1 5) (n := 6) (me_c (te_d ⟨_, rfl, by decide, by decide⟩) (me_c (te_d ⟨_, rfl, by decide, by decide⟩) (me_c (te_d ⟨_, rfl, by decide, by decide⟩) (me_c (te_d ⟨_, rfl, by decide, by decide⟩) (me_c (te_d ⟨_, rfl, by decide, by decide⟩) (me_c (te_d ⟨_, rfl, by decide, by decide⟩) (me_c (te_d ⟨_, rfl, by decide, by decide⟩) me_n)))))))) ?_) ?_
  · rintro x ⟨v, rfl, h⟩
    exact ⟨_, rfl, _, rfl, v, rfl, h⟩
  rintro _ ⟨v, rfl, h1, h5⟩
  refine ts_seq (I := fun ρ1 => ∃ w, ρ1 = [.dt .hnd, .dt (.int v), .dt (.int w), .un] ∧ 1 ≤ w ∧ w ≤ 6) (ts_asg (te_pick (P := Range 1 6) (n := 3) (me_c (te_d ⟨_, rfl, by decide, by decide⟩) (me_c (te_d ⟨_, rfl, by decide, by decide⟩) (me_c (te_d ⟨_, rfl, by decide, by decide⟩) (me_c (te_d ⟨_, rfl, by decide, by decide⟩) me_n))))) ?_) ?_
  · rintro x ⟨w, rfl, h⟩
    exact ⟨_, rfl, _, rfl, w, rfl, h⟩
  rintro _ ⟨w, rfl, g1, g6⟩
  refine ts_ret (P := Pair) (te_tup (fa_c (P := fun d => ∃ k, d = .str k ∧ k ∈ MAN) (te_pick (n := 3) (me_c (te_d ⟨_, rfl, by decide +kernel⟩) (me_c (te_d ⟨_, rfl, by decide +kernel⟩) (me_c (te_d ⟨_, rfl, by decide +kernel⟩) (me_c (te_d ⟨_, rfl, by decide +kernel⟩) me_n))))) (fa_c (P := fun d => ∃ ys, d = .tup ys ∧ Menu v.toNat Script ys) (te_call (fa_c (P := fun d => ∃ ys, d = .lst ys ∧ Menu v.toNat Script ys) (te_lc (ti_rng (by omega) (by omega) (te_v rfl rfl)) (t_comp (P := Script) ?_) ?_) fa_n) ?_) fa_n)) ?_) fun x hx => ⟨x, rfl, hx⟩
  · intro d hd
    refine ⟨_, rfl, te_fn (fa_c (P := fun d => d = .hnd) (te_v rfl rfl) (fa_c (P := fun d => d = .int w) (te_v rfl rfl) fa_n)) fun xs h => ?_⟩
    obtain ⟨x, y, rfl, rfl, rfl⟩ := fit2 h
    exact ⟨rfl, t_script (by omega) g6⟩
  · rintro ys ⟨hl, hy⟩
    rw [rng_len] at hl
    exact ⟨by omega, ys, rfl, hl, hy⟩
  · intro xs h
    obtain ⟨_, rfl, ys, rfl, hy⟩ := fit1 h
    exact ⟨_, rfl, ys, rfl, hy⟩
  · intro xs h
    obtain ⟨_, _, rfl, ⟨k, rfl, hk⟩, ys, rfl, hy⟩ := fit2 h
    exact ⟨by simp, _, _, rfl, gp_manner hk hy (by omega) (by omega)⟩
theorem gp_levels {ys : List D} {n : Nat} (h : Menu n (Range 0 999) ys) (h1 : 1 ≤ n) (h5 : n ≤ 5) : GP (.str "levels") (.tup ys) := by
  refine ⟨⟨_, rfl, by decide +kernel, ?_⟩, okS (by decide +kernel), ?_⟩
  · rw [inputsB_tup, if_neg (by decide +kernel), rowB_of h h1 h5, if_neg (by decide +kernel), if_neg (by decide +kernel)]
    have : ys.all (inR 0 999) = true := List.all_eq_true.mpr fun d hd => (h.2 d hd).inR
    rw [this]; rfl
  · rw [fine_tup]
    exact ⟨by rw [h.1]; omega, fun d hd => (h.2 d hd).fine⟩
theorem gp_near {r : D} {ys : List D} {n : Nat} (hr : Range 1 6 r) (h : Menu n (Range (-1000) 1000) ys) (h1 : 1 ≤ n) (h5 : n ≤ 5) : GP (.str "near") (.tup [r, .tup ys]) := by
  have hf : fine (.tup ys) = true := by
    rw [fine_tup]
    exact ⟨by rw [h.1]; omega, fun d hd => (h.2 d hd).fine⟩
  refine ⟨⟨_, rfl, by decide +kernel, ?_⟩, okS (by decide +kernel), ?_⟩
  · rw [inputsB_tup, if_pos rfl]
    simp only [nearB, hr.inR, rowB_of h h1 h5, Bool.true_and]
    exact List.all_eq_true.mpr fun d hd => (h.2 d hd).inR
  · rw [fine_tup]
    refine ⟨by simp, fun d hd => ?_⟩
    have : d = r ∨ d = .tup ys := by simpa using hd
    rcases this with rfl | rfl
    · exact hr.fine
    · exact hf
def Lot (d : D) : Prop := lotB d = true ∧ fine d = true
theorem gp_chain {ys : List D} {n : Nat} (h : Menu n Lot ys) (h1 : 1 ≤ n) (h5 : n ≤ 5) : GP (.str "chain") (.tup ys) := by
  refine ⟨⟨_, rfl, by decide +kernel, ?_⟩, okS (by decide +kernel), ?_⟩
  · rw [inputsB_tup, if_neg (by decide +kernel), rowB_of h h1 h5, if_neg (by decide +kernel), if_pos rfl]
    simp only [Bool.true_and]
    exact List.all_eq_true.mpr fun d hd => (h.2 d hd).1
  · rw [fine_tup]
    exact ⟨by rw [h.1]; omega, fun d hd => (h.2 d hd).2⟩
/-- numbers, no two alike -/
def Names (n : Nat) (ys : List D) : Prop := ∃ ns : List Int, ys = ns.map .int ∧ ns.length = n ∧ ns.Nodup ∧ ∀ k ∈ ns, 0 ≤ k ∧ k ≤ 999
theorem intsOf_map : ∀ ns : List Int, intsOf (ns.map .int) = some ns
  | [] => rfl
  | n :: ns => by simp [intsOf, intsOf_map ns]
theorem gp_names {ys : List D} {n : Nat} (h : Names n ys) (h1 : 1 ≤ n) (h5 : n ≤ 5) : GP (.str "names") (.tup ys) := by
  obtain ⟨ns, rfl, hl, nd, hr⟩ := h
  have m : Menu n (Range 0 999) (ns.map .int) := ⟨by simp [hl], fun d hd => by
    obtain ⟨k, hk, rfl⟩ := List.mem_map.mp hd
    exact ⟨k, rfl, hr k hk⟩⟩
  refine ⟨⟨_, rfl, by decide +kernel, ?_⟩, okS (by decide +kernel), ?_⟩
  · rw [inputsB_tup, if_neg (by decide +kernel), rowB_of m h1 h5, if_neg (by decide +kernel), if_neg (by decide +kernel)]
    have e1 : (ns.map D.int).all (inR 0 999) = true := List.all_eq_true.mpr fun d hd => (m.2 d hd).inR
    have e2 : distinctB (ns.map .int) = true := by
      have hu : unlike ns = ns.length := ((List.perm_ext_iff_of_nodup nd (eraseDups_nodup ns)).mpr (fun k => by rw [List.mem_eraseDups])).length_eq.symm
      unfold distinctB
      rw [intsOf_map]
      simp [hu]
    rw [e1, e2]
    decide +kernel
  · rw [fine_tup]
    exact ⟨by simp; omega, fun d hd => (m.2 d hd).fine⟩
/-! lots -/
def LtD (x y : D) : Prop := ∃ i j, x = .int i ∧ y = .int j ∧ i < j
theorem asc_of : ∀ {ys : List D}, ys.Pairwise LtD → ascI ys = true
  | [], _ => rfl
  | [x], _ => by cases x <;> rfl
  | x :: y :: r, h => by
    obtain ⟨i, j, rfl, rfl, hij⟩ := (List.pairwise_cons.mp h).1 y (by simp)
    have ih := asc_of (List.pairwise_cons.mp h).2
    simp [ascI, hij, ih]
theorem lot_sub {ys : List D} (h : ys.Sublist (rngD 0 20)) : Lot (.tup ys) := by
  have pw : (rngD 0 20).Pairwise LtD := by
    unfold rngD
    rw [List.pairwise_map]
    exact List.pairwise_lt_range.imp fun {a b} hab => ⟨_, _, rfl, rfl, by omega⟩
  have hm : ∀ d ∈ ys, Range 0 19 d := fun d hd => by
    have := h.subset hd
    unfold rngD at this
    obtain ⟨k, hk, rfl⟩ := List.mem_map.mp this
    have := List.mem_range.mp hk
    exact ⟨_, rfl, by omega, by omega⟩
  have hl := h.length_le
  rw [rng_len] at hl
  refine ⟨?_, ?_⟩
  · simp only [lotB, Bool.and_eq_true]
    exact ⟨List.all_eq_true.mpr fun d hd => (hm d hd).inR, asc_of (pw.sublist h)⟩
  · rw [fine_tup]
    exact ⟨by omega, fun d hd => (hm d hd).fine⟩
end Kk03
set_option Elab.async false
set_option linter.all false
set_option maxRecDepth 100000
set_option maxHeartbeats 4000000
namespace Kk03
open PySem L2 FD
theorem mem_rng {d : D} {n : Nat} (h : d ∈ rngD 0 n) : ∃ k : Nat, k < n ∧ d = .int (k : Int) := by
  unfold rngD at h
  obtain ⟨k, hk, rfl⟩ := List.mem_map.mp h
  exact ⟨k, List.mem_range.mp hk, by simp⟩
def fwd (f : Int) (n : Nat) : List Int := (List.range n).map fun (k : Nat) => f + 17 * (k : Int)
def bwd (f : Int) (n : Nat) : List Int := (List.range n).map fun (k : Nat) => f + 17 * ((n : Int) - 1 - (k : Int))
theorem fwd_names {f : Int} {n : Nat} (h0 : 0 ≤ f) (h1 : f < 900) (hn : n ≤ 5) : Names n ((fwd f n).map .int) := by
  refine ⟨fwd f n, rfl, by simp [fwd], ?_, fun k hk => ?_⟩
  · unfold fwd List.Nodup
    rw [List.pairwise_map]
    exact List.pairwise_lt_range.imp fun {a b} hab => by omega
  · unfold fwd at hk
    obtain ⟨j, hj, rfl⟩ := List.mem_map.mp hk
    have := List.mem_range.mp hj
    omega
theorem bwd_names {f : Int} {n : Nat} (h0 : 0 ≤ f) (h1 : f < 900) (hn : n ≤ 5) : Names n ((bwd f n).map .int) := by
  refine ⟨bwd f n, rfl, by simp [bwd], ?_, fun k hk => ?_⟩
  · unfold bwd List.Nodup
    rw [List.pairwise_map]
    exact List.pairwise_lt_range.imp fun {a b} hab => by omega
  · unfold bwd at hk
    obtain ⟨j, hj, rfl⟩ := List.mem_map.mp hk
    have := List.mem_range.mp hj
    omega
abbrev spE (t : Int) (n : Nat) (a b c d e : En) : List En := [.dt .hnd, .dt (.int t), .dt (.int (n : Nat)), a, b, c, d, e]
theorem comp_fwd {f t : Int} {n : Nat} {a b c d : En} (g : Gh) : compD (gN 6) tY (cOp addD (cV 3) (cOp mulD (cD (.int 17)) (cV 6))) (rngD 0 n) (spE t n (.dt (.int f)) a b c d) g = some (.ok ((fwd f n).map .int) g) := by
  have m17 : ∀ k, mulD (.int 17) (.int k) = some (.int (17 * k)) := fun k => mulD_int (.inl (by decide))
  have e : (fwd f n).map D.int = (rngD 0 n).map fun d => match d with | .int k => .int (f + 17 * k) | d => d := by
    simp [fwd, rngD]
  rw [e]
  refine compD_map fun x hx => ?_
  obtain ⟨k, hk, rfl⟩ := mem_rng hx
  exact ⟨_, rfl, by simp [m17]⟩
theorem comp_bwd {f t : Int} {n : Nat} {x a c d : En} (g : Gh) : compD (gN 6) tY (cOp ixD (cV 4) (cOp subD (cOp subD (cV 2) (cD (.int 1))) (cV 6))) (rngD 0 n) (spE t n x (.dt (.lst ((fwd f n).map .int))) a c d) g = some (.ok ((bwd f n).map .int) g) := by
  have e : (bwd f n).map D.int = (rngD 0 n).map fun d => match d with | .int k => .int (f + 17 * ((n : Int) - 1 - k)) | d => d := by
    simp [bwd, rngD]
  rw [e]
  refine compD_map fun x hx => ?_
  obtain ⟨k, hk, rfl⟩ := mem_rng hx
  have hi : ixD (.lst ((fwd f n).map .int)) (.int ((n : Int) - 1 - (k : Int))) = some (.int (f + 17 * ((n : Int) - 1 - (k : Int)))) := by
    rw [ixD_lst (by omega)]
    unfold fwd
    rw [List.map_map, List.getElem?_map, List.getElem?_range (by omega)]
    simp
    omega
  exact ⟨_, rfl, by simp [hi]⟩
def SomeOk : Prop := ∀ g, HOK g → Sat (f_law_some_play [.hnd] g) (fun d g' => (∃ k x, d = .tup [k, x] ∧ GP k x) ∧ HOK g')
theorem some_ok : SomeOk := by
  refine tf_fn (N := 8) (P := Pair) (ds := [.hnd]) ?_
  refine ts_seq (I := fun ρ1 => ∃ t, ρ1 = [.dt .hnd, .dt (.int t), .un, .un, .un, .un, .un, .un]) (ts_asg te_takeK ?_) ?_
  · rintro x ⟨v, rfl, h⟩
    exact ⟨_, rfl, _, rfl, v, rfl⟩
  rintro _ ⟨t, rfl⟩
  refine ts_seq (I := fun ρ1 => ∃ n : Nat, ρ1 = spE t n .un .un .un .un .un ∧ 1 ≤ n ∧ n ≤ 5) (ts_asg (te_pick (P := Range 1 5) (n := 4) (me_c (te_d ⟨_, rfl, by decide, by decide⟩) (me_c (te_d ⟨_, rfl, by decide, by decide⟩) (me_c (te_d ⟨_, rfl, by decide, by decide⟩) (me_c (te_d ⟨_, rfl, by decide, by decide⟩) (me_c (te_d ⟨_, rfl, by decide, by decide⟩) me_n)))))) ?_) ?_
  · rintro x ⟨v, rfl, h1, h5⟩
    obtain ⟨n, rfl⟩ := Int.eq_ofNat_of_zero_le (by omega : 0 ≤ v)
    exact ⟨_, rfl, _, rfl, n, rfl, by omega, by omega⟩
  rintro _ ⟨n, rfl, h1, h5⟩
  have ti : ∀ {a b c d e : En}, TM (iR1 (cC (cV 2) cN) (spE t n a b c d e)) (fun xs => xs = rngD 0 n) := fun {a b c d e} => (ti_rng (j := (n : Int)) (by omega) (by omega) (te_v rfl rfl)).imp fun xs h => h
  refine ts_ifret (B := fun x => x = (t == 0)) (tt_int fun g => by simp) (fun hb => ?_) (fun hb => ?_)
  · refine ts_ret (P := Pair) (te_tup (fa_c (P := fun d => d = .str "levels") (te_d rfl) (fa_c (P := fun d => ∃ ys, d = .tup ys ∧ Menu n (Range 0 999) ys) (te_call (fa_c (P := fun d => ∃ ys, d = .lst ys ∧ Menu n (Range 0 999) ys) (te_lc ti (t_comp (P := Range 0 999) ?_) ?_) fa_n) ?_) fa_n)) ?_) fun x hx => ⟨x, rfl, hx⟩
    · intro d hd
      refine ⟨_, rfl, TM.imp te_takeK ?_⟩
      rintro a ⟨v, rfl, g0, g1⟩
      exact ⟨v, rfl, g0, by omega⟩
    · rintro ys ⟨hl, hy⟩
      rw [rng_len] at hl
      exact ⟨by omega, ys, rfl, hl, hy⟩
    · intro xs h
      obtain ⟨_, rfl, ys, rfl, hy⟩ := fit1 h
      exact ⟨_, rfl, ys, rfl, hy⟩
    · intro xs h
      obtain ⟨_, _, rfl, rfl, ys, rfl, hy⟩ := fit2 h
      exact ⟨by simp, _, _, rfl, gp_levels hy h1 h5⟩
  refine ts_ifret (B := fun x => x = (t == 1)) (tt_int fun g => by simp) (fun hb => ?_) (fun hb => ?_)
  · refine ts_seq (I := fun ρ1 => ∃ f, ρ1 = spE t n (.dt (.int f)) .un .un .un .un ∧ 0 ≤ f ∧ f < 900) (ts_asg te_takeK ?_) ?_
    · rintro x ⟨v, rfl, h⟩
      exact ⟨_, rfl, _, rfl, v, rfl, h⟩
    rintro _ ⟨f, rfl, f0, f1⟩
    refine ts_seq (I := fun ρ1 => ρ1 = spE t n (.dt (.int f)) (.dt (.lst ((fwd f n).map .int))) .un .un .un) (ts_asg (P := fun d => d = .lst ((fwd f n).map .int)) (te_lc ti (te_of (P := fun ys => ys = (fwd f n).map .int) (fun g => comp_fwd g) rfl) ?_) ?_) ?_
    · rintro _ rfl
      exact ⟨by simp [fwd]; omega, rfl⟩
    · rintro _ rfl
      exact ⟨_, rfl, _, rfl, rfl⟩
    rintro _ rfl
    refine ts_seq (I := fun ρ1 => ∃ ys, ρ1 = spE t n (.dt (.int f)) (.dt (.lst ys)) .un .un .un ∧ Names n ys) (ts_if (P := fun _ => True) (tt_t (P := fun d => ∃ b, d = .bl b) (te_op te_takeK (te_d (P := fun d => d = .int 0) rfl) ?_) ?_) (fun _ => ts_asg (P := fun d => d = .lst ((bwd f n).map .int)) (te_lc ti (te_of (P := fun ys => ys = (bwd f n).map .int) (fun g => comp_bwd g) rfl) ?_) ?_) (fun _ => TM.pure ⟨_, rfl, _, rfl, fwd_names f0 f1 h5⟩)) ?_
    · rintro x y ⟨v, rfl, _⟩ rfl
      exact ⟨_, eqD_int _ _, _, rfl⟩
    · rintro x ⟨b, rfl⟩
      exact ⟨b, rfl, trivial⟩
    · rintro _ rfl
      exact ⟨by simp [bwd]; omega, rfl⟩
    · rintro _ rfl
      exact ⟨_, rfl, _, rfl, _, rfl, bwd_names f0 f1 h5⟩
    rintro _ ⟨ys, rfl, hy⟩
    exact ts_ret (P := Pair) (te_of (a := .tup [.str "names", .tup ys]) (fun g => rfl) ⟨_, _, rfl, gp_names hy h1 h5⟩) fun x hx => ⟨x, rfl, hx⟩
  refine ts_ifret (B := fun x => x = (t == 2)) (tt_int fun g => by simp) (fun hb => ?_) (fun hb => ?_)
  · refine ts_ret (P := Pair) (te_tup (fa_c (P := fun d => d = .str "near") (te_d rfl) (fa_c (P := fun d => ∃ r ys, d = .tup [r, .tup ys] ∧ Range 1 6 r ∧ Menu n (Range (-1000) 1000) ys) (te_tup (fa_c (P := Range 1 6) (te_op (te_d (P := fun d => d = .int 1) rfl) te_takeK ?_) (fa_c (P := fun d => ∃ ys, d = .tup ys ∧ Menu n (Range (-1000) 1000) ys) (te_call (fa_c (P := fun d => ∃ ys, d = .lst ys ∧ Menu n (Range (-1000) 1000) ys) (te_lc ti (t_comp (P := Range (-1000) 1000) ?_) ?_) fa_n) ?_) fa_n)) ?_) fa_n)) ?_) fun x hx => ⟨x, rfl, hx⟩
    · rintro x y rfl ⟨v, rfl, g0, g1⟩
      exact ⟨_, rfl, _, rfl, by omega, by omega⟩
    · intro d hd
      refine ⟨_, rfl, te_op te_takeK (te_d (P := fun d => d = .int 1000) rfl) ?_⟩
      rintro x y ⟨v, rfl, g0, g1⟩ rfl
      exact ⟨_, rfl, _, rfl, by omega, by omega⟩
    · rintro ys ⟨hl, hy⟩
      rw [rng_len] at hl
      exact ⟨by omega, ys, rfl, hl, hy⟩
    · intro xs h
      obtain ⟨_, rfl, ys, rfl, hy⟩ := fit1 h
      exact ⟨_, rfl, ys, rfl, hy⟩
    · intro xs h
      obtain ⟨r, _, rfl, hr, ys, rfl, hy⟩ := fit2 h
      exact ⟨by simp, r, ys, rfl, hr, hy⟩
    · intro xs h
      obtain ⟨_, _, rfl, rfl, r, ys, rfl, hr, hy⟩ := fit2 h
      exact ⟨by simp, _, _, rfl, gp_near hr hy h1 h5⟩
  refine ts_ifret (B := fun x => x = (t == 3)) (tt_int fun g => by simp) (fun hb => ?_) (fun hb => ?_)
  · refine ts_seq (I := fun ρ1 => ρ1 = spE t n .un .un (.own []) .un .un) (ts_own ⟨_, rfl, rfl⟩) ?_
    rintro _ rfl
    refine ts_seq (I := fun ρ1 => ∃ xs x y, ρ1 = spE t n .un .un (.own xs) x y ∧ Menu n Lot xs) (ts_forR ti ?_) ?_
    · rintro _ rfl
      refine (t_loopN (N := 5) (I := fun m ρ1 => ∃ xs x y, ρ1 = spE t n .un .un (.own xs) x y ∧ Menu m Lot xs) ?_ (rngD 0 n) 0 _ (by rw [rng_len]; omega) ⟨_, _, _, rfl, rfl, fun d hd => by simp at hd⟩).imp ?_
      · rintro d m _ hm ⟨xs, x, y, rfl, hl, hx⟩
        refine ⟨_, rfl, ts_app (P := Lot) rfl (by omega) (te_call (fa_c (P := fun d => ∃ ys, d = .lst ys ∧ Lot (.tup ys)) (te_lc (ti_rng (j := 20) (by decide) (by decide) (te_d rfl)) (t_compF ?_) ?_) fa_n) ?_) ?_⟩
        · intro d hd
          refine ⟨_, rfl, tt_t (P := fun d => ∃ b, d = .bl b) (te_op te_takeK (te_d (P := fun d => d = .int 0) rfl) ?_) ?_, te_v rfl rfl⟩
          · rintro x y ⟨v, rfl, _⟩ rfl
            exact ⟨_, eqD_int _ _, _, rfl⟩
          · rintro x ⟨b, rfl⟩
            exact ⟨b, rfl, trivial⟩
        · intro ys hy
          have := hy.length_le
          rw [rng_len] at this
          exact ⟨Nat.le_trans this (by decide), ys, rfl, lot_sub hy⟩
        · intro zs h
          obtain ⟨_, rfl, ys, rfl, hy⟩ := fit1 h
          exact ⟨_, rfl, hy⟩
        · intro z hz
          refine ⟨_, rfl, _, _, _, rfl, by simp [hl], fun q hq => ?_⟩
          rcases List.mem_append.mp hq with hq | hq
          · exact hx q hq
          · have : q = z := by simpa using hq
            exact this ▸ hz
      · rintro f ⟨ρ2, rfl, xs, x, y, rfl, hm⟩
        rw [rng_len, Nat.zero_add] at hm
        exact ⟨_, rfl, xs, x, y, rfl, hm⟩
    · rintro _ ⟨xs, x, y, rfl, hm⟩
      exact ts_frz rfl (ts_ret (P := Pair) (te_of (a := .tup [.str "chain", .tup xs]) (fun g => rfl) ⟨_, _, rfl, gp_chain hm h1 h5⟩) fun x hx => ⟨x, rfl, hx⟩)
  · refine ts_ret (P := Pair) (te_fn (fa_c (P := fun d => d = .hnd) (te_v rfl rfl) fa_n) fun xs h => ?_) fun x hx => ⟨x, rfl, hx⟩
    obtain ⟨_, rfl, rfl⟩ := fit1 h
    exact ⟨rfl, t_manner⟩
end Kk03
set_option Elab.async false
set_option linter.all false
set_option maxRecDepth 100000
set_option maxHeartbeats 4000000
namespace Kk03
open PySem L2 FD
/-! ### what is told without a draw -/
def EX {α : Type} (m : Gh → M α) (a : α) : Prop := ∀ g, m g = some (.ok a g)
theorem EX.bd {α β : Type} {m : Gh → M α} {k : α → Gh → M β} {a : α} {b : β} (h : EX m a) (hk : EX (k a) b) : EX (fun g => (m g).bd k) b := fun g => by
  show (m g).bd k = _
  rw [h g]; exact hk g
theorem ex_d {ρ : List En} {d : D} : EX (cD d ρ) d := fun g => rfl
theorem ex_v {ρ : List En} {i : Nat} {d : D} (e : ρ[i]? = some (.dt d)) : EX (cV i ρ) d := fun g => by simp only [cV, e]
theorem ex_n {ρ : List En} : EX (cN ρ) [] := fun g => rfl
theorem ex_c {ρ : List En} {a : FE} {b : FA} {x : D} {xs : List D} (ha : EX (a ρ) x) (hb : EX (b ρ) xs) : EX (cC a b ρ) (x :: xs) := EX.bd ha (EX.bd hb fun g => rfl)
theorem ex_tup {ρ : List En} {a : FA} {xs : List D} (ha : EX (a ρ) xs) (hl : xs.length ≤ 1000 := by simp) : EX (cTup a ρ) (.tup xs) := EX.bd ha fun g => if_pos hl
theorem ex_lst {ρ : List En} {a : FA} {xs : List D} (ha : EX (a ρ) xs) (hl : xs.length ≤ 1000 := by simp) : EX (cLst a ρ) (.lst xs) := EX.bd ha fun g => if_pos hl
theorem ex_op {ρ : List En} {op : D → D → Option D} {a b : FE} {x y z : D} (ha : EX (a ρ) x) (hb : EX (b ρ) y) (h : op x y = some z) : EX (cOp op a b ρ) z := EX.bd ha (EX.bd hb fun g => by rw [h]; rfl)
theorem ex_1 {ρ : List En} {op : D → Option D} {a : FE} {x z : D} (ha : EX (a ρ) x) (h : op x = some z) : EX (c1 op a ρ) z := EX.bd ha fun g => by rw [h]; rfl
theorem ex_call {ρ : List En} {op : List D → Option D} {a : FA} {xs : List D} {z : D} (ha : EX (a ρ) xs) (h : op xs = some z) : EX (cCall op a ρ) z := EX.bd ha fun g => by rw [h]; rfl
theorem ex_fn {ρ : List En} {n : Nat} {Fn : List D → Gh → M D} {a : FA} {xs : List D} {z : D} (ha : EX (a ρ) xs) (h : EX (Fn xs) z) (hn : xs.length = n := by rfl) : EX (cFn n Fn a ρ) z := EX.bd ha fun g => by
  show (if xs.length = n then noX (Fn xs g) else none) = _
  rw [if_pos hn, h g]; rfl
theorem ex_sl {ρ : List En} {a : FE} {lo hi : FO} {x z : D} {l h : Option Int} (ha : EX (a ρ) x) (hl : EX (lo ρ) l) (hh : EX (hi ρ) h) (e : slD x l h = some z) : EX (cSl a lo hi ρ) z := EX.bd ha (EX.bd hl (EX.bd hh fun g => by rw [e]; rfl))
theorem exo_n {ρ : List En} : EX (oN ρ) none := fun g => rfl
theorem exo_s {ρ : List En} {a : FE} {i : Int} (ha : EX (a ρ) (.int i)) : EX (oS a ρ) (some i) := EX.bd ha fun g => rfl
theorem ex_and1 {ρ : List En} {a b : FE} {z : D} (ha : EX (a ρ) (.bl true)) (hb : EX (b ρ) z) : EX (cAndV a b ρ) z := EX.bd ha hb
theorem ex_and0 {ρ : List En} {a b : FE} (ha : EX (a ρ) (.bl false)) : EX (cAndV a b ρ) (.bl false) := EX.bd ha fun g => rfl
theorem ex_or1 {ρ : List En} {a b : FE} (ha : EX (a ρ) (.bl true)) : EX (cOrV a b ρ) (.bl true) := EX.bd ha fun g => rfl
theorem ex_or0 {ρ : List En} {a b : FE} {z : D} (ha : EX (a ρ) (.bl false)) (hb : EX (b ρ) z) : EX (cOrV a b ρ) z := EX.bd ha hb
theorem ext {ρ : List En} {a : FE} {b : Bool} (ha : EX (a ρ) (.bl b)) : EX (cT a ρ) b := EX.bd ha fun g => rfl
theorem ext_not {ρ : List En} {a : FT} {b : Bool} (ha : EX (a ρ) b) : EX (cNot a ρ) (!b) := EX.bd ha fun g => rfl
theorem ext_and1 {ρ : List En} {a b : FT} {z : Bool} (ha : EX (a ρ) true) (hb : EX (b ρ) z) : EX (cAnd a b ρ) z := EX.bd ha hb
theorem ext_and0 {ρ : List En} {a b : FT} (ha : EX (a ρ) false) : EX (cAnd a b ρ) false := EX.bd ha fun g => rfl
theorem ext_or1 {ρ : List En} {a b : FT} (ha : EX (a ρ) true) : EX (cOr a b ρ) true := EX.bd ha fun g => rfl
theorem ext_or0 {ρ : List En} {a b : FT} {z : Bool} (ha : EX (a ρ) false) (hb : EX (b ρ) z) : EX (cOr a b ρ) z := EX.bd ha hb
/-! blocks -/
theorem ex_lc {fi : FI} {vs : List Nat} {gs : FG} {ft : FT} {fe : FE} {ρ : List En} {ds ys : List D} (hi : EX (fi ρ) ds) (hc : EX (compD gs ft fe ds (blkE ρ vs)) ys) (hl : ys.length ≤ 1000) : EX (cLc fi vs gs ft fe ρ) (.lst ys) := EX.bd hi (EX.bd hc fun g => if_pos hl)
theorem exi_s {ρ : List En} {a : FE} {x : D} {ds : List D} (ha : EX (a ρ) x) (h : seqOf x = some ds) : EX (iS a ρ) ds := EX.bd ha fun g => by rw [h]; rfl
theorem exi_r {ρ : List En} {a : FE} {n : Nat} (ha : EX (a ρ) (.int (n : Nat))) (h : n ≤ 100000) : EX (iR1 (cC a cN) ρ) (rngD 0 n) := EX.bd (ex_c ha ex_n) fun g => by rw [rng1_nat h]; rfl
theorem exi_z {ρ : List En} {a : FA} {xs ds : List D} (ha : EX (a ρ) xs) (h : zipD xs = some ds) : EX (iZ a ρ) ds := EX.bd ha fun g => by rw [h]; rfl
theorem exi_e {ρ : List En} {a : FA} {xs ds : List D} (ha : EX (a ρ) xs) (h : enumD xs = some ds) : EX (iEn a ρ) ds := EX.bd ha fun g => by rw [h]; rfl
theorem exi_v {ρ : List En} {a : FE} {n : Nat} (ha : EX (a ρ) (.rng 0 (n : Nat))) (h : n ≤ 100000) : EX (iRv a ρ) (rngD 0 n) := EX.bd ha fun g => by
  have e : rngOf (.rng 0 (n : Nat)) = some (rngD 0 n) := by
    unfold rngOf
    have c1 : (n : Int) < 2 ^ 62 := by rw [p62]; omega
    have c2 : -(2 ^ 62) ≤ (n : Int) := by rw [p62]; omega
    have c3 : -(2 ^ 62) ≤ (0 : Int) := by rw [p62]; omega
    have c4 : (0 : Int) < 2 ^ 62 := by rw [p62]; omega
    have hk : ck (-(2 ^ 62) ≤ (0 : Int) ∧ (0 : Int) < 2 ^ 62 ∧ -(2 ^ 62) ≤ (n : Int) ∧ (n : Int) < 2 ^ 62) = true := ck_of ⟨c3, c4, c2, c1⟩
    show (if ck (-(2 ^ 62) ≤ (0 : Int) ∧ (0 : Int) < 2 ^ 62 ∧ -(2 ^ 62) ≤ (n : Int) ∧ (n : Int) < 2 ^ 62) = true then some (rngD 0 ((n : Int) - 0).toNat) else none) = _
    rw [if_pos hk]
    simp
  rw [e]; rfl
theorem exc_map {gs : FG} {fe : FE} {F : D → D} {ρ : List En} {ds : List D} (h : ∀ d ∈ ds, ∃ ρ1, gs d ρ = some ρ1 ∧ EX (fe ρ1) (F d)) : EX (compD gs tY fe ds ρ) (ds.map F) := fun g => compD_map fun d hd => by
  obtain ⟨ρ1, h1, h2⟩ := h d hd
  exact ⟨ρ1, h1, h2 g⟩
theorem exc_fil {gs : FG} {ft : FT} {fe : FE} {p : D → Bool} {F : D → D} {ρ : List En} {ds : List D} (h : ∀ d ∈ ds, ∃ ρ1, gs d ρ = some ρ1 ∧ EX (ft ρ1) (p d) ∧ EX (fe ρ1) (F d)) : EX (compD gs ft fe ds ρ) ((ds.filter p).map F) := fun g => compD_filter fun d hd => by
  obtain ⟨ρ1, h1, h2, h3⟩ := h d hd
  exact ⟨ρ1, h1, h2 g, h3 g⟩
/-! statements -/
theorem exs_ret {ρ : List En} {a : FE} {x : D} (ha : EX (a ρ) x) : EX (sRet a ρ) (.rt x) := EX.bd ha fun g => rfl
theorem exs_asg {ρ ρ1 : List En} {a : FE} {gs : FG} {x : D} (ha : EX (a ρ) x) (h : gs x ρ = some ρ1) : EX (sAsg a gs ρ) (.nx ρ1) := EX.bd ha fun g => by rw [h]
theorem exs_par {ρ : List En} {i j : Nat} {a : FA} {x y : D} (ha : EX (a ρ) [x, y]) : EX (sPar i j a ρ) (.nx ((ρ.set i (.dt x)).set j (.dt y))) := EX.bd ha fun g => rfl
theorem exs_drop {ρ : List En} {a : FE} {x : D} (ha : EX (a ρ) x) : EX (sDrop a ρ) (.nx ρ) := EX.bd ha fun g => rfl
theorem exs_nx {ρ : List En} : EX (sNx ρ) (.nx ρ) := fun g => rfl
theorem exs_if1 {ρ : List En} {c : FT} {a b : FS} {f : Fl} (hc : EX (c ρ) true) (ha : EX (a ρ) f) : EX (sIf c a b ρ) f := EX.bd hc ha
theorem exs_if0 {ρ : List En} {c : FT} {a b : FS} {f : Fl} (hc : EX (c ρ) false) (hb : EX (b ρ) f) : EX (sIf c a b ρ) f := EX.bd hc hb
theorem exs_seq {ρ ρ1 : List En} {a b : FS} {f : Fl} (ha : EX (a ρ) (.nx ρ1)) (hb : EX (b ρ1) f) : EX (sSeq a b ρ) f := fun g => (sSeq_nx (ha g)).trans (hb g)
theorem exs_rt {ρ : List En} {a b : FS} {d : D} (ha : EX (a ρ) (.rt d)) : EX (sSeq a b ρ) (.rt d) := fun g => sSeq_rt (ha g)
theorem exs_for {ρ : List En} {fi : FI} {gs : FG} {fb : FS} {ds : List D} {f : Fl} (hi : EX (fi ρ) ds) (hl : EX (loopD gs fb ds ρ) f) : EX (sFor fi gs fb ρ) f := EX.bd hi hl
theorem exf {N : Nat} {b : FS} {ds : List D} {d : D} (h : EX (b (ds.map .dt ++ List.replicate (N - ds.length) .un)) (.rt d)) : EX (fun g => noX (fnOf N b ds g)) d := fun g => by
  show noX (fnOf N b ds g) = _
  unfold fnOf
  rw [h g]; rfl
theorem exf_nx {N : Nat} {b : FS} {ds : List D} {ρ : List En} (h : EX (b (ds.map .dt ++ List.replicate (N - ds.length) .un)) (.nx ρ)) : EX (fun g => noX (fnOf N b ds g)) .non := fun g => by
  show noX (fnOf N b ds g) = _
  unfold fnOf
  rw [h g]; rfl
end Kk03
set_option Elab.async false
set_option linter.all false
set_option maxRecDepth 100000
set_option maxHeartbeats 4000000
namespace Kk03
open PySem L2 FD
/-! ### small things -/
def tiny : Nat → D → Bool
  | 0, _ => false
  | _ + 1, .non => true
  | _ + 1, .int i => decide (i.natAbs ≤ 1000)
  | n + 1, .tup xs => decide (xs.length ≤ 6) && xs.all (tiny n)
  | _ + 1, _ => false
theorem tiny_tup {n : Nat} {xs : List D} : tiny (n + 1) (.tup xs) = true ↔ xs.length ≤ 6 ∧ ∀ d ∈ xs, tiny n d = true := by simp [tiny]
theorem tiny_mono {n : Nat} : ∀ {d : D}, tiny n d = true → tiny (n + 1) d = true := by
  induction n with
  | zero => intro d h; simp [tiny] at h
  | succ n ih =>
    intro d h
    cases d with
    | tup xs =>
      rw [tiny_tup] at h ⊢
      exact ⟨h.1, fun d hd => ih (h.2 d hd)⟩
    | _ => simpa [tiny] using h
theorem tiny_le {n : Nat} {d : D} : ∀ (k : Nat), tiny n d = true → tiny (n + k) d = true
  | 0, h => h
  | k + 1, h => tiny_mono (tiny_le k h)
theorem tiny_plain {n : Nat} : ∀ {d : D}, tiny n d = true → plain n d = true := by
  induction n with
  | zero => intro d h; simp [tiny] at h
  | succ n ih =>
    intro d h
    cases d with
    | tup xs =>
      rw [tiny_tup] at h
      rw [plain_tup]
      exact ⟨by omega, fun d hd => ih (h.2 d hd)⟩
    | non => rfl
    | int i => rfl
    | _ => simp [tiny] at h
theorem tiny_int {i : Int} {n : Nat} (h : i.natAbs ≤ 1000) : tiny (n + 1) (.int i) = true := by simp [tiny, h]
/-! a row with one thing in a place -/
theorem put_at_cut {xs : List D} {i : Nat} {d : D} (h : i < xs.length) : cutD xs none (some (i : Int)) ++ [d] ++ cutD xs (some ((i : Int) + 1)) none = xs.set i d := by
  have e1 : cutD xs none (some (i : Int)) = xs.take i := by
    have a : HT.sIx xs.length 0 none = 0 := rfl
    have b : HT.sIx xs.length xs.length (some (i : Int)) = i := by
      rw [HT.sIx_nat]; omega
    unfold cutD
    rw [a, b]
    simp
  have e2 : cutD xs (some ((i : Int) + 1)) none = xs.drop (i + 1) := by
    have a : HT.sIx xs.length 0 (some ((i : Int) + 1)) = i + 1 := by
      rw [show ((i : Int) + 1) = ((i + 1 : Nat) : Int) by omega, HT.sIx_nat]; omega
    have b : HT.sIx xs.length xs.length none = xs.length := rfl
    unfold cutD
    rw [a, b]
    rw [List.take_of_length_le (by simp)]
  rw [e1, e2, List.set_eq_take_append_cons_drop, if_pos h]
  simp
theorem put_at_ex {N : FS} {xs : List D} {i : Nat} {d : D} (h : i < xs.length) (hl : xs.length ≤ 400) : EX ((sRet (cOp addD (cOp addD (cSl (cV 0) oN (oS (cV 1))) (cTup (cC (cV 2) cN))) (cSl (cV 0) (oS (cOp addD (cV 1) (cD (.int 1)))) oN))) [.dt (.tup xs), .dt (.int i), .dt d]) (.rt (.tup (xs.set i d))) := by
  have e := put_at_cut (d := d) h
  have l1 : (cutD xs none (some (i : Int))).length ≤ xs.length := by unfold cutD; simp; omega
  have l2 : (cutD xs (some ((i : Int) + 1)) none).length ≤ xs.length := by unfold cutD; simp; omega
  rw [← e]
  refine exs_ret (ex_op (ex_op (ex_sl (ex_v rfl) exo_n (exo_s (ex_v rfl)) rfl) (ex_tup (ex_c (ex_v rfl) ex_n)) (if_pos ?_)) (ex_sl (ex_v rfl) (exo_s (ex_op (ex_v rfl) ex_d rfl)) exo_n rfl) (if_pos ?_))
  · simp; omega
  · simp; omega
theorem put_at_eq {xs : List D} {i : Nat} {d : D} (h : i < xs.length) (hl : xs.length ≤ 400) : EX (f_put_at [.tup xs, .int i, d]) (.tup (xs.set i d)) := exf (N := 3) (put_at_ex (N := sNx) h hl)
/-- a state at its beginning -/
def fresh (d : Int) : D := .tup [.int d, .non, .non, .tup [], .non]
def aheadD (ss : List D) (d : Int) : D := if d = (ss.length : Int) then .non else fresh d
theorem state_ahead_eq (ss : List D) (d : Int) : EX (f_state_ahead [.tup ss, .int d]) (aheadD ss d) := fun g => by
  unfold aheadD
  by_cases h : d = (ss.length : Int)
  · simp [f_state_ahead, b_state_ahead, fnOf, sSeq, h]
  · simp [f_state_ahead, b_state_ahead, fnOf, sSeq, h, fresh]
theorem ix_nat {xs : List D} {i : Nat} {d : D} (h : xs[i]? = some d) : ixD (.tup xs) (.int i) = some d := by rw [ixD_tup (by omega)]; simpa using h
/-- a cell -/
def CellS (c : D) : Prop := ∃ (k v : Int) (r : D), c = .tup [.int k, .int v, r]
def numD : D → D
  | .tup (x :: _) => x
  | _ => .non
theorem numbers_of_eq {cs : List D} (h : ∀ c ∈ cs, CellS c) (hl : cs.length ≤ 500) : EX (f_numbers_of [.tup cs]) (.tup (cs.map numD)) := by
  refine exf (N := 2) (exs_ret (ex_call (ex_c (ex_lc (exi_s (ex_v rfl) rfl) (exc_map (F := numD) fun d hd => ⟨_, rfl, ?_⟩) (by simp; omega)) ex_n) rfl))
  obtain ⟨k, v, r, rfl⟩ := h d hd
  exact ex_op (ex_v rfl) ex_d rfl
def pairD : D → D
  | .tup (x :: y :: _) => .tup [x, y]
  | _ => .non
def lendD : D → D
  | .tup [_, _, r] => r
  | _ => .non
def numI : D → Int
  | .tup (.int k :: _) => k
  | _ => 0
/-- the picture of the first that put twice -/
def lent : List Int → List D → D
  | f :: fs, c :: cs => if f + 2 ≤ numI c then lendD c else lent fs cs
  | _, _ => .non
theorem borrow_loop {a b : En} : ∀ (fs : List Int) (cs : List D) (x y : En), (∀ c ∈ cs, CellS c) → fs.length = cs.length →
    ∃ f, EX (loopD (gT 2 (gsC (gN 2) (gsC (gN 3) gsN))) (sIf (cT (cOp geD (cOp ixD (cV 3) (cD (.int 0))) (cOp addD (cV 2) (cD (.int 2))))) (sRet (cOp ixD (cV 3) (cD (.int 2)))) sNx) (((fs.map D.int).zip cs).map fun p => .tup [p.1, p.2]) [a, b, x, y]) f ∧ ((∃ x' y', f = .nx [a, b, x', y'] ∧ lent fs cs = .non) ∨ f = .rt (lent fs cs))
  | [], [], x, y, _, _ => ⟨_, fun g => rfl, .inl ⟨x, y, rfl, rfl⟩⟩
  | [], _ :: _, x, y, _, h => by simp at h
  | _ :: _, [], x, y, _, h => by simp at h
  | n :: fs, c :: cs, x, y, hc, hl => by
    obtain ⟨k, v, r, rfl⟩ := hc c (by simp)
    by_cases h : n + 2 ≤ k
    · refine ⟨.rt r, fun g => ?_, .inr ?_⟩
      · simp [loopD, ixD_tup, h]
      · simp [lent, numI, lendD, h]
    · obtain ⟨f, e, q⟩ := borrow_loop (a := a) (b := b) fs cs (.dt (.int n)) (.dt (.tup [.int k, .int v, r])) (fun c h => hc c (by simp [h])) (by simpa using hl)
      refine ⟨f, fun g => ?_, ?_⟩
      · rw [← e g]
        simp [loopD, ixD_tup, h]
      · have z : lent (n :: fs) (.tup [.int k, .int v, r] :: cs) = lent fs cs := by simp [lent, numI, h]
        rw [z]; exact q
theorem borrowed_eq {fs : List Int} {cs : List D} (hc : ∀ c ∈ cs, CellS c) (hl : fs.length = cs.length) : EX (f_borrowed [.tup (fs.map .int), .tup cs]) (lent fs cs) := by
  obtain ⟨f, e, q⟩ := borrow_loop (a := .dt (.tup (fs.map .int))) (b := .dt (.tup cs)) fs cs .un .un hc hl
  rcases q with ⟨x, y, rfl, z⟩ | rfl
  · rw [z]
    exact exf (N := 4) (exs_seq (exs_for (exi_z (ex_c (ex_v rfl) (ex_c (ex_v rfl) ex_n)) rfl) e) (exs_ret ex_d))
  · exact exf (N := 4) (exs_rt (exs_for (exi_z (ex_c (ex_v rfl) (ex_c (ex_v rfl) ex_n)) rfl) e))
end Kk03
set_option Elab.async false
set_option linter.all false
set_option maxRecDepth 100000
set_option maxHeartbeats 4000000
namespace Kk03
open PySem L2 FD
theorem find_lent : ∀ (fs : List Int) (cs : List D) (a : Nat) (p : D → Bool), (∀ (j : Nat) (f : Int) (c : D), fs[j]? = some f → cs[j]? = some c → p (.int ((a + j : Nat) : Int)) = decide (f + 2 ≤ numI c)) → fs.length = cs.length →
    (((rngD (a : Int) fs.length).filter p = [] ∧ lent fs cs = .non) ∨ ∃ (j : Nat) (c : D) (r : List D), (rngD (a : Int) fs.length).filter p = .int ((a + j : Nat) : Int) :: r ∧ cs[j]? = some c ∧ lent fs cs = lendD c)
  | [], [], _, _, _, _ => .inl ⟨rfl, rfl⟩
  | [], _ :: _, _, _, _, h => by simp at h
  | _ :: _, [], _, _, _, h => by simp at h
  | f :: fs, c :: cs, a, p, hp, hl => by
    have h0 := hp 0 f c rfl rfl
    simp only [Nat.add_zero] at h0
    rw [List.length_cons, rngD_cons]
    by_cases h : f + 2 ≤ numI c
    · refine .inr ⟨0, c, (rngD ((a : Int) + 1) fs.length).filter p, ?_, rfl, by simp [lent, h]⟩
      rw [decide_eq_true h] at h0
      simp [List.filter_cons, h0]
    · rw [decide_eq_false h] at h0
      have z : lent (f :: fs) (c :: cs) = lent fs cs := by simp [lent, h]
      have e1 : ((a : Int) + 1) = ((a + 1 : Nat) : Int) := by omega
      rcases find_lent fs cs (a + 1) p (fun j f' c' hf hc => by
        have := hp (j + 1) f' c' (by simpa using hf) (by simpa using hc)
        rw [show a + 1 + j = a + (j + 1) by omega]; exact this) (by simpa using hl) with ⟨q1, q2⟩ | ⟨j, c', r, q1, q2, q3⟩
      · refine .inl ⟨?_, z.trans q2⟩
        rw [List.filter_cons, h0, e1]
        simpa using q1
      · refine .inr ⟨j + 1, c', r, ?_, by simpa using q2, z.trans q3⟩
        rw [List.filter_cons, h0, e1]
        rw [show a + (j + 1) = a + 1 + j by omega]
        simpa using q1
/-- numbers, or none yet -/
inductive Nums (n : Nat) : D → Prop
  | non : Nums n .non
  | of (ns : List Int) : ns.length = n → Nums n (.tup (ns.map .int))
theorem pys_ints (ns : List Int) : D.pys (ns.map .int) = some (ns.map .int) := by
  induction ns with
  | nil => rfl
  | cons a r ih => simp [D.pys, D.py, ih]
theorem eqv_ints : ∀ ns ms : List Int, PyData.eqvAll (ns.map .int) (ms.map .int) = decide (ns = ms)
  | [], [] => by simp [PyData.eqvAll]
  | [], _ :: _ => by simp [PyData.eqvAll]
  | _ :: _, [] => by simp [PyData.eqvAll]
  | a :: r, b :: s => by
    simp only [List.map_cons, PyData.eqvAll, PyData.eqv, eqv_ints r s]
    by_cases h : a = b <;> by_cases h2 : r = s <;> simp [h, h2]
theorem eqP_ints (ns ms : List Int) : eqP (.tup (ns.map .int)) (.tup (ms.map .int)) = decide (ns = ms) := by
  simp [eqP, D.py, pys_ints, PyData.eqv, eqv_ints]
theorem plain_ints {ns : List Int} (h : ns.length ≤ 500) : plain 2 (.tup (ns.map .int)) = true := by
  rw [plain_tup]
  refine ⟨by simpa using h, fun d hd => ?_⟩
  obtain ⟨k, _, rfl⟩ := List.mem_map.mp hd
  rfl
theorem eqD_ints {ns ms : List Int} (h1 : ns.length ≤ 500) (h2 : ms.length ≤ 500) : eqD (.tup (ns.map .int)) (.tup (ms.map .int)) = some (.bl (decide (ns = ms))) := by
  rw [eqD_plain (plain_ints h1) (plain_ints h2) (by decide) (by decide), eqP_ints]
theorem eqD_ints_non {ns : List Int} (h1 : ns.length ≤ 500) : eqD (.tup (ns.map .int)) .non = some (.bl false) := by
  rw [eqD_plain (n := 2) (m := 1) (plain_ints h1) rfl (by decide) (by decide)]
  simp [eqP, D.py, pys_ints, PyData.eqv]
theorem numD_map {cs : List D} (h : ∀ c ∈ cs, CellS c) : cs.map numD = (cs.map numI).map .int := by
  rw [List.map_map]
  apply List.map_congr_left
  intro c hc
  obtain ⟨k, v, r, rfl⟩ := h c hc
  rfl
open Classical in
/-- how the sweep ends -/
noncomputable def seenD (k : Str) (first last : D) (cs : List D) : D :=
  if k = "sweep" ∨ last = .tup (cs.map numD) then .tup (cs.map pairD)
  else if k = "borrow" then (match first with
    | .tup fs => lent (fs.map fun d => match d with | .int i => i | _ => 0) cs
    | _ => .non) else .non
theorem okM : ∀ k ∈ MAN, okStr k = true := by
  intro k hk
  simp only [List.mem_cons, List.not_mem_nil, or_false] at hk
  rcases hk with rfl | rfl | rfl <;> exact okS (by decide +kernel)
theorem okMW {k : Str} (hk : k ∈ MAN) (w : Str) (hw : okStr w = true) : eqD (.str k) (.str w) = some (.bl (k == w)) := eqD_str (okM k hk) hw
theorem pic_lc {cs : List D} (h : ∀ c ∈ cs, CellS c) (hl : cs.length ≤ 500) {ρ : List En} {i : Nat} {vs : List Nat} {j : Nat} (hi : ρ[i]? = some (.dt (.tup cs))) (hj : ∀ d, ((blkE ρ vs).set j (.dt d))[j]? = some (.dt d)) :
    EX (cCall tupleD (cC (cLc (iS (cV i)) vs (gN j) tY (cTup (cC (cOp ixD (cV j) (cD (.int 0))) (cC (cOp ixD (cV j) (cD (.int 1))) cN)))) cN) ρ) (.tup (cs.map pairD)) := by
  refine ex_call (ex_c (ex_lc (exi_s (ex_v hi) rfl) (exc_map (F := pairD) fun d hd => ⟨_, rfl, ?_⟩) (by simp; omega)) ex_n) rfl
  obtain ⟨k, v, r, rfl⟩ := h d hd
  exact ex_tup (ex_c (ex_op (ex_v (hj _)) ex_d rfl) (ex_c (ex_op (ex_v (hj _)) ex_d rfl) ex_n))
open Classical in
theorem picture_eq {k : Str} (hk : k ∈ MAN) {first last : D} {cs : List D} (h : ∀ c ∈ cs, CellS c) (hl : cs.length ≤ 100) (hf : Nums cs.length first) (hla : Nums cs.length last) : EX (f_picture_of_sweep [.str k, first, last, .tup cs]) (seenD k first last cs) := by
  have q1 := okMW hk "sweep" (okS (by decide +kernel))
  have q2 := okMW hk "borrow" (okS (by decide +kernel))
  have nums := numbers_of_eq h (by omega)
  have hp := pic_lc h (by omega) (ρ := [.dt (.str k), .dt first, .dt last, .dt (.tup cs), .un]) (i := 3) (vs := [4]) (j := 4) rfl (fun d => rfl)
  have heq : eqD (.tup (cs.map numD)) last = some (.bl (decide (last = .tup (cs.map numD)))) := by
    rw [numD_map h]
    cases hla with
    | non => rw [eqD_ints_non (by simp; omega)]; simp
    | of ms hm =>
      rw [eqD_ints (by simp; omega) (by omega)]
      have inj : Function.Injective D.int := fun a b e => by cases e; rfl
      congr 2
      rw [decide_eq_decide]
      constructor
      · rintro rfl; rfl
      · intro e
        have := D.tup.inj e
        exact ((List.map_inj_right (fun a b e => by cases e; rfl)).mp this).symm
  refine exf (N := 5) ?_
  by_cases hs : k = "sweep"
  · have e : seenD k first last cs = .tup (cs.map pairD) := by unfold seenD; rw [if_pos (.inl hs)]
    rw [e]
    refine exs_rt (exs_if1 (ext_or1 (ext (ex_op (ex_v rfl) ex_d ?_))) (exs_ret hp))
    rw [q1]; simp [hs]
  · have b1 : EX (cT (cOp eqD (cV 0) (cD (.str "sweep"))) [.dt (.str k), .dt first, .dt last, .dt (.tup cs), .un]) false := ext (ex_op (ex_v rfl) ex_d (by rw [q1]; simp [hs]))
    by_cases hx : last = .tup (cs.map numD)
    · have e : seenD k first last cs = .tup (cs.map pairD) := by unfold seenD; rw [if_pos (.inr hx)]
      rw [e]
      refine exs_rt (exs_if1 (ext_or0 b1 (ext (ex_op (ex_fn (ex_c (ex_v rfl) ex_n) nums) (ex_v rfl) ?_))) (exs_ret hp))
      rw [heq, decide_eq_true hx]
    · have c0 : EX (cOr (cT (cOp eqD (cV 0) (cD (.str "sweep")))) (cT (cOp eqD (cFn 1 f_numbers_of (cC (cV 3) cN)) (cV 2))) [.dt (.str k), .dt first, .dt last, .dt (.tup cs), .un]) false := by
        refine ext_or0 b1 (ext (ex_op (ex_fn (ex_c (ex_v rfl) ex_n) nums) (ex_v rfl) ?_))
        rw [heq, decide_eq_false hx]
      refine exs_seq (exs_if0 c0 exs_nx) ?_
      by_cases hb : k = "borrow"
      · have b2 : EX (cT (cOp eqD (cV 0) (cD (.str "borrow"))) [.dt (.str k), .dt first, .dt last, .dt (.tup cs), .un]) true := ext (ex_op (ex_v rfl) ex_d (by rw [q2]; simp [hb]))
        cases hf with
        | non =>
          have e : seenD k .non last cs = .non := by unfold seenD; rw [if_neg (by intro z; rcases z with z | z; exact hs z; exact hx z), if_pos hb]
          rw [e]
          exact exs_seq (exs_if0 (ext_and1 b2 (ext (ex_op (ex_v rfl) ex_d rfl))) exs_nx) (exs_ret ex_d)
        | of fs hfl =>
          have e : seenD k (.tup (fs.map .int)) last cs = lent fs cs := by
            unfold seenD; rw [if_neg (by intro z; rcases z with z | z; exact hs z; exact hx z), if_pos hb]
            simp [List.map_map, Function.comp_def]
          rw [e]
          exact exs_rt (exs_if1 (ext_and1 b2 (ext (ex_op (ex_v rfl) ex_d rfl))) (exs_ret (ex_fn (ex_c (ex_v rfl) (ex_c (ex_v rfl) ex_n)) (borrowed_eq h hfl))))
      · have e : seenD k first last cs = .non := by unfold seenD; rw [if_neg (by intro z; rcases z with z | z; exact hs z; exact hx z), if_neg hb]
        rw [e]
        exact exs_seq (exs_if0 (ext_and0 (ext (ex_op (ex_v rfl) ex_d (by rw [q2]; simp [hb])))) exs_nx) (exs_ret ex_d)
end Kk03
set_option Elab.async false
set_option linter.all false
set_option maxRecDepth 100000
set_option maxHeartbeats 4000000
namespace Kk03
open PySem L2 FD
theorem cut2 (a b c : D) : cutD [a, b, c] none (some 2) = [a, b] := by
  have e1 : HT.sIx 3 0 none = 0 := rfl
  have e2 : HT.sIx 3 3 (some 2) = 2 := rfl
  unfold cutD
  show ([a, b, c].drop (HT.sIx 3 0 none)).take (HT.sIx 3 3 (some 2) - HT.sIx 3 0 none) = _
  rw [e1, e2]; rfl
end Kk03
set_option Elab.async false
set_option linter.all false
set_option maxRecDepth 100000
set_option maxHeartbeats 4000000
namespace Kk03
open PySem L2 FD
/-- a see, a put -/
def deedD : Option Int → D
  | none => .tup [.str "see"]
  | some w => .tup [.str "put", .int w]
theorem deed_form {d : D} (h : deedB d = true) (hf : fine d = true) : ∃ o, d = deedD o ∧ ∀ w, o = some w → 0 ≤ w ∧ w ≤ 999 := by
  cases d with
  | tup xs =>
    match xs, h with
    | [], h => simp [deedB] at h
    | [x], h =>
      cases x <;> simp [deedB, isW] at h
      subst h
      exact ⟨none, rfl, fun w z => by cases z⟩
    | [x, y], h =>
      simp only [deedB, Bool.and_eq_true] at h
      obtain ⟨hx, hy⟩ := h
      obtain ⟨i, rfl, h0, h1⟩ := inR_int hy
      cases x <;> simp [isW] at hx
      subst hx
      exact ⟨some i, rfl, fun w z => by cases z; exact ⟨h0, h1⟩⟩
    | _ :: _ :: _ :: _, h => simp [deedB] at h
  | _ => simp [deedB] at h
def putsB (k : Str) (o : Option Int) (ready : D) : Bool := o.isSome && (!(k == "borrow") || !isNonB ready)
def stD (done : Nat) (first last : D) (now : List D) (ready : D) : D := .tup [.int (done : Nat), first, last, .tup now, ready]
theorem sSee : okStr "see" = true := okS (by decide +kernel)
theorem sPut : okStr "put" = true := okS (by decide +kernel)
theorem sBor : okStr "borrow" = true := okS (by decide +kernel)
theorem deed0 (o : Option Int) : ∃ w : Str, ixD (deedD o) (.int 0) = some (.str w) ∧ okStr w = true ∧ (w == "put") = o.isSome := by
  cases o with
  | none => exact ⟨_, rfl, sSee, by decide +kernel⟩
  | some w => exact ⟨_, rfl, sPut, by simp⟩
/-- what stands of one hand -/
structure At (k : Str) (ds : List D) (i : Nat) (ss : List D) (done : Nat) (o : Option Int) : Prop where
  hk : k ∈ MAN
  hi : ds[i]? = some (.tup ss)
  hd : ss[done]? = some (deedD o)
theorem puts_next_eq {k : Str} {ds ss : List D} {i done : Nat} {o : Option Int} (A : At k ds i ss done o) (first last : D) (now : List D) (ready : D) : EX (f_puts_next [thePlay (.str k) (.tup ds), .int i, stD done first last now ready]) (.bl (putsB k o ready)) := by
  obtain ⟨w, w1, w2, w3⟩ := deed0 o
  have ix : EX (cOp ixD (cOp ixD (cOp ixD (c1 (fldD "inputs") (cV 0)) (cV 1)) (cOp ixD (cV 2) (cD (.int 0)))) (cD (.int 0)) [.dt (thePlay (.str k) (.tup ds)), .dt (.int i), .dt (stD done first last now ready)]) (.str w) :=
    ex_op (ex_op (ex_op (ex_1 (ex_v rfl) (fld_inputs _ _)) (ex_v rfl) (ix_nat A.hi)) (ex_op (ex_v rfl) ex_d rfl) (ix_nat A.hd)) ex_d w1
  have ne := neD_str w2 sPut
  rw [w3] at ne
  refine exf (N := 3) ?_
  cases ho : o.isSome with
  | false =>
    rw [ho] at ne
    have e : putsB k o ready = false := by simp [putsB, ho]
    rw [e]
    exact exs_rt (exs_if1 (ext (ex_op ix ex_d ne)) (exs_ret ex_d))
  | true =>
    rw [ho] at ne
    have e : putsB k o ready = (!(k == "borrow") || !isNonB ready) := by simp [putsB, ho]
    rw [e]
    refine exs_seq (exs_if0 (ext (ex_op ix ex_d ne)) exs_nx) (exs_ret ?_)
    have nb := neD_str (okM k A.hk) sBor
    cases hb : (k == "borrow") with
    | false =>
      rw [hb] at nb
      exact ex_or1 (ex_op (ex_1 (ex_v rfl) (fld_kind _ _)) ex_d nb)
    | true =>
      rw [hb] at nb
      exact ex_or0 (ex_op (ex_1 (ex_v rfl) (fld_kind _ _)) ex_d nb) (ex_op (ex_op (ex_v rfl) ex_d rfl) ex_d (notND_non _))
/-! words -/
def wordD (k : Str) (o : Option Int) (now : List D) (ready : D) : D := if putsB k o ready = true then .tup [.str "put"] else .tup [.str "look", .int (now.length : Nat)]
theorem word_in_manner_eq {k : Str} {ds ss : List D} {i done : Nat} {o : Option Int} (A : At k ds i ss done o) (first last : D) (now : List D) (ready : D) : EX (f_word_in_manner [thePlay (.str k) (.tup ds), stD done first last now ready, .int i]) (wordD k o now ready) := by
  have p := puts_next_eq A first last now ready
  have pc : EX (cT (cFn 3 f_puts_next (cC (cV 0) (cC (cV 2) (cC (cV 1) cN)))) [.dt (thePlay (.str k) (.tup ds)), .dt (stD done first last now ready), .dt (.int i)]) (putsB k o ready) := ext (ex_fn (ex_c (ex_v rfl) (ex_c (ex_v rfl) (ex_c (ex_v rfl) ex_n))) p)
  refine exf (N := 3) ?_
  unfold wordD
  cases hp : putsB k o ready with
  | true =>
    rw [hp] at pc
    exact exs_rt (exs_if1 pc (exs_ret (ex_tup (ex_c ex_d ex_n))))
  | false =>
    rw [hp] at pc
    exact exs_seq (exs_if0 pc exs_nx) (exs_ret (ex_tup (ex_c ex_d (ex_c (ex_call (ex_c (ex_op (ex_v rfl) ex_d rfl) ex_n) rfl) ex_n))))
end Kk03
set_option Elab.async false
set_option linter.all false
set_option maxRecDepth 100000
set_option maxHeartbeats 4000000
namespace Kk03
open PySem L2 FD
theorem add_nil (xs : List D) (h : xs.length ≤ 1000) : addD (.tup xs) (.tup []) = some (.tup xs) := by
  show (if xs.length + ([] : List D).length ≤ 1000 then some (D.tup (xs ++ [])) else none) = _
  rw [if_pos (by simpa using h), List.append_nil]
theorem add_tt {xs ys : List D} (h : xs.length + ys.length ≤ 1000) : addD (.tup xs) (.tup ys) = some (.tup (xs ++ ys)) := if_pos h
def wOf : Option Int → Int
  | some w => w
  | none => 0
theorem behind_put_eq {ss : List D} {done : Nat} {w : Int} (hd : ss[done]? = some (deedD (some w))) (c v : Int) (r first last : D) (now : List D) (ready : D) :
    EX (f_behind_put [.tup ss, .tup [.int c, .int v, r], stD done first last now ready]) (.tup [.tup [.int (c + 1), .int w, ready], aheadD ss ((done : Int) + 1), .tup []]) := by
  refine exf (N := 5) ?_
  refine exs_seq (exs_par (ex_c (ex_op (ex_v rfl) ex_d rfl) (ex_c (ex_op (ex_v rfl) ex_d rfl) ex_n))) ?_
  refine exs_seq (exs_asg (ex_tup (ex_c (ex_op (ex_op (ex_v rfl) ex_d rfl) ex_d rfl) (ex_c (ex_op (ex_op (ex_v rfl) (ex_v rfl) (ix_nat hd)) ex_d rfl) (ex_c (ex_v rfl) ex_n)))) rfl) ?_
  exact exs_ret (ex_tup (ex_c (ex_v rfl) (ex_c (ex_fn (ex_c (ex_v rfl) (ex_c (ex_op (ex_v rfl) ex_d rfl) ex_n)) (state_ahead_eq _ _)) (ex_c (ex_tup ex_n) ex_n))))
theorem behind_picture_eq {ss : List D} {done : Nat} {o : Option Int} (hd : ss[done]? = some (deedD o)) (pic : D) :
    EX (f_behind_picture [.tup ss, .int (done : Nat), pic]) (if o.isSome = true then .tup [stD done .non .non [] pic, .tup []] else .tup [aheadD ss ((done : Int) + 1), .tup [pic]]) := by
  obtain ⟨w, w1, w2, w3⟩ := deed0 o
  have eq := eqD_str w2 sPut
  rw [w3] at eq
  have c0 : EX (cT (cOp eqD (cOp ixD (cOp ixD (cV 0) (cV 1)) (cD (.int 0))) (cD (.str "put"))) [.dt (.tup ss), .dt (.int (done : Nat)), .dt pic]) o.isSome := ext (ex_op (ex_op (ex_op (ex_v rfl) (ex_v rfl) (ix_nat hd)) ex_d w1) ex_d eq)
  refine exf (N := 3) ?_
  cases ho : o.isSome with
  | true =>
    rw [ho] at c0
    exact exs_rt (exs_if1 c0 (exs_ret (ex_tup (ex_c (ex_tup (ex_c (ex_v rfl) (ex_c ex_d (ex_c ex_d (ex_c (ex_tup ex_n) (ex_c (ex_v rfl) ex_n)))))) (ex_c (ex_tup ex_n) ex_n)))))
  | false =>
    rw [ho] at c0
    exact exs_seq (exs_if0 c0 exs_nx) (exs_ret (ex_tup (ex_c (ex_fn (ex_c (ex_v rfl) (ex_c (ex_op (ex_v rfl) ex_d rfl) ex_n)) (state_ahead_eq _ _)) (ex_c (ex_tup (ex_c (ex_v rfl) ex_n)) ex_n))))
/-- behind one more cell -/
noncomputable def lookD (k : Str) (ss : List D) (done : Nat) (o : Option Int) (first last : D) (now2 : List D) (ready : D) (n : Nat) : D × List D :=
  if now2.length < n then (stD done first last now2 ready, [])
  else if isNonB (seenD k first last now2) = true then (stD done (if isNonB first = true then .tup (now2.map numD) else first) (.tup (now2.map numD)) [] ready, [])
  else if o.isSome = true then (stD done .non .non [] (seenD k first last now2), []) else (aheadD ss ((done : Int) + 1), [seenD k first last now2])
theorem behind_look_eq {k : Str} {ds ss cells : List D} {i done : Nat} {o : Option Int} (A : At k ds i ss done o) {first last : D} {now : List D} {ready x : D} (hx : cells[now.length]? = some x) (hc : ∀ c ∈ now ++ [x], CellS c) (hn : cells.length ≤ 100) (hf : Nums cells.length first) (hl : Nums cells.length last) :
    EX (f_behind_look [thePlay (.str k) (.tup ds), .tup cells, stD done first last now ready, .int i]) (.tup [(lookD k ss done o first last (now ++ [x]) ready cells.length).1, .tup (lookD k ss done o first last (now ++ [x]) ready cells.length).2]) := by
  have hlt : now.length < cells.length := (List.getElem?_eq_some_iff.mp hx).1
  refine exf (N := 11) ?_
  refine exs_seq (exs_asg (ex_v rfl) rfl) ?_
  refine exs_seq (exs_asg (x := .tup (now ++ [x])) (ex_op (ex_v rfl) (ex_tup (ex_c (ex_op (ex_v rfl) (ex_call (ex_c (ex_v rfl) ex_n) rfl) (ix_nat hx)) ex_n)) (add_tt (by simp; omega))) rfl) ?_
  have cL : EX (cT (cOp ltD (cCall lenD (cC (cV 4) cN)) (cCall lenD (cC (cV 1) cN))) [.dt (thePlay (.str k) (.tup ds)), .dt (.tup cells), .dt (stD done first last now ready), .dt (.int i), .dt (.tup (now ++ [x])), .un, .un, .dt (.int (done : Nat)), .dt first, .dt last, .dt ready]) (decide ((now ++ [x]).length < cells.length)) := by
    refine ext (ex_op (ex_call (ex_c (ex_v rfl) ex_n) rfl) (ex_call (ex_c (ex_v rfl) ex_n) rfl) ?_)
    rw [ltD_int]
    congr 2
    rw [decide_eq_decide]
    omega
  unfold lookD
  by_cases h1 : (now ++ [x]).length < cells.length
  · rw [if_pos h1]
    rw [decide_eq_true h1] at cL
    exact exs_rt (exs_if1 cL (exs_ret (ex_tup (ex_c (ex_tup (ex_c (ex_v rfl) (ex_c (ex_v rfl) (ex_c (ex_v rfl) (ex_c (ex_v rfl) (ex_c (ex_v rfl) ex_n)))))) (ex_c (ex_tup ex_n) ex_n)))))
  · rw [if_neg h1]
    rw [decide_eq_false h1] at cL
    have len2 : (now ++ [x]).length = cells.length := by simp at h1 ⊢; omega
    refine exs_seq (exs_if0 cL exs_nx) ?_
    have hp := picture_eq A.hk (first := first) (last := last) hc (by omega) (by rw [len2]; exact hf) (by rw [len2]; exact hl)
    have hnm := numbers_of_eq hc (by omega)
    generalize seenD k first last (now ++ [x]) = pic at hp ⊢
    refine exs_seq (exs_asg (ex_fn (ex_c (ex_1 (ex_v rfl) (fld_kind _ _)) (ex_c (ex_v rfl) (ex_c (ex_v rfl) (ex_c (ex_v rfl) ex_n)))) hp) rfl) ?_
    have cP : EX (cT (cOp notND (cV 5) (cD .non)) [.dt (thePlay (.str k) (.tup ds)), .dt (.tup cells), .dt (stD done first last now ready), .dt (.int i), .dt (.tup (now ++ [x])), .dt pic, .un, .dt (.int (done : Nat)), .dt first, .dt last, .dt ready]) (!isNonB pic) := ext (ex_op (ex_v rfl) ex_d (notND_non _))
    cases hb : isNonB pic with
    | false =>
      rw [hb] at cP
      have bp := behind_picture_eq A.hd pic
      rw [if_neg (by decide)]
      refine exs_rt (exs_if1 cP (exs_ret (ex_fn (ex_c (ex_op (ex_1 (ex_v rfl) (fld_inputs _ _)) (ex_v rfl) (ix_nat A.hi)) (ex_c (ex_v rfl) (ex_c (ex_v rfl) ex_n))) ?_)))
      cases ho : o.isSome with
      | true => rw [ho] at bp; exact bp
      | false => rw [ho] at bp; exact bp
    | true =>
      rw [hb] at cP
      rw [if_pos rfl]
      refine exs_seq (exs_if0 cP exs_nx) ?_
      refine exs_seq (exs_asg (ex_fn (ex_c (ex_v rfl) ex_n) hnm) rfl) ?_
      have cF : EX (cT (cOp isND (cV 8) (cD .non)) [.dt (thePlay (.str k) (.tup ds)), .dt (.tup cells), .dt (stD done first last now ready), .dt (.int i), .dt (.tup (now ++ [x])), .dt pic, .dt (.tup ((now ++ [x]).map numD)), .dt (.int (done : Nat)), .dt first, .dt last, .dt ready]) (isNonB first) := ext (ex_op (ex_v rfl) ex_d (isND_non _))
      cases hff : isNonB first with
      | true =>
        rw [hff] at cF
        exact exs_seq (exs_if1 cF (exs_asg (ex_v rfl) rfl)) (exs_ret (ex_tup (ex_c (ex_tup (ex_c (ex_v rfl) (ex_c (ex_v rfl) (ex_c (ex_v rfl) (ex_c (ex_tup ex_n) (ex_c (ex_v rfl) ex_n)))))) (ex_c (ex_tup ex_n) ex_n))))
      | false =>
        rw [hff] at cF
        exact exs_seq (exs_if0 cF exs_nx) (exs_ret (ex_tup (ex_c (ex_tup (ex_c (ex_v rfl) (ex_c (ex_v rfl) (ex_c (ex_v rfl) (ex_c (ex_tup ex_n) (ex_c (ex_v rfl) ex_n)))))) (ex_c (ex_tup ex_n) ex_n))))
/-- behind one step: the cell, the state, what is told anew -/
noncomputable def nextD (k : Str) (ss : List D) (done : Nat) (o : Option Int) (first last : D) (now : List D) (ready cell x : D) (n : Nat) : D × D × List D :=
  if putsB k o ready = true then (.tup [.int (numI cell + 1), .int (wOf o), ready], aheadD ss ((done : Int) + 1), [])
  else (cell, lookD k ss done o first last (now ++ [x]) ready n)
theorem step_in_manner_eq {k : Str} {ds ss cells : List D} {i done : Nat} {o : Option Int} (A : At k ds i ss done o) {first last : D} {now : List D} {ready x cell : D} (hcell : cells[i]? = some cell) (hcs : CellS cell) (hx : cells[now.length]? = some x) (hc : ∀ c ∈ now ++ [x], CellS c) (hn : cells.length ≤ 100) (hf : Nums cells.length first) (hl : Nums cells.length last) :
    EX (f_step_in_manner [thePlay (.str k) (.tup ds), .tup cells, stD done first last now ready, .int i]) (.tup [(nextD k ss done o first last now ready cell x cells.length).1, (nextD k ss done o first last now ready cell x cells.length).2.1, .tup (nextD k ss done o first last now ready cell x cells.length).2.2]) := by
  have p := puts_next_eq A first last now ready
  have pc : EX (cT (cFn 3 f_puts_next (cC (cV 0) (cC (cV 3) (cC (cV 2) cN)))) [.dt (thePlay (.str k) (.tup ds)), .dt (.tup cells), .dt (stD done first last now ready), .dt (.int i), .un]) (putsB k o ready) := ext (ex_fn (ex_c (ex_v rfl) (ex_c (ex_v rfl) (ex_c (ex_v rfl) ex_n))) p)
  refine exf (N := 5) ?_
  unfold nextD
  cases hp : putsB k o ready with
  | true =>
    rw [hp] at pc
    obtain ⟨c, v, r, rfl⟩ := hcs
    have ho : ∃ w, o = some w := by
      cases o with
      | none => simp [putsB] at hp
      | some w => exact ⟨w, rfl⟩
    obtain ⟨w, rfl⟩ := ho
    rw [if_pos rfl]
    exact exs_rt (exs_if1 pc (exs_ret (ex_fn (ex_c (ex_op (ex_1 (ex_v rfl) (fld_inputs _ _)) (ex_v rfl) (ix_nat A.hi)) (ex_c (ex_op (ex_v rfl) (ex_v rfl) (ix_nat hcell)) (ex_c (ex_v rfl) ex_n))) (behind_put_eq A.hd c v r first last now ready))))
  | false =>
    rw [hp] at pc
    rw [if_neg (by decide)]
    refine exs_seq (exs_if0 pc exs_nx) ?_
    refine exs_seq (exs_asg (ex_fn (ex_c (ex_v rfl) (ex_c (ex_v rfl) (ex_c (ex_v rfl) (ex_c (ex_v rfl) ex_n)))) (behind_look_eq A hx hc hn hf hl)) rfl) ?_
    exact exs_ret (ex_tup (ex_c (ex_op (ex_v rfl) (ex_v rfl) (ix_nat hcell)) (ex_c (ex_v rfl) (ex_c (ex_v rfl) ex_n))))
end Kk03
set_option Elab.async false
set_option linter.all false
set_option maxRecDepth 100000
set_option maxHeartbeats 4000000
namespace Kk03
open PySem L2 FD
theorem set_same {xs : List D} {i : Nat} {x : D} (h : xs[i]? = some x) : xs.set i x = xs := by
  apply List.ext_getElem?
  intro j
  by_cases hj : i = j
  · subst hj
    rw [List.getElem?_set_self (List.getElem?_eq_some_iff.mp h).1, h]
  · rw [List.getElem?_set_ne hj]
/-- what stands, and the hand i in it -/
structure Sta (k : Str) (ds : List D) (i : Nat) (ss : List D) (done : Nat) (o : Option Int) (cells states tolds : List D) (first last : D) (now : List D) (ready x cell : D) (ts : List D) : Prop where
  A : At k ds i ss done o
  cell_ : cells[i]? = some cell
  cs : CellS cell
  st : states[i]? = some (stD done first last now ready)
  td : tolds[i]? = some (.tup ts)
  hx : cells[now.length]? = some x
  hc : ∀ c ∈ now ++ [x], CellS c
  n1 : cells.length ≤ 100
  n2 : states.length = cells.length
  n3 : tolds.length = cells.length
  n4 : ds.length = cells.length
  n5 : ts.length ≤ 100
  f : Nums cells.length first
  l : Nums cells.length last
  r : putsB k o ready = false → ready = .non
noncomputable def newS (k : Str) (ss : List D) (i done : Nat) (o : Option Int) (cells states tolds : List D) (first last : D) (now : List D) (ready x cell : D) (ts : List D) : D :=
  .tup [.tup (cells.set i (nextD k ss done o first last now ready cell x cells.length).1), .tup (states.set i (nextD k ss done o first last now ready cell x cells.length).2.1), .tup (tolds.set i (.tup (ts ++ (nextD k ss done o first last now ready cell x cells.length).2.2)))]
section
variable {k : Str} {ds ss cells states tolds : List D} {i done : Nat} {o : Option Int} {first last : D} {now : List D} {ready x cell : D} {ts : List D}
theorem inMANN {k : Str} (hk : k ∈ MAN) : inD (.str k) k_MANNERS = some (.bl true) := by
  have := inD_strs k MAN
  rw [List.contains_iff_mem.mpr hk] at this
  exact this
theorem step_of_hand_eq (S : Sta k ds i ss done o cells states tolds first last now ready x cell ts) : EX (f_step_of_hand [thePlay (.str k) (.tup ds), .tup cells, stD done first last now ready, .int i]) (.tup [(nextD k ss done o first last now ready cell x cells.length).1, (nextD k ss done o first last now ready cell x cells.length).2.1, .tup (nextD k ss done o first last now ready cell x cells.length).2.2]) :=
  exf (N := 4) (exs_rt (exs_if1 (ext (ex_op (ex_1 (ex_v rfl) (fld_kind _ _)) ex_d (inMANN S.A.hk))) (exs_ret (ex_fn (ex_c (ex_v rfl) (ex_c (ex_v rfl) (ex_c (ex_v rfl) (ex_c (ex_v rfl) ex_n)))) (step_in_manner_eq S.A S.cell_ S.cs S.hx S.hc S.n1 S.f S.l)))))
theorem add_len (S : Sta k ds i ss done o cells states tolds first last now ready x cell ts) : (nextD k ss done o first last now ready cell x cells.length).2.2.length ≤ 1 := by
  unfold nextD lookD
  repeat' split
  all_goals simp
theorem standing_behind_eq (S : Sta k ds i ss done o cells states tolds first last now ready x cell ts) : EX (f_standing_behind [thePlay (.str k) (.tup ds), .tup [.tup cells, .tup states, .tup tolds], .int i]) (newS k ss i done o cells states tolds first last now ready x cell ts) := by
  have hi : i < cells.length := (List.getElem?_eq_some_iff.mp S.cell_).1
  have hs := step_of_hand_eq S
  have al := add_len S
  unfold newS
  generalize nextD k ss done o first last now ready cell x cells.length = N at hs al ⊢
  obtain ⟨c', s', a⟩ := N
  have n5 := S.n5
  refine exf (N := 9) ?_
  refine exs_seq (exs_asg (ex_v rfl) rfl) ?_
  refine exs_seq (exs_asg (ex_fn (ex_c (ex_v rfl) (ex_c (ex_v rfl) (ex_c (ex_op (ex_v rfl) (ex_v rfl) (ix_nat S.st)) (ex_c (ex_v rfl) ex_n)))) hs) rfl) ?_
  refine exs_ret (ex_tup (ex_c (ex_fn (ex_c (ex_v rfl) (ex_c (ex_v rfl) (ex_c (ex_v rfl) ex_n))) (put_at_eq hi (by have := S.n1; omega))) (ex_c (ex_fn (ex_c (ex_v rfl) (ex_c (ex_v rfl) (ex_c (ex_v rfl) ex_n))) (put_at_eq (by rw [S.n2]; exact hi) (by have := S.n1; have := S.n2; omega))) (ex_c (ex_fn (ex_c (ex_v rfl) (ex_c (ex_v rfl) (ex_c (ex_op (ex_op (ex_v rfl) (ex_v rfl) (ix_nat S.td)) (ex_v rfl) (add_tt ?_)) ex_n))) (put_at_eq (by rw [S.n3]; exact hi) (by have := S.n1; have := S.n3; omega))) ex_n))))
  show ts.length + a.length ≤ 1000
  have : a.length ≤ 1 := al
  omega
theorem many_manEq (k : Str) (hk : k ∈ MAN) (ds : List D) : EX (f_many_hands [thePlay (.str k) (.tup ds)]) (.int (ds.length : Nat)) := by
  have q := okMW hk "near" (okS (by decide +kernel))
  have e : (k == ("near" : Str)) = false := by
    simp only [List.mem_cons, List.not_mem_nil, or_false] at hk
    rcases hk with rfl | rfl | rfl <;> decide +kernel
  rw [e] at q
  exact exf (N := 1) (exs_seq (exs_if0 (ext (ex_op (ex_1 (ex_v rfl) (fld_kind _ _)) ex_d q)) exs_nx) (exs_ret (ex_call (ex_c (ex_1 (ex_v rfl) (fld_inputs _ _)) ex_n) rfl)))
theorem is_hand_eq (hk : k ∈ MAN) (hi : i < ds.length) : EX (f_is_hand [thePlay (.str k) (.tup ds), .int i]) (.bl true) := by
  refine exf (N := 2) (exs_ret (ex_fn (ex_c (ex_fn (ex_c (ex_v rfl) ex_n) (many_manEq k hk ds)) (ex_c (ex_v rfl) ex_n)) fun g => ?_))
  rw [is_number_below_eq _ rfl]
  congr 3
  simp [inR]
  omega
theorem exfX {N : Nat} {b : FS} {ds : List D} {d : D} (h : EX (b (ds.map .dt ++ List.replicate (N - ds.length) .un)) (.rt d)) : EX (fun g => fnOf N b ds g) d := fun g => by
  show fnOf N b ds g = _
  unfold fnOf
  rw [h g]
theorem exfX_nx {N : Nat} {b : FS} {ds : List D} {ρ : List En} (h : EX (b (ds.map .dt ++ List.replicate (N - ds.length) .un)) (.nx ρ)) : EX (fun g => fnOf N b ds g) .non := fun g => by
  show fnOf N b ds g = _
  unfold fnOf
  rw [h g]
theorem ex_fnX {ρ : List En} {n : Nat} {Fn : List D → Gh → M D} {a : FA} {xs : List D} {z : D} (ha : EX (a ρ) xs) (h : EX (Fn xs) z) (hn : xs.length = n := by rfl) : EX (cFnX n Fn a ρ) z := EX.bd ha fun g => by
  rw [if_pos hn]; exact h g
theorem check_turn_eq {st3 : D} (hk : k ∈ MAN) (hi : i < ds.length) (hs : states[i]? = some st3) (hn : isNonB st3 = false) {c t : D} : EX (f_check_turn [thePlay (.str k) (.tup ds), .tup [c, .tup states, t], .int i]) .non := by
  refine exfX_nx (N := 3) (exs_seq (exs_if0 (ext_not (b := true) (ext (ex_fn (ex_c (ex_v rfl) (ex_c (ex_v rfl) ex_n)) (is_hand_eq hk hi)))) exs_nx) (exs_if0 (ext (ex_op (ex_op (ex_op (ex_v rfl) ex_d rfl) (ex_v rfl) (ix_nat hs)) ex_d ?_)) exs_nx))
  rw [isND_non, hn]
theorem step_eq (S : Sta k ds i ss done o cells states tolds first last now ready x cell ts) : EX (f_step [thePlay (.str k) (.tup ds), .tup [.tup cells, .tup states, .tup tolds], .int i]) (newS k ss i done o cells states tolds first last now ready x cell ts) := by
  have hi : i < ds.length := by rw [S.n4]; exact (List.getElem?_eq_some_iff.mp S.cell_).1
  exact exf (N := 3) (exs_seq (exs_drop (ex_fn (ex_c (ex_v rfl) (ex_c (ex_v rfl) (ex_c (ex_v rfl) ex_n))) (check_turn_eq S.A.hk hi S.st rfl))) (exs_ret (ex_fn (ex_c (ex_v rfl) (ex_c (ex_v rfl) (ex_c (ex_v rfl) ex_n))) (standing_behind_eq S))))
theorem next_step_eq (S : Sta k ds i ss done o cells states tolds first last now ready x cell ts) : EX (f_next_step [thePlay (.str k) (.tup ds), .tup [.tup cells, .tup states, .tup tolds], .int i]) (wordD k o now ready) := by
  have hi : i < ds.length := by rw [S.n4]; exact (List.getElem?_eq_some_iff.mp S.cell_).1
  refine exf (N := 3) (exs_seq (exs_drop (ex_fn (ex_c (ex_v rfl) (ex_c (ex_v rfl) (ex_c (ex_v rfl) ex_n))) (check_turn_eq S.A.hk hi S.st rfl))) (exs_ret (ex_fn (ex_c (ex_v rfl) (ex_c (ex_op (ex_op (ex_v rfl) ex_d rfl) (ex_v rfl) (ix_nat S.st)) (ex_c (ex_v rfl) ex_n))) ?_)))
  exact exf (N := 3) (exs_rt (exs_if1 (ext (ex_op (ex_1 (ex_v rfl) (fld_kind _ _)) ex_d (inMANN S.A.hk))) (exs_ret (ex_fn (ex_c (ex_v rfl) (ex_c (ex_v rfl) (ex_c (ex_v rfl) ex_n))) (word_in_manner_eq S.A first last now ready)))))
end
end Kk03
set_option Elab.async false
set_option linter.all false
set_option maxRecDepth 100000
set_option maxHeartbeats 400000
namespace Kk03
open PySem L2 FD
section
variable {k : Str} {ds ss cells states tolds : List D} {i done : Nat} {o : Option Int} {first last : D} {now : List D} {ready x cell : D} {ts : List D}
theorem deed1 (w : Int) : ixD (deedD (some w)) (.int 1) = some (.int w) := rfl
end
end Kk03
set_option Elab.async false
set_option linter.all false
set_option maxRecDepth 100000
set_option maxHeartbeats 400000
namespace Kk03
open PySem L2 FD
def cell0 : D := .tup [.int 0, .int 0, .non]
def startD : D → D
  | .tup ss => aheadD ss 0
  | _ => .non
def firstD (ds : List D) : D := .tup [.tup (ds.map fun _ => cell0), .tup (ds.map startD), .tup (ds.map fun _ => .tup [])]
theorem flat_rep (d : D) (n : Nat) : (List.replicate n [d]).flatten = List.replicate n d := by
  induction n with
  | zero => rfl
  | succ n ih => rw [List.replicate_succ, List.flatten_cons, ih, List.replicate_succ]; rfl
theorem map_same (ds : List D) (c : D) : (ds.map fun _ => c) = List.replicate ds.length c := by
  induction ds with
  | nil => rfl
  | cons d ds ih => rw [List.map_cons, ih]; rfl
theorem mul_rep (d : D) {n : Nat} (h1 : 1 ≤ n) (h2 : n ≤ 500) : mulD2 (.tup [d]) (.int (n : Nat)) = some (.tup (List.replicate n d)) := by
  by_cases h : n = 1
  · subst h; rfl
  · have e : mulD2 (.tup [d]) (.int (n : Nat)) = mulD (.tup [d]) (.int (n : Nat)) := by
      unfold mulD2
      split
      · rename_i h3 h4
        have := D.int.inj h4
        omega
      · rfl
    rw [e]
    show (if _ then _ else _) = _
    rw [if_pos ⟨by simp, by omega, by omega, by simp, by simp; omega⟩]
    rw [show ((n : Nat) : Int).toNat = n from rfl, flat_rep]
theorem first_of_hand_eq {k : Str} {ds ss : List D} {i : Nat} (hk : k ∈ MAN) (hi : ds[i]? = some (.tup ss)) : EX (f_first_of_hand [thePlay (.str k) (.tup ds), .int i]) (.tup [cell0, aheadD ss 0]) :=
  exf (N := 2) (exs_rt (exs_if1 (ext (ex_op (ex_1 (ex_v rfl) (fld_kind _ _)) ex_d (inMANN hk))) (exs_ret (ex_fn (ex_c (ex_v rfl) (ex_c (ex_v rfl) ex_n)) (exf (N := 2) (exs_ret (ex_tup (ex_c ex_d (ex_c (ex_fn (ex_c (ex_op (ex_1 (ex_v rfl) (fld_inputs _ _)) (ex_v rfl) (ix_nat hi)) (ex_c ex_d ex_n)) (state_ahead_eq _ _)) ex_n)))))))))
def fstD : D → D
  | .tup [a, _] => a
  | _ => .non
def sndD : D → D
  | .tup [_, a] => a
  | _ => .non
theorem rng_map {ds : List D} (F : D → D) (G : D → D) (h : ∀ (j : Nat) (d : D), ds[j]? = some d → F (.int ((j : Nat) : Int)) = G d) : (rngD 0 ds.length).map F = ds.map G := by
  apply List.ext_getElem?
  intro j
  unfold rngD
  rw [List.map_map, List.getElem?_map, List.getElem?_map]
  by_cases hj : j < ds.length
  · rw [List.getElem?_range hj, List.getElem?_eq_getElem hj]
    simp only [Option.map_some, Function.comp]
    rw [show (0 : Int) + (j : Int) = ((j : Nat) : Int) by omega, h j ds[j] (List.getElem?_eq_getElem hj)]
  · rw [List.getElem?_eq_none (l := List.range ds.length) (by simp; omega), List.getElem?_eq_none (l := ds) (by omega)]; rfl
theorem first_standing_eq {k : Str} {ds : List D} (hk : k ∈ MAN) (h : ∀ d ∈ ds, ∃ ss, d = .tup ss) (h2 : ds.length ≤ 500) : EX (f_first_standing [thePlay (.str k) (.tup ds)]) (firstD ds) := by
  let F : D → D := fun d => match d with
    | .int j => .tup [cell0, startD ((ds[j.toNat]?).getD .non)]
    | _ => .non
  have hF : ∀ (j : Nat) (d : D), ds[j]? = some d → F (.int ((j : Nat) : Int)) = .tup [cell0, startD d] := fun j d hd => by
    show D.tup [cell0, startD ((ds[((j : Nat) : Int).toNat]?).getD .non)] = _
    rw [Int.toNat_natCast, hd]; rfl
  have fm := rng_map F (fun d => .tup [cell0, startD d]) hF
  refine exf (N := 9) ?_
  refine exs_seq (ρ1 := [.dt (thePlay (.str k) (.tup ds)), .dt (.rng 0 (ds.length : Nat)), .un, .un, .un, .un, .un, .un, .un]) (exs_asg (ex_call (ex_c (ex_fn (ex_c (ex_v rfl) ex_n) (many_manEq k hk ds)) ex_n) rfl) rfl) ?_
  refine exs_seq (ρ1 := [.dt (thePlay (.str k) (.tup ds)), .dt (.rng 0 (ds.length : Nat)), .dt (.lst ((rngD 0 ds.length).map F)), .un, .un, .un, .un, .un, .un]) (exs_asg (ex_lc (exi_v (ex_v rfl) (by omega)) (exc_map (F := F) fun d hd => ⟨_, rfl, ?_⟩) (by simp [rngD]; omega)) rfl) ?_
  · unfold rngD at hd
    obtain ⟨j, hj, rfl⟩ := List.mem_map.mp hd
    have hj := List.mem_range.mp hj
    have hx : ds[j]? = some ds[j] := List.getElem?_eq_getElem hj
    obtain ⟨ss, hs⟩ := h _ (List.mem_of_getElem? hx)
    have e0 : ((0 : Int) + (j : Int)) = ((j : Nat) : Int) := by omega
    rw [e0, hF j _ hx, hs]
    exact ex_fn (ex_c (ex_v rfl) (ex_c (ex_v rfl) ex_n)) (first_of_hand_eq hk (by rw [hx, hs]))
  rw [fm]
  refine exs_seq (ρ1 := [.dt (thePlay (.str k) (.tup ds)), .dt (.rng 0 (ds.length : Nat)), .dt (.lst (ds.map fun d => .tup [cell0, startD d])), .dt (.tup ((ds.map fun d => D.tup [cell0, startD d]).map fstD)), .un, .un, .un, .un, .un]) (exs_asg (ex_call (ex_c (ex_lc (exi_s (ex_v rfl) rfl) (exc_map (F := fstD) fun d hd => ?_) (by simp; omega)) ex_n) rfl) rfl) ?_
  · obtain ⟨e, _, rfl⟩ := List.mem_map.mp hd
    exact ⟨_, rfl, ex_v rfl⟩
  refine exs_seq (ρ1 := [.dt (thePlay (.str k) (.tup ds)), .dt (.rng 0 (ds.length : Nat)), .dt (.lst (ds.map fun d => .tup [cell0, startD d])), .dt (.tup ((ds.map fun d => D.tup [cell0, startD d]).map fstD)), .dt (.tup ((ds.map fun d => D.tup [cell0, startD d]).map sndD)), .un, .un, .un, .un]) (exs_asg (ex_call (ex_c (ex_lc (exi_s (ex_v rfl) rfl) (exc_map (F := sndD) fun d hd => ?_) (by simp; omega)) ex_n) rfl) rfl) ?_
  · obtain ⟨e, _, rfl⟩ := List.mem_map.mp hd
    exact ⟨_, rfl, ex_v rfl⟩
  have e1 : (ds.map fun d => D.tup [cell0, startD d]).map fstD = ds.map fun _ => cell0 := by
    rw [List.map_map]; rfl
  have e2 : (ds.map fun d => D.tup [cell0, startD d]).map sndD = ds.map startD := by
    rw [List.map_map]; rfl
  have e3 := rng_map (ds := ds) (fun _ => D.tup []) (fun _ => D.tup []) (fun _ _ _ => rfl)
  rw [e1, e2]
  unfold firstD
  rw [← e3]
  exact exs_ret (ex_tup (ex_c (ex_v rfl) (ex_c (ex_v rfl) (ex_c (ex_call (ex_c (ex_lc (exi_v (ex_v rfl) (by omega)) (exc_map (F := fun _ => .tup []) fun d hd => ⟨_, rfl, ex_tup ex_n⟩) (by simp [rngD]; omega)) ex_n) rfl) ex_n))))
end Kk03
set_option Elab.async false
set_option linter.all false
set_option maxRecDepth 100000
set_option maxHeartbeats 400000
namespace Kk03
open PySem L2 FD
/-- the hands that are not over -/
def goes (states : List D) : D → Bool
  | .int j => !isNonB ((states[j.toNat]?).getD .non)
  | _ => false
def ableL (states : List D) : List D := (rngD 0 states.length).filter (goes states)
theorem enum_able (p : D → Bool) : ∀ (xs : List D) (a : Nat), (∀ (j : Nat) (d : D), xs[j]? = some d → p (.int ((a + j : Nat) : Int)) = !isNonB d) →
    ((((xs.zipIdx a).map fun q => D.tup [.int (q.2 : Nat), q.1]).filter fun d => !isNonB (sndD d)).map fstD) = (rngD (a : Int) xs.length).filter p
  | [], _, _ => rfl
  | x :: xs, a, h => by
    have h0 := h 0 x rfl
    rw [Nat.add_zero] at h0
    have e1 : ((a : Int) + 1) = ((a + 1 : Nat) : Int) := by omega
    have ih := enum_able p xs (a + 1) fun j d hd => by
      rw [show a + 1 + j = a + (j + 1) by omega]; exact h (j + 1) d (by simpa using hd)
    rw [List.zipIdx_cons, List.map_cons, List.length_cons, rngD_cons, List.filter_cons, List.filter_cons, h0, e1]
    show ((if (!isNonB x) = true then _ else _) : List D).map fstD = _
    by_cases hx : (!isNonB x) = true
    · rw [if_pos hx, if_pos hx, List.map_cons, ih]; rfl
    · rw [if_neg hx, if_neg hx, ih]
theorem goes_at {states : List D} {j : Nat} {d : D} (h : states[j]? = some d) : goes states (.int ((j : Nat) : Int)) = !isNonB d := by
  show (!isNonB ((states[((j : Nat) : Int).toNat]?).getD .non)) = _
  rw [Int.toNat_natCast, h]; rfl
theorem able_len (states : List D) : (ableL states).length ≤ states.length := by
  unfold ableL
  refine Nat.le_trans (List.length_filter_le _ _) ?_
  simp [rngD]
theorem can_step_eq {states : List D} (hl : states.length ≤ 500) (play c t : D) : EX (f_can_step [play, .tup [c, .tup states, t]]) (.tup (ableL states)) := by
  have e := enum_able (goes states) states 0 (fun j d hd => by rw [Nat.zero_add]; exact goes_at hd)
  have e0 : ((0 : Nat) : Int) = 0 := rfl
  rw [e0] at e
  have al := able_len states
  unfold ableL at al ⊢
  rw [← e] at al ⊢
  refine exf (N := 4) (exs_ret (ex_call (ex_c (ex_lc (exi_e (ex_c (ex_op (ex_v rfl) ex_d rfl) ex_n) rfl) (exc_fil (p := fun d => !isNonB (sndD d)) (F := fstD) fun d hd => ?_) (by omega)) ex_n) rfl))
  obtain ⟨⟨x, j⟩, _, rfl⟩ := List.mem_map.mp hd
  exact ⟨_, rfl, ext (ex_op (ex_v rfl) ex_d (notND_non _)), ex_v rfl⟩
/-- one of those that go: its number and what stands of it -/
theorem mem_able {states : List D} {d : D} (h : d ∈ ableL states) : ∃ (i : Nat) (s : D), d = .int ((i : Nat) : Int) ∧ states[i]? = some s ∧ isNonB s = false := by
  unfold ableL at h
  obtain ⟨h1, h2⟩ := List.mem_filter.mp h
  unfold rngD at h1
  obtain ⟨i, hi, rfl⟩ := List.mem_map.mp h1
  have hi := List.mem_range.mp hi
  have hs : states[i]? = some states[i] := List.getElem?_eq_getElem hi
  have e0 : ((0 : Int) + (i : Int)) = ((i : Nat) : Int) := by omega
  rw [e0] at h2 ⊢
  rw [goes_at hs] at h2
  exact ⟨i, _, rfl, hs, by simpa using h2⟩
theorem able_ints {states : List D} {d : D} (h : d ∈ ableL states) : ∃ (i : Nat), d = .int ((i : Nat) : Int) ∧ i < states.length := by
  obtain ⟨i, s, rfl, hs, _⟩ := mem_able h
  exact ⟨i, rfl, (List.getElem?_eq_some_iff.mp hs).1⟩
theorem able_plain {states : List D} (hl : states.length ≤ 500) : plain 2 (.tup (ableL states)) = true := by
  rw [plain_tup]
  refine ⟨Nat.le_trans (able_len states) hl, fun d hd => ?_⟩
  obtain ⟨i, rfl, _⟩ := able_ints hd
  rfl
end Kk03
set_option Elab.async false
set_option linter.all false
set_option maxRecDepth 100000
set_option maxHeartbeats 400000
namespace Kk03
open PySem L2 FD
/-- a picture that is ready, or none -/
def RdOk (r : D) : Prop := r = .non ∨ (tiny 3 r = true ∧ isNonB r = false)
structure CellOk (c : D) : Prop where
  e : ∃ (a v : Int) (r : D), c = .tup [.int a, .int v, r] ∧ 0 ≤ a ∧ a ≤ 6 ∧ 0 ≤ v ∧ v ≤ 999 ∧ RdOk r
theorem CellOk.s {c : D} (h : CellOk c) : CellS c := by
  obtain ⟨a, v, r, rfl, _⟩ := h.e
  exact ⟨a, v, r, rfl⟩
def NumsT (n : Nat) (x : D) : Prop := x = .non ∨ ∃ ns : List Int, x = .tup (ns.map .int) ∧ ns.length = n ∧ ∀ m ∈ ns, 0 ≤ m ∧ m ≤ 6
theorem NumsT.nums {n : Nat} {x : D} (h : NumsT n x) : Nums n x := by
  rcases h with rfl | ⟨ns, rfl, h, _⟩
  · exact .non
  · exact .of ns h
theorem nums_cells {cs : List D} (h : ∀ c ∈ cs, CellOk c) : NumsT cs.length (.tup (cs.map numD)) := by
  refine .inr ⟨cs.map numI, by rw [numD_map fun c hc => (h c hc).s], by simp, fun m hm => ?_⟩
  obtain ⟨c, hc, rfl⟩ := List.mem_map.mp hm
  obtain ⟨a, v, r, rfl, h0, h1, _⟩ := (h c hc).e
  exact ⟨h0, h1⟩
theorem pic_cells {cs : List D} (h : ∀ c ∈ cs, CellOk c) (hl : cs.length ≤ 6) : tiny 3 (.tup (cs.map pairD)) = true := by
  rw [tiny_tup]
  refine ⟨by simpa using hl, fun d hd => ?_⟩
  obtain ⟨c, hc, rfl⟩ := List.mem_map.mp hd
  obtain ⟨a, v, r, rfl, h0, h1, h2, h3, _⟩ := (h c hc).e
  show tiny 2 (.tup [.int a, .int v]) = true
  rw [tiny_tup]
  refine ⟨by simp, fun d hd => ?_⟩
  have z : d = .int a ∨ d = .int v := by simpa using hd
  rcases z with rfl | rfl
  · exact tiny_int (n := 0) (by omega)
  · exact tiny_int (n := 0) (by omega)
theorem lent_ok : ∀ (fs : List Int) (cs : List D), (∀ c ∈ cs, CellOk c) → RdOk (lent fs cs)
  | [], _, _ => .inl rfl
  | _ :: _, [], _ => .inl rfl
  | f :: fs, c :: cs, h => by
    unfold lent
    split
    · obtain ⟨a, v, r, rfl, _, _, _, _, hr⟩ := (h c (by simp)).e
      exact hr
    · exact lent_ok fs cs fun c hc => h c (by simp [hc])
open Classical in
theorem seen_ok {k : Str} {first last : D} {cs : List D} (h : ∀ c ∈ cs, CellOk c) (hl : cs.length ≤ 6) : RdOk (seenD k first last cs) := by
  unfold seenD
  split
  · exact .inr ⟨pic_cells h hl, rfl⟩
  · split
    · split
      · exact lent_ok _ _ h
      · exact .inl rfl
    · exact .inl rfl
/-- what stands of a hand that goes on -/
structure Going (k : Str) (n : Nat) (ss : List D) (done : Nat) (first last : D) (now : List D) (ready : D) : Prop where
  d : done < ss.length
  f : NumsT n first
  l : NumsT n last
  n1 : now.length < n
  nc : ∀ c ∈ now, CellOk c
  r : RdOk ready
  rb : ready ≠ .non → k = "borrow" ∧ ∃ w, ss[done]? = some (deedD (some w))
def SInv (k : Str) (n : Nat) (ss : List D) (done : Nat) (state : D) : Prop := state = .non ∨ ∃ first last now ready, state = stD done first last now ready ∧ Going k n ss done first last now ready
/-- what stands of a hand -/
structure HInv (k : Str) (n : Nat) (ss : List D) (cell state told : D) : Prop where
  e : ∃ (done : Nat) (a v : Int) (r : D) (ts : List D), cell = .tup [.int a, .int v, r] ∧ 0 ≤ a ∧ a ≤ (done : Int) ∧ 0 ≤ v ∧ v ≤ 999 ∧ RdOk r ∧ told = .tup ts ∧ ts.length ≤ done ∧ (∀ t ∈ ts, tiny 3 t = true) ∧ done ≤ ss.length ∧ SInv k n ss done state
theorem ahead_inv {k : Str} {n : Nat} {ss : List D} {done : Nat} (hd : done < ss.length) (hn : 1 ≤ n) : SInv k n ss (done + 1) (aheadD ss ((done : Int) + 1)) := by
  unfold aheadD
  by_cases h : (done : Int) + 1 = (ss.length : Int)
  · rw [if_pos h]; exact .inl rfl
  · rw [if_neg h]
    refine .inr ⟨.non, .non, [], .non, ?_, by omega, .inl rfl, .inl rfl, (show 0 < n by omega), fun c hc => by simp at hc, .inl rfl, fun z => absurd rfl z⟩
    show fresh ((done : Int) + 1) = _
    rfl
theorem isNonB_of {x : D} (h : isNonB x = true) : x = .non := by cases x <;> simp [isNonB] at h; rfl
theorem next_inv {k : Str} {n : Nat} {ss : List D} {done : Nat} {o : Option Int} {first last : D} {now : List D} {ready x : D} {a v : Int} {r : D} {ts : List D} (G : Going k n ss done first last now ready) (hs : ss[done]? = some (deedD o)) (ho : ∀ w, o = some w → 0 ≤ w ∧ w ≤ 999) (hss : ss.length ≤ 6) (hn1 : 1 ≤ n) (hn5 : n ≤ 5)
    (hx : CellOk x) (a0 : 0 ≤ a) (a1 : a ≤ (done : Int)) (v0 : 0 ≤ v) (v1 : v ≤ 999) (hr : RdOk r) (ht : ts.length ≤ done) (htt : ∀ t ∈ ts, tiny 3 t = true) :
    HInv k n ss (nextD k ss done o first last now ready (.tup [.int a, .int v, r]) x n).1 (nextD k ss done o first last now ready (.tup [.int a, .int v, r]) x n).2.1 (.tup (ts ++ (nextD k ss done o first last now ready (.tup [.int a, .int v, r]) x n).2.2)) := by
  have hc : ∀ c ∈ now ++ [x], CellOk c := fun c hc => by
    rcases List.mem_append.mp hc with h | h
    · exact G.nc c h
    · have : c = x := by simpa using h
      exact this ▸ hx
  have hd := G.d
  unfold nextD
  by_cases hp : putsB k o ready = true
  · rw [if_pos hp]
    obtain ⟨w, rfl⟩ : ∃ w, o = some w := by
      cases o with
      | none => simp [putsB] at hp
      | some w => exact ⟨w, rfl⟩
    obtain ⟨w0, w1⟩ := ho w rfl
    refine ⟨done + 1, a + 1, w, ready, ts ++ [], rfl, by omega, by omega, w0, w1, G.r, rfl, by simp; omega, by simpa using htt, by omega, ahead_inv hd hn1⟩
  · rw [if_neg hp]
    have keep : ∀ (st : D), SInv k n ss done st → HInv k n ss (.tup [.int a, .int v, r]) st (.tup (ts ++ [])) := fun st h => ⟨done, a, v, r, ts ++ [], rfl, a0, a1, v0, v1, hr, rfl, by simpa using ht, by simpa using htt, by omega, h⟩
    simp only
    unfold lookD
    by_cases h1 : (now ++ [x]).length < n
    · rw [if_pos h1]
      exact keep _ (.inr ⟨first, last, now ++ [x], ready, rfl, hd, G.f, G.l, h1, hc, G.r, G.rb⟩)
    · rw [if_neg h1]
      have n1 := G.n1
      have len2 : (now ++ [x]).length = n := by simp at h1 ⊢; omega
      have hnum := nums_cells hc
      rw [len2] at hnum
      by_cases hb : isNonB (seenD k first last (now ++ [x])) = true
      · rw [if_pos hb]
        refine keep _ (.inr ⟨_, _, [], ready, rfl, hd, ?_, hnum, (show 0 < n by omega), fun c hc => by simp at hc, G.r, G.rb⟩)
        by_cases hf : isNonB first = true
        · rw [if_pos hf]; exact hnum
        · rw [if_neg hf]; exact G.f
      · rw [if_neg hb]
        have hso := seen_ok (k := k) (first := first) (last := last) hc (by omega)
        have hsp : tiny 3 (seenD k first last (now ++ [x])) = true := by
          rcases hso with z | z
          · rw [z] at hb; simp [isNonB] at hb
          · exact z.1
        by_cases hos : o.isSome = true
        · rw [if_pos hos]
          obtain ⟨w, rfl⟩ := Option.isSome_iff_exists.mp hos
          have hbor : k = "borrow" := by
            by_cases z : k = "borrow"
            · exact z
            · exact absurd (by simp [putsB, z]) hp
          exact keep _ (.inr ⟨.non, .non, [], _, rfl, hd, .inl rfl, .inl rfl, (show 0 < n by omega), fun c hc => by simp at hc, hso, fun _ => ⟨hbor, w, hs⟩⟩)
        · rw [if_neg hos]
          refine ⟨done + 1, a, v, r, ts ++ [seenD k first last (now ++ [x])], rfl, a0, by omega, v0, v1, hr, rfl, by simp; omega, fun t h => ?_, by omega, ahead_inv hd hn1⟩
          rcases List.mem_append.mp h with h | h
          · exact htt t h
          · have : t = seenD k first last (now ++ [x]) := by simpa using h
            exact this ▸ hsp
end Kk03
set_option Elab.async false
set_option linter.all false
set_option maxRecDepth 100000
set_option maxHeartbeats 400000
namespace Kk03
open PySem L2 FD
/-- what stands of a play -/
structure Inv (k : Str) (ds cells states tolds : List D) : Prop where
  hk : k ∈ MAN
  n1 : 1 ≤ ds.length
  n5 : ds.length ≤ 5
  c : cells.length = ds.length
  s : states.length = ds.length
  t : tolds.length = ds.length
  all : ∀ d ∈ ds, ∃ ss, d = .tup ss ∧ ss.length ≤ 6 ∧ ∀ e ∈ ss, ∃ o, e = deedD o ∧ ∀ w, o = some w → 0 ≤ w ∧ w ≤ 999
  h : ∀ (i : Nat) (ss : List D) (c s t : D), ds[i]? = some (.tup ss) → cells[i]? = some c → states[i]? = some s → tolds[i]? = some t → HInv k ds.length ss c s t
section
variable {k : Str} {ds cells states tolds : List D}
theorem Inv.at (I : Inv k ds cells states tolds) {i : Nat} (hi : i < ds.length) : ∃ ss c s t, ds[i]? = some (.tup ss) ∧ cells[i]? = some c ∧ states[i]? = some s ∧ tolds[i]? = some t ∧ ss.length ≤ 6 ∧ (∀ e ∈ ss, ∃ o, e = deedD o ∧ ∀ w, o = some w → 0 ≤ w ∧ w ≤ 999) ∧ HInv k ds.length ss c s t := by
  have d1 : ds[i]? = some ds[i] := List.getElem?_eq_getElem hi
  obtain ⟨ss, hs, h6, hd⟩ := I.all _ (List.mem_of_getElem? d1)
  rw [hs] at d1
  have c1 : cells[i]? = some (cells[i]'(by rw [I.c]; exact hi)) := List.getElem?_eq_getElem _
  have s1 : states[i]? = some (states[i]'(by rw [I.s]; exact hi)) := List.getElem?_eq_getElem _
  have t1 : tolds[i]? = some (tolds[i]'(by rw [I.t]; exact hi)) := List.getElem?_eq_getElem _
  exact ⟨ss, _, _, _, d1, c1, s1, t1, h6, hd, I.h i ss _ _ _ d1 c1 s1 t1⟩
theorem Inv.cell (I : Inv k ds cells states tolds) {i : Nat} {c : D} (h : cells[i]? = some c) : CellOk c := by
  have hi : i < ds.length := by rw [← I.c]; exact (List.getElem?_eq_some_iff.mp h).1
  obtain ⟨ss, c', s, t, _, c1, _, _, h6, _, H⟩ := I.at hi
  rw [h] at c1
  cases c1
  obtain ⟨done, a, v, r, ts, rfl, a0, a1, v0, v1, hr, _, _, _, hd, _⟩ := H.e
  exact ⟨a, v, r, rfl, a0, by omega, v0, v1, hr⟩
end
end Kk03
set_option Elab.async false
set_option linter.all false
set_option maxRecDepth 100000
set_option maxHeartbeats 400000
namespace Kk03
open PySem L2 FD
theorem script_form {d : D} (h : Script d) : ∃ ss, d = .tup ss ∧ ss.length ≤ 6 ∧ ∀ e ∈ ss, ∃ o, e = deedD o ∧ ∀ w, o = some w → 0 ≤ w ∧ w ≤ 999 := by
  obtain ⟨h1, h2⟩ := h
  cases d with
  | tup xs =>
    obtain ⟨_, hm⟩ := fine_tup.mp h2
    simp only [scriptB, Bool.and_eq_true, decide_eq_true_eq] at h1
    exact ⟨xs, rfl, h1.1, fun e he => deed_form (List.all_eq_true.mp h1.2 e he) (hm e he)⟩
  | _ => simp [scriptB] at h1
theorem first_inv {k : Str} {ds : List D} {n : Nat} (hk : k ∈ MAN) (h : Menu n Script ds) (h1 : 1 ≤ n) (h5 : n ≤ 5) : Inv k ds (ds.map fun _ => cell0) (ds.map startD) (ds.map fun _ => .tup []) := by
  refine ⟨hk, by rw [h.1]; exact h1, by rw [h.1]; exact h5, by simp, by simp, by simp, fun d hd => script_form (h.2 d hd), fun i ss c s t k1 k2 k3 k4 => ?_⟩
  rw [List.getElem?_map, k1] at k2 k3 k4
  cases k2
  cases k3
  cases k4
  refine ⟨0, 0, 0, .non, [], rfl, by omega, by omega, by omega, by omega, .inl rfl, rfl, by simp, fun t ht => by simp at ht, by omega, ?_⟩
  show SInv k ds.length ss 0 (aheadD ss 0)
  unfold aheadD
  by_cases z : (0 : Int) = (ss.length : Int)
  · rw [if_pos z]; exact .inl rfl
  · rw [if_neg z]
    refine .inr ⟨.non, .non, [], .non, rfl, by omega, .inl rfl, .inl rfl, (show 0 < ds.length by rw [h.1]; omega), fun c hc => by simp at hc, .inl rfl, fun z => absurd rfl z⟩
theorem RdOk.tiny {r : D} (h : RdOk r) : tiny 3 r = true := by
  rcases h with rfl | h
  · rfl
  · exact h.1
theorem CellOk.tiny {c : D} (h : CellOk c) : tiny 4 c = true := by
  obtain ⟨a, v, r, rfl, h0, h1, h2, h3, hr⟩ := h.e
  rw [tiny_tup]
  refine ⟨by simp, fun d hd => ?_⟩
  have z : d = .int a ∨ d = .int v ∨ d = r := by simpa using hd
  rcases z with rfl | rfl | rfl
  · exact tiny_int (n := 2) (by omega)
  · exact tiny_int (n := 2) (by omega)
  · exact hr.tiny
theorem NumsT.tiny {n : Nat} {x : D} (h : NumsT n x) (hn : n ≤ 6) : tiny 2 x = true := by
  rcases h with rfl | ⟨ns, rfl, hl, hm⟩
  · rfl
  · rw [tiny_tup]
    refine ⟨by simp; omega, fun d hd => ?_⟩
    obtain ⟨m, h1, rfl⟩ := List.mem_map.mp hd
    have := hm m h1
    exact tiny_int (n := 0) (by omega)
theorem Inv.tiny {k : Str} {ds cells states tolds : List D} (I : Inv k ds cells states tolds) : tiny 8 (.tup [.tup cells, .tup states, .tup tolds]) = true := by
  have n5 := I.n5
  have pick : ∀ {xs : List D}, xs.length = ds.length → ∀ d ∈ xs, ∃ i, i < ds.length ∧ xs[i]? = some d := fun {xs} hl d hd => by
    obtain ⟨i, hi, e⟩ := List.mem_iff_getElem.mp hd
    exact ⟨i, by omega, by rw [List.getElem?_eq_getElem hi, e]⟩
  rw [tiny_tup]
  refine ⟨by simp, fun d hd => ?_⟩
  have z : d = .tup cells ∨ d = .tup states ∨ d = .tup tolds := by simpa using hd
  rcases z with rfl | rfl | rfl
  · refine tiny_le (n := 5) 2 ?_
    rw [tiny_tup]
    refine ⟨by rw [I.c]; omega, fun d hd => ?_⟩
    obtain ⟨i, hi, e⟩ := pick I.c d hd
    exact (I.cell e).tiny
  · rw [tiny_tup]
    refine ⟨by rw [I.s]; omega, fun d hd => ?_⟩
    obtain ⟨i, hi, e⟩ := pick I.s d hd
    obtain ⟨ss, c, s, t, d1, c1, s1, t1, h6, hds, H⟩ := I.at hi
    rw [e] at s1
    cases s1
    obtain ⟨done, a, v, r, ts, _, _, _, _, _, _, _, _, _, hdn, hS⟩ := H.e
    rcases hS with rfl | ⟨first, last, now, ready, rfl, G⟩
    · rfl
    · show Kk03.tiny 6 (.tup [.int (done : Nat), first, last, .tup now, ready]) = true
      rw [tiny_tup]
      refine ⟨by simp, fun d hd => ?_⟩
      have z : d = .int (done : Nat) ∨ d = first ∨ d = last ∨ d = .tup now ∨ d = ready := by simpa using hd
      rcases z with rfl | rfl | rfl | rfl | rfl
      · exact tiny_int (n := 4) (by omega)
      · exact tiny_le 3 (G.f.tiny (by omega))
      · exact tiny_le 3 (G.l.tiny (by omega))
      · rw [tiny_tup]
        exact ⟨by have := G.n1; omega, fun c hc => (G.nc c hc).tiny⟩
      · exact tiny_le 2 G.r.tiny
  · refine tiny_le (n := 5) 2 ?_
    rw [tiny_tup]
    refine ⟨by rw [I.t]; omega, fun d hd => ?_⟩
    obtain ⟨i, hi, e⟩ := pick I.t d hd
    obtain ⟨ss, c, s, t, d1, c1, s1, t1, h6, hds, H⟩ := I.at hi
    rw [e] at t1
    cases t1
    obtain ⟨done, a, v, r, ts, _, _, _, _, _, _, rfl, hl, ht, hdn, _⟩ := H.e
    rw [tiny_tup]
    exact ⟨by omega, fun t h => ht t h⟩
end Kk03
set_option Elab.async false
set_option linter.all false
set_option maxRecDepth 100000
set_option maxHeartbeats 400000
namespace Kk03
open PySem L2 FD
/-! ### the signs of what is shown -/
theorem ok_ofString (s : String) : PyData.strOk (Str.ofString s) = true := by
  rw [Str.ofString_eq_toList]
  unfold PyData.strOk
  simp only [List.all_toArray, List.all_map, List.all_eq_true, Function.comp]
  intro c _
  exact decide_eq_true (by
    have := c.valid
    have h : c.toNat < 1114112 := by
      rcases this with h | h
      · exact Nat.lt_trans h (by decide)
      · exact h.2
    exact h)
theorem ok_app {a b : Str} (ha : PyData.strOk a = true) (hb : PyData.strOk b = true) : PyData.strOk (a ++ b) = true := by
  show (a.cps ++ b.cps).all _ = true
  rw [Array.all_append]
  exact Bool.and_eq_true_iff.mpr ⟨ha, hb⟩
theorem ok_join {s : Str} (hs : PyData.strOk s = true) : ∀ ts : List Str, (∀ t ∈ ts, PyData.strOk t = true) → PyData.strOk (Str.join s ts) = true
  | [], _ => by unfold Str.join; decide +kernel
  | [x], h => by unfold Str.join; exact h x (by simp)
  | x :: y :: r, h => by
    show PyData.strOk (x ++ s ++ Str.join s (y :: r)) = true
    exact ok_app (ok_app (h x (by simp)) hs) (ok_join hs (y :: r) fun t ht => h t (by simp [ht]))
theorem ok_tupleText {ts : List Str} (h : ∀ t ∈ ts, PyData.strOk t = true) : PyData.strOk (tupleText ts) = true := by
  unfold tupleText
  exact ok_app (ok_app (ok_ofString _) (ok_join (ok_ofString _) ts h)) (ok_ofString _)
/-! ### its length -/
theorem len_app (a b : Str) : (a ++ b).length = a.length + b.length := by
  show (a.cps ++ b.cps).size = _
  rw [Array.size_append]; rfl
theorem len_join (m : Nat) : ∀ ts : List Str, (∀ t ∈ ts, t.length ≤ m) → (Str.join ", " ts).length ≤ ts.length * (m + 2)
  | [], _ => by unfold Str.join; exact Nat.zero_le _
  | [x], h => by
    have := h x (by simp)
    unfold Str.join
    simp; omega
  | x :: y :: r, h => by
    have h1 := h x (by simp)
    have ih := len_join m (y :: r) fun t ht => h t (by simp [ht])
    have e : (Str.ofString ", ").length = 2 := by decide +kernel
    show (x ++ Str.ofString ", " ++ Str.join (Str.ofString ", ") (y :: r)).length ≤ _
    rw [len_app, len_app, e]
    simp only [List.length_cons] at ih ⊢
    rw [Nat.add_mul (r.length + 1) 1]
    omega
theorem len_tupleText {ts : List Str} {m : Nat} (h : ∀ t ∈ ts, t.length ≤ m) : (tupleText ts).length ≤ ts.length * (m + 2) + 4 := by
  have j := len_join m ts h
  have e : (Str.ofString "(").length = 1 := by decide +kernel
  unfold tupleText
  rw [len_app, len_app, e]
  have e2 : (Str.ofString (if (ts.length == 1) = true then ",)" else ")")).length ≤ 2 := by
    split <;> decide +kernel
  omega
end Kk03
set_option Elab.async false
set_option linter.all false
set_option maxRecDepth 100000
set_option maxHeartbeats 400000
namespace Kk03
open PySem L2 FD
def fB : Nat → Nat
  | 0 => 5
  | n + 1 => 6 * fB n + 16
theorem fB5 (n : Nat) : 5 ≤ fB n := by
  cases n with
  | zero => decide
  | succ n => unfold fB; omega
def shOk (m : Nat) (d : D) : Prop := ∃ p, d.py = some p ∧ p.showable = true ∧ PyData.strOk p.shown = true ∧ p.shown.length ≤ m
theorem shs_ok {m : Nat} : ∀ {ds : List D}, (∀ d ∈ ds, shOk m d) → ∃ ps, D.pys ds = some ps ∧ PyData.showableAll ps = true ∧ (∀ t ∈ PyData.shownAll ps, PyData.strOk t = true ∧ t.length ≤ m) ∧ (PyData.shownAll ps).length = ds.length
  | [], _ => ⟨[], rfl, rfl, fun t h => by simp [PyData.shownAll] at h, rfl⟩
  | d :: ds, h => by
    obtain ⟨p, h1, h2, h3, h4⟩ := h d (by simp)
    obtain ⟨ps, e1, e2, e3, e4⟩ := shs_ok (ds := ds) fun d hd => h d (by simp [hd])
    refine ⟨p :: ps, by simp [D.pys, h1, e1], by simp [PyData.showableAll, h2, e2], fun t ht => ?_, by simp [PyData.shownAll, e4]⟩
    simp only [PyData.shownAll, List.mem_cons] at ht
    rcases ht with rfl | ht
    · exact ⟨h3, h4⟩
    · exact e3 t ht
theorem tiny_shown {n : Nat} : ∀ {d : D}, tiny (n + 1) d = true → shOk (fB n) d := by
  induction n with
  | zero =>
    intro d h
    cases d with
    | non => exact ⟨_, rfl, rfl, ok_ofString _, by show (Str.ofString "None").length ≤ 5; rw [ofString_length]; decide⟩
    | int i =>
      have hi : i.natAbs ≤ 1000 := by simpa [tiny] using h
      refine ⟨_, rfl, ?_, ok_ofString _, ?_⟩
      · show decide (i.natAbs.log2 < 1920) = true
        have : i.natAbs.log2 ≤ i.natAbs := Nat.log2_le_self _
        exact decide_eq_true (by omega)
      · show (Str.ofString (toString i)).length ≤ 5
        rw [ofString_length]
        exact int_text_length_le10 (k := 4) (by decide) (by omega)
    | tup xs =>
      obtain ⟨hl, hm⟩ := tiny_tup.mp h
      cases xs with
      | nil => exact ⟨.tuple [], rfl, rfl, ok_tupleText (fun t ht => by simp [PyData.shownAll] at ht), by show (tupleText []).length ≤ 5; exact Nat.le_trans (len_tupleText (m := 0) fun t ht => by simp at ht) (by decide)⟩
      | cons x xs => have := hm x (by simp); simp [tiny] at this
    | _ => simp [tiny] at h
  | succ n ih =>
    intro d h
    cases d with
    | non => exact ⟨_, rfl, rfl, ok_ofString _, Nat.le_trans (by show (Str.ofString "None").length ≤ 5; rw [ofString_length]; decide) (fB5 _)⟩
    | int i =>
      have hi : i.natAbs ≤ 1000 := by simpa [tiny] using h
      refine ⟨_, rfl, ?_, ok_ofString _, Nat.le_trans (m := 5) ?_ (fB5 _)⟩
      · show decide (i.natAbs.log2 < 1920) = true
        have : i.natAbs.log2 ≤ i.natAbs := Nat.log2_le_self _
        exact decide_eq_true (by omega)
      · show (Str.ofString (toString i)).length ≤ 5
        rw [ofString_length]
        exact int_text_length_le10 (k := 4) (by decide) (by omega)
    | tup xs =>
      obtain ⟨hl, hm⟩ := tiny_tup.mp h
      obtain ⟨ps, e1, e2, e3, e4⟩ := shs_ok (ds := xs) fun d hd => ih (hm d hd)
      refine ⟨.tuple ps, by simp [D.py, e1], e2, ok_tupleText fun t ht => (e3 t ht).1, ?_⟩
      have := len_tupleText (ts := PyData.shownAll ps) (m := fB n) fun t ht => (e3 t ht).2
      rw [e4] at this
      show (tupleText (PyData.shownAll ps)).length ≤ 6 * fB n + 16
      have z : xs.length * (fB n + 2) ≤ 6 * (fB n + 2) := Nat.mul_le_mul_right _ hl
      omega
    | _ => simp [tiny] at h
/-- repr of a standing is some text -/
theorem repr_tiny {d : D} (h : tiny 8 d = true) : ∃ x : Str, reprD [d] = some (.str x) ∧ okStr x = true := by
  obtain ⟨p, h1, h2, h3, h4⟩ := tiny_shown (n := 7) h
  obtain ⟨p', e1, e2, e3, _⟩ := plain_py (tiny_plain h)
  rw [h1] at e1
  cases e1
  refine ⟨p.shown, ?_, ?_⟩
  · have sz : p.shown.length ≤ sizeLine := Nat.le_trans h4 (by decide +kernel)
    simp only [reprD, h1]
    exact if_pos (ck_of ⟨shaped_of e2 e3 (by decide), h2, sz⟩)
  · exact h3
end Kk03
set_option Elab.async false
set_option linter.all false
set_option maxRecDepth 100000
set_option maxHeartbeats 1000000
namespace Kk03
open PySem L2 FD
/-! # what raises an error that keeps nothing, without a draw -/
def XX {α : Type} (m : Gh → M α) (c : Str) : Prop := ∀ g, m g = some (.ex c [] [] g)
section
variable {ρ ρ1 : List En} {c : FT} {a b : FS} {x : Str}
theorem xs_raise : XX (sRaise0 x ρ) x := fun g => rfl
theorem xs_if1 (hc : EX (c ρ) true) (ha : XX (a ρ) x) : XX (sIf c a b ρ) x := fun g => by
  show (c ρ g).bd _ = _
  rw [hc g]
  exact ha g
theorem xs_if0 (hc : EX (c ρ) false) (hb : XX (b ρ) x) : XX (sIf c a b ρ) x := fun g => by
  show (c ρ g).bd _ = _
  rw [hc g]
  exact hb g
theorem xs_seq1 (ha : XX (a ρ) x) : XX (sSeq a b ρ) x := fun g => by
  unfold sSeq
  rw [ha g]
theorem xs_seq (ha : EX (a ρ) (.nx ρ1)) (hb : XX (b ρ1) x) : XX (sSeq a b ρ) x := fun g => by
  rw [sSeq_nx (ha g)]
  exact hb g
theorem xs_drop {e : FE} (ha : XX (e ρ) x) : XX (sDrop e ρ) x := fun g => by
  show (e ρ g).bd _ = _
  rw [ha g]; rfl
theorem x_fnX {n : Nat} {Fn : List D → Gh → M D} {l : FA} {xs : List D} (ha : EX (l ρ) xs) (h : XX (Fn xs) x) (hn : xs.length = n := by rfl) : XX (cFnX n Fn l ρ) x := fun g => by
  show (l ρ g).bd _ = _
  rw [ha g]
  show (if xs.length = n then Fn xs g else none) = _
  rw [if_pos hn]
  exact h g
theorem xf {N : Nat} {ds : List D} (h : XX (b (ds.map .dt ++ List.replicate (N - ds.length) .un)) x) : XX (fun g => fnOf N b ds g) x := fun g => by
  show fnOf N b ds g = _
  unfold fnOf
  rw [h g]
end
section
variable {P S d : D} {n : Nat} {cells states tolds : List D}
theorem is_hand_any (hn : EX (f_many_hands [P]) (.int (n : Nat))) (hd : fine d = true) : EX (f_is_hand [P, d]) (.bl (inR 0 ((n : Int) - 1) d)) :=
  exf (N := 2) (exs_ret (ex_fn (ex_c (ex_fn (ex_c (ex_v rfl) ex_n) hn) (ex_c (ex_v rfl) ex_n)) fun g => is_number_below_eq _ hd g))
theorem turn_nohand (hn : EX (f_many_hands [P]) (.int (n : Nat))) (hd : fine d = true) (hb : inR 0 ((n : Int) - 1) d = false) : XX (f_check_turn [P, S, d]) "NoHand" := by
  have e := is_hand_any hn hd
  rw [hb] at e
  exact xf (N := 3) (xs_seq1 (xs_if1 (ext_not (b := false) (ext (ex_fn (ex_c (ex_v rfl) (ex_c (ex_v rfl) ex_n)) e))) xs_raise))
theorem turn_over {i : Nat} (hn : EX (f_many_hands [P]) (.int (n : Nat))) (hi : i < n) (hs : states[i]? = some .non) {c t : D} : XX (f_check_turn [P, .tup [c, .tup states, t], .int (i : Nat)]) "NoStep" := by
  have e := is_hand_any (d := .int (i : Nat)) hn rfl
  have hb : inR 0 ((n : Int) - 1) (.int (i : Nat)) = true := by simp [inR]; omega
  rw [hb] at e
  exact xf (N := 3) (xs_seq (exs_if0 (ext_not (b := true) (ext (ex_fn (ex_c (ex_v rfl) (ex_c (ex_v rfl) ex_n)) e))) exs_nx) (xs_if1 (ext (ex_op (ex_op (ex_op (ex_v rfl) ex_d rfl) (ex_v rfl) (ix_nat hs)) ex_d rfl)) xs_raise))
theorem turn_ok {i : Nat} {s : D} (hn : EX (f_many_hands [P]) (.int (n : Nat))) (hi : i < n) (hs : states[i]? = some s) (hb : isNonB s = false) {c t : D} : EX (f_check_turn [P, .tup [c, .tup states, t], .int (i : Nat)]) .non := by
  have e := is_hand_any (d := .int (i : Nat)) hn rfl
  have h1 : inR 0 ((n : Int) - 1) (.int (i : Nat)) = true := by simp [inR]; omega
  rw [h1] at e
  refine exfX_nx (N := 3) (exs_seq (exs_if0 (ext_not (b := true) (ext (ex_fn (ex_c (ex_v rfl) (ex_c (ex_v rfl) ex_n)) e))) exs_nx) (exs_if0 (ext (ex_op (ex_op (ex_op (ex_v rfl) ex_d rfl) (ex_v rfl) (ix_nat hs)) ex_d ?_)) exs_nx))
  rw [isND_non, hb]
theorem try2_x {ρ : List En} {fb : FS} {x sx y sy : Str} (h : XX (fb ρ) x) : EX (sTry2 fb x sx y sy ρ) (.rt (.str sx)) := fun g => by
  simp only [sTry2]
  rw [h g]
  simp
theorem try2_y {ρ : List En} {fb : FS} {x sx y sy : Str} (h : XX (fb ρ) y) (ne : y ≠ x) : EX (sTry2 fb x sx y sy ρ) (.rt (.str sy)) := fun g => by
  simp only [sTry2]
  rw [h g]
  simp [ne]
theorem try2_ok {ρ : List En} {fb : FS} {x sx y sy : Str} {f : Fl} (h : EX (fb ρ) f) : EX (sTry2 fb x sx y sy ρ) f := fun g => by
  simp only [sTry2]
  rw [h g]
end
end Kk03
set_option Elab.async false
set_option linter.all false
set_option maxRecDepth 100000
set_option maxHeartbeats 1000000
namespace Kk03
open PySem L2 FD
abbrev stD3 (cells states tolds : List D) : D := .tup [.tup cells, .tup states, .tup tolds]
/-- a kind of play whose standings are told: G holds of all that come -/
structure Sys (k d : D) (n : Nat) (G : D → Prop) : Prop where
  n1 : 1 ≤ n
  n5 : n ≤ 5
  many : EX (f_many_hands [thePlay k d]) (.int (n : Nat))
  first : ∃ S, EX (f_first_standing [thePlay k d]) S ∧ G S
  form : ∀ S, G S → ∃ cells states tolds, S = stD3 cells states tolds ∧ states.length = n
  step : ∀ cells states tolds (i : Nat) (s : D), G (stD3 cells states tolds) → states[i]? = some s → isNonB s = false → ∃ S' w, EX (f_step [thePlay k d, stD3 cells states tolds, .int (i : Nat)]) S' ∧ EX (f_next_step [thePlay k d, stD3 cells states tolds, .int (i : Nat)]) w ∧ G S'
  shown : ∀ S, G S → ∃ x : Str, reprD [S] = some (.str x) ∧ okStr x = true
/-- what is due of a hand -/
def dueB (n : Nat) (states : List D) (d : D) : Str := if inR 0 ((n : Int) - 1) d = true then (match d with
  | .int i => if isNonB ((states[i.toNat]?).getD .non) = true then "NoStep" else "told"
  | _ => "NoHand") else "NoHand"
section
variable {k d one : D} {n : Nat} {G : D → Prop} {cells states tolds : List D}
end
end Kk03
set_option Elab.async false
set_option linter.all false
set_option maxRecDepth 100000
set_option maxHeartbeats 4000000
namespace Kk03
open PySem L2 FD
theorem ints_of : ∀ {xs : List D}, (∀ d ∈ xs, ∃ i : Int, d = .int i) → ∃ is : List Int, xs = is.map .int
  | [], _ => ⟨[], rfl⟩
  | d :: xs, h => by
    obtain ⟨i, rfl⟩ := h d (by simp)
    obtain ⟨is, rfl⟩ := ints_of (xs := xs) fun d hd => h d (by simp [hd])
    exact ⟨i :: is, rfl⟩
theorem inV_ints (z : Int) : ∀ ws : List Int, inV (.int z) (ws.map V.int) = ws.contains z
  | [] => rfl
  | w :: ws => by
    have ih := inV_ints z ws
    simp only [inV] at ih
    simp only [List.map_cons, inV, List.any_cons, ih, List.contains_cons, eqV]
    congr 1
    exact Bool.beq_comm
theorem flat_ints (ws : List Int) : (ws.map D.int).all flatD = true := by simp [flatD]
theorem inD_ints (z : Int) (ws : List Int) : inD (.int z) (.lst (ws.map .int)) = some (.bl (ws.contains z)) := by
  have h1 := flat_ints ws
  have h2 : (ws.map D.int).map toV = ws.map V.int := by simp [toV]
  simp [inD, inB, flatD, h1, h2, inV_ints, toV]
theorem ts_ex {ρ ρ1 : List En} {a b : FS} {Q : Fl → Prop} (ha : EX (a ρ) (.nx ρ1)) (hb : TM (b ρ1) Q) : TM (sSeq a b ρ) Q := fun g hg => by
  obtain ⟨f, g2, e, q⟩ := hb g hg
  exact ⟨f, g2, (sSeq_nx (ha g)).trans e, q⟩
theorem notInD_intsT (z : Int) (ws : List Int) : notInD (.int z) (.tup (ws.map .int)) = some (.bl (!ws.contains z)) := by
  have h1 := flat_ints ws
  have h2 : (ws.map D.int).map toV = ws.map V.int := by simp [toV]
  simp [notInD, inB, flatD, h1, h2, inV_ints, toV]
theorem t_loopBN {gs : FG} {fb : FS} {N : Nat} {I : Nat → List En → Prop} (hmono : ∀ n ρ, I n ρ → I (n + 1) ρ) (h : ∀ d n ρ, n < N → I n ρ → ∃ ρ1, gs d ρ = some ρ1 ∧ TM (fb ρ1) (fun f => ∃ ρ2, (f = .nx ρ2 ∨ f = .bk ρ2) ∧ I (n + 1) ρ2)) : ∀ (ds : List D) (n : Nat) (ρ : List En), n + ds.length ≤ N → I n ρ → TM (loopD gs fb ds ρ) (fun f => ∃ ρ2, f = .nx ρ2 ∧ I (n + ds.length) ρ2)
  | [], n, ρ, _, i => TM.pure ⟨ρ, rfl, i⟩
  | d :: ds, n, ρ, hN, i => fun g hg => by
    simp only [List.length_cons] at hN
    have mono : ∀ m n ρ, I n ρ → I (n + m) ρ := fun m => by
      induction m with
      | zero => exact fun n ρ h => h
      | succ m ih => exact fun n ρ h => hmono _ _ (ih n ρ h)
    obtain ⟨ρ1, h1, hb⟩ := h d n ρ (by omega) i
    obtain ⟨f, g2, e, ⟨ρ2, hf, i2⟩, hg2⟩ := hb g hg
    rw [List.length_cons, show n + (ds.length + 1) = n + 1 + ds.length by omega]
    rcases hf with rfl | rfl
    · obtain ⟨f3, g3, e3, q3, hg3⟩ := t_loopBN hmono h ds (n + 1) ρ2 (by omega) i2 g2 hg2
      refine ⟨f3, g3, ?_, q3, hg3⟩
      unfold loopD
      rw [h1]
      simp only [e]
      exact e3
    · refine ⟨.nx ρ2, g2, ?_, ⟨ρ2, rfl, mono _ _ _ i2⟩, hg2⟩
      unfold loopD
      rw [h1]
      simp only [e]
theorem ts_brk {ρ : List En} {c : FT} {b : FS} {k : Bool} {Q : Fl → Prop} (hc : EX (c ρ) k) (h1 : k = true → Q (.bk ρ)) (h2 : k = false → TM (b ρ) Q) : TM (sSeq (sIf c sBk sNx) b ρ) Q := by
  cases k with
  | true =>
    intro g hg
    refine ⟨.bk ρ, g, ?_, h1 rfl, hg⟩
    have e : sIf c sBk sNx ρ g = some (.ok (.bk ρ) g) := by
      show (c ρ g).bd _ = _
      rw [hc g]; rfl
    unfold sSeq
    rw [e]
  | false => exact ts_ex (exs_if0 hc exs_nx) (h2 rfl)
theorem ne_bl (b : Bool) : neD (.bl b) (.bl b) = some (.bl false) := by
  unfold neD
  rw [eqB_plain (n := 1) (m := 1) rfl rfl (by decide) (by decide), eqP_refl (n := 1) rfl]; rfl
theorem eq_bl (b : Bool) : eqD (.bl b) (.bl b) = some (.bl true) := by
  rw [eqD_plain (n := 1) (m := 1) rfl rfl (by decide) (by decide), eqP_refl (n := 1) rfl]
end Kk03
namespace Kk03
open PySem L2 FD
theorem tm_ex {α : Type} {m : Gh → M α} {a : α} {P : α → Prop} (h : P a) (e : EX m a) : TM m P := TM.of h e
theorem inD_able {states : List D} (i : Int) : inD (.int i) (.tup (ableL states)) = some (.bl (decide (0 ≤ i) && !isNonB ((states[i.toNat]?).getD .non))) := by
  obtain ⟨ws, hw⟩ := ints_of (xs := ableL states) fun d hd => by
    obtain ⟨m, rfl, _⟩ := able_ints hd
    exact ⟨_, rfl⟩
  have h := inD_ints i ws
  have e : inD (.int i) (.tup (ws.map .int)) = inD (.int i) (.lst (ws.map .int)) := rfl
  rw [hw, e, h]
  congr 2
  have mem : ws.contains i = true ↔ D.int i ∈ ableL states := by
    rw [hw]
    simp
  have key : D.int i ∈ ableL states ↔ (decide (0 ≤ i) && !isNonB ((states[i.toNat]?).getD .non)) = true := by
    constructor
    · intro h
      obtain ⟨m, s, e1, e2, e3⟩ := mem_able h
      have : i = ((m : Nat) : Int) := D.int.inj e1
      subst this
      simp [e2, e3]
    · intro h
      simp only [Bool.and_eq_true, decide_eq_true_eq, Bool.not_eq_true'] at h
      obtain ⟨h0, h1⟩ := h
      cases q : states[i.toNat]? with
      | none => rw [q] at h1; simp [isNonB] at h1
      | some s =>
        rw [q] at h1
        have hl := (List.getElem?_eq_some_iff.mp q).1
        refine List.mem_filter.mpr ⟨?_, ?_⟩
        · unfold rngD
          exact List.mem_map.mpr ⟨i.toNat, List.mem_range.mpr hl, by congr 1; omega⟩
        · have g := goes_at q
          have e0 : ((i.toNat : Nat) : Int) = i := by omega
          rw [e0] at g
          rw [g]
          simpa using h1
  cases hc : ws.contains i with
  | true => exact (key.mp (mem.mp hc)).symm
  | false =>
    cases hk : (decide (0 ≤ i) && !isNonB ((states[i.toNat]?).getD .non)) with
    | false => rfl
    | true => exact absurd (mem.mpr (key.mpr hk)) (by rw [hc]; simp)
/-- the word told says that the hand is one of those that can step -/
theorem told_iff {n : Nat} {states : List D} (hl : states.length = n) (i : Int) : (dueB n states (.int i) == ("told" : Str)) = (decide (0 ≤ i) && !isNonB ((states[i.toNat]?).getD .non)) := by
  unfold dueB
  by_cases h0 : 0 ≤ i
  · by_cases h1 : i ≤ (n : Int) - 1
    · have : inR 0 ((n : Int) - 1) (.int i) = true := by simp [inR, h0, h1]
      rw [if_pos this]
      show ((if isNonB ((states[i.toNat]?).getD .non) = true then (Str.ofString "NoStep") else Str.ofString "told") == ("told" : Str)) = _
      generalize isNonB ((states[i.toNat]?).getD .non) = z
      rw [decide_eq_true h0]
      cases z <;> decide +kernel
    · have : inR 0 ((n : Int) - 1) (.int i) = false := by simp [inR, h1]
      rw [this]
      have hq : states[i.toNat]? = none := List.getElem?_eq_none (by omega)
      rw [hq]
      simp [isNonB]
      decide +kernel
  · have : inR 0 ((n : Int) - 1) (.int i) = false := by simp [inR, h0]
    rw [this]
    simp [h0]
    decide +kernel
end Kk03
set_option Elab.async false
set_option linter.all false
set_option maxRecDepth 100000
set_option maxHeartbeats 1000000
namespace Kk03
open PySem L2 FD
theorem exl_inv {gs : FG} {fb : FS} {I : List En → Prop} : ∀ {es : List D}, (∀ d ∈ es, ∀ ρ, I ρ → ∃ ρ1 ρ2, gs d ρ = some ρ1 ∧ EX (fb ρ1) (.nx ρ2) ∧ I ρ2) → ∀ ρ, I ρ → ∃ ρ2, EX (loopD gs fb es ρ) (.nx ρ2) ∧ I ρ2
  | [], _, ρ, i => ⟨ρ, fun g => rfl, i⟩
  | d :: es, h, ρ, i => by
    obtain ⟨ρ1, ρ2, e1, e2, i2⟩ := h d (by simp) ρ i
    obtain ⟨ρ3, e3, i3⟩ := exl_inv (es := es) (fun d hd => h d (by simp [hd])) ρ2 i2
    refine ⟨ρ3, fun g => ?_, i3⟩
    unfold loopD
    rw [e1]
    simp only [e2 g]
    exact e3 g
noncomputable abbrev freeE : FE := cOrV (cOp notInD (cV 8) (cLst (cC (cD (.str "sweep")) (cC (cD (.str "twice")) (cC (cD (.str "borrow")) cN))))) (cOp gtD (cCall lenD (cC (cOp ixD (cV 9) (cV 5)) cN)) (cD (.int 0)))
/-- .. and how it begins -/
structure Sys2 (k d : D) (n : Nat) (G : D → Prop) : Prop where
  y : Sys k d n G
  lmany : EX (f_law_many [k, d]) (.int (n : Nat))
  begins : ∃ cells states tolds, EX (f_first_standing [thePlay k d]) (stD3 cells states tolds) ∧ G (stD3 cells states tolds) ∧
    ∀ i, i < n → ∃ (b : Bool) (s : D), (∀ ρ : List En, ρ[8]? = some (.dt k) → ρ[9]? = some (.dt d) → ρ[5]? = some (.dt (.int (i : Nat))) → EX (freeE ρ) (.bl b)) ∧ states[i]? = some s ∧ isNonB s = !b ∧ tolds[i]? = some (.tup [])
abbrev env4 (k d : D) (n : Nat) (S x5 x6 x7 x10 x11 x12 : En) : List En := [.un, .dt .hnd, .dt (thePlay k d), .dt (.int (n : Nat)), S, x5, x6, x7, .dt k, .dt d, x10, x11, x12]
noncomputable abbrev bodyF : FS := sSeq (sAsg freeE (gN 10)) (sIf (cOr (cT (cOp neD (cOp notND (cOp ixD (cOp ixD (cV 4) (cD (.int 1))) (cV 5)) (cD .non)) (cV 10))) (cT (cOp neD (cOp ixD (cOp ixD (cV 4) (cD (.int 2))) (cV 5)) (cTup cN)))) (sRet (cD (.bl false))) sNx)
section
variable {k d : D} {n : Nat} {G : D → Prop}
theorem ne_empty_tup : neD (.tup []) (.tup []) = some (.bl false) := by
  have h2 : plain 1 (.tup []) = true := by rw [plain_tup]; exact ⟨by simp, fun d hd => by simp at hd⟩
  unfold neD
  rw [eqB_plain h2 h2 (by decide) (by decide), eqP_refl h2]; rfl
theorem bodyF_ok {cells states tolds : List D} {i : Nat} {b : Bool} {s : D} {x5 x6 x7 x10 x11 x12 : En} (hf : ∀ ρ : List En, ρ[8]? = some (.dt k) → ρ[9]? = some (.dt d) → ρ[5]? = some (.dt (.int (i : Nat))) → EX (freeE ρ) (.bl b)) (h1 : states[i]? = some s) (h2 : isNonB s = !b) (h3 : tolds[i]? = some (.tup [])) :
    EX (bodyF (env4 k d n (.dt (stD3 cells states tolds)) (.dt (.int (i : Nat))) x6 x7 x10 x11 x12)) (.nx (env4 k d n (.dt (stD3 cells states tolds)) (.dt (.int (i : Nat))) x6 x7 (.dt (.bl b)) x11 x12)) := by
  refine exs_seq (exs_asg (hf _ rfl rfl rfl) rfl) (exs_if0 (ext_or0 (ext (ex_op (ex_op (ex_op (ex_op (ex_v rfl) ex_d rfl) (ex_v rfl) (ix_nat h1)) ex_d (notND_non _)) (ex_v rfl) ?_)) (ext (ex_op (ex_op (ex_op (ex_v rfl) ex_d rfl) (ex_v rfl) (ix_nat h3)) (ex_tup ex_n) ne_empty_tup))) exs_nx)
  rw [h2, Bool.not_not]
  exact ne_bl b
theorem dueB_ok (n : Nat) (states : List D) (x : D) : okStr (dueB n states x) = true := by
  unfold dueB
  split
  · split
    · split <;> exact okS (by decide +kernel)
    · exact okS (by decide +kernel)
  · exact okS (by decide +kernel)
theorem dueB_non {n : Nat} {states : List D} {x : D} (h : isInt x = false) : (dueB n states x == ("told" : Str)) = false := by
  have : dueB n states x = "NoHand" := by cases x <;> simp_all [dueB, inR, isInt]
  rw [this]
  decide +kernel
end
end Kk03
set_option Elab.async false
set_option linter.all false
set_option maxRecDepth 100000
set_option maxHeartbeats 400000
namespace Kk03
open PySem L2 FD
/-- all that is to be known of one step -/
structure Stp (k : Str) (ds : List D) (i : Nat) (ss : List D) (done : Nat) (o : Option Int) (cells states tolds : List D) (first last : D) (now : List D) (ready x cell : D) (ts : List D) : Prop where
  S : Sta k ds i ss done o cells states tolds first last now ready x cell ts
  I : Inv k ds cells states tolds
  G : Going k ds.length ss done first last now ready
  xo : CellOk x
  I' : Inv k ds (cells.set i (nextD k ss done o first last now ready cell x cells.length).1) (states.set i (nextD k ss done o first last now ready cell x cells.length).2.1) (tolds.set i (.tup (ts ++ (nextD k ss done o first last now ready cell x cells.length).2.2)))
section
variable {k : Str} {ds cells states tolds : List D}
theorem stp_of (I : Inv k ds cells states tolds) {i : Nat} {s0 : D} (hs0 : states[i]? = some s0) (hn : isNonB s0 = false) :
    ∃ ss done o first last now ready x cell ts, Stp k ds i ss done o cells states tolds first last now ready x cell ts := by
  have hi : i < ds.length := by rw [← I.s]; exact (List.getElem?_eq_some_iff.mp hs0).1
  obtain ⟨ss, c, s, t, d1, c1, s1, t1, h6, hds, H⟩ := I.at hi
  rw [hs0] at s1
  cases s1
  obtain ⟨done, a, v, r, ts, rfl, a0, a1, v0, v1, hr, rfl, ht, htt, hd, hS⟩ := H.e
  rcases hS with z | ⟨first, last, now, ready, rfl, G⟩
  · rw [z] at hn; simp [isNonB] at hn
  have hdd : ss[done]? = some (ss[done]'G.d) := List.getElem?_eq_getElem _
  obtain ⟨o, ho, hob⟩ := hds _ (List.mem_of_getElem? hdd)
  rw [ho] at hdd
  have hx : cells[now.length]? = some (cells[now.length]'(by rw [I.c]; exact G.n1)) := List.getElem?_eq_getElem _
  have hxo := I.cell hx
  generalize cells[now.length]'(by rw [I.c]; exact G.n1) = x at hx hxo
  have n5 := I.n5
  have hc : ∀ c ∈ now ++ [x], CellS c := fun c hc => by
    rcases List.mem_append.mp hc with h | h
    · exact (G.nc c h).s
    · have : c = x := by simpa using h
      exact this ▸ hxo.s
  have Sx : Sta k ds i ss done o cells states tolds first last now ready x (.tup [.int a, .int v, r]) ts := {
      A := ⟨I.hk, d1, hdd⟩
      cell_ := c1
      cs := ⟨a, v, r, rfl⟩
      st := hs0
      td := t1
      hx := hx
      hc := hc
      n1 := by rw [I.c]; omega
      n2 := by rw [I.s, I.c]
      n3 := by rw [I.t, I.c]
      n4 := by rw [I.c]
      n5 := by omega
      f := by rw [I.c]; exact G.f.nums
      l := by rw [I.c]; exact G.l.nums
      r := fun hp => by
        rcases G.r with z | ⟨_, z⟩
        · exact z
        · have ne : ready ≠ .non := fun e => by rw [e] at z; simp [isNonB] at z
          obtain ⟨hb, w, hw⟩ := G.rb ne
          rw [hdd] at hw
          have eo : o = some w := by
            have := Option.some.inj hw
            cases o with
            | none => simp [deedD] at this
            | some w' => simp [deedD] at this; rw [this]
          rw [eo, hb] at hp
          simp [putsB, z] at hp }
  have hnx := next_inv (o := o) G hdd hob h6 I.n1 I.n5 hxo a0 a1 v0 v1 hr ht htt
  rw [← I.c] at hnx
  refine ⟨ss, done, o, first, last, now, ready, x, _, ts, Sx, I, G, hxo, ?_⟩
  refine ⟨I.hk, I.n1, I.n5, by rw [List.length_set, I.c], by rw [List.length_set, I.s], by rw [List.length_set, I.t], I.all, fun j ss' c' s' t' k1 k2 k3 k4 => ?_⟩
  by_cases hj : i = j
  · subst hj
    rw [List.getElem?_set_self (by rw [I.c]; exact hi)] at k2
    rw [List.getElem?_set_self (by rw [I.s]; exact hi)] at k3
    rw [List.getElem?_set_self (by rw [I.t]; exact hi)] at k4
    rw [d1] at k1
    cases k1
    cases k2
    cases k3
    cases k4
    rw [I.c] at hnx ⊢
    exact hnx
  · rw [List.getElem?_set_ne hj] at k2 k3 k4
    exact I.h j ss' c' s' t' k1 k2 k3 k4
end
/-- one step more -/
inductive StepR (k : Str) (ds : List D) : D → Nat → D → Prop
  | mk {i ss done o cells states tolds first last now ready x cell ts} : Stp k ds i ss done o cells states tolds first last now ready x cell ts →
      StepR k ds (stD3 cells states tolds) i (newS k ss i done o cells states tolds first last now ready x cell ts)
/-- a weaving, and what stands along it -/
inductive Pth (k : Str) (ds : List D) : D → List Nat → List D → D → Prop
  | nil {S} : Pth k ds S [] [S] S
  | cons {S S' T i w Ss} : StepR k ds S i S' → Pth k ds S' w Ss T → Pth k ds S (i :: w) (S :: Ss) T
section
variable {k : Str} {ds : List D}
theorem Pth.snoc {S T U : D} {w : List Nat} {Ss : List D} {i : Nat} (h : Pth k ds S w Ss T) (s : StepR k ds T i U) : Pth k ds S (w ++ [i]) (Ss ++ [U]) U := by
  induction h with
  | nil => exact .cons s .nil
  | cons s' _ ih => exact .cons s' (ih s)
theorem Pth.len {S T : D} {w : List Nat} {Ss : List D} (h : Pth k ds S w Ss T) : Ss.length = w.length + 1 := by
  induction h with
  | nil => rfl
  | cons _ _ ih => simp [ih]
theorem Pth.head {S T : D} {w : List Nat} {Ss : List D} (h : Pth k ds S w Ss T) : Ss[0]? = some S := by
  cases h <;> rfl
theorem Pth.take {S T : D} {w : List Nat} {Ss : List D} (h : Pth k ds S w Ss T) : ∀ j : Nat, ∃ T', Pth k ds S (w.take j) (Ss.take (j + 1)) T' := by
  induction h with
  | nil => exact fun j => ⟨_, by simpa using Pth.nil⟩
  | cons s h ih =>
    intro j
    cases j with
    | zero => exact ⟨_, by simpa using Pth.nil⟩
    | succ j =>
      obtain ⟨T', h'⟩ := ih j
      exact ⟨T', by simpa using Pth.cons s h'⟩
end
/-- the steps of the program -/
theorem StepR.ex {k : Str} {ds : List D} {S S' : D} {i : Nat} (h : StepR k ds S i S') :
    ∃ cells states tolds s0, S = stD3 cells states tolds ∧ Inv k ds cells states tolds ∧ i < ds.length ∧ states[i]? = some s0 ∧ isNonB s0 = false ∧
      EX (f_step [thePlay (.str k) (.tup ds), S, .int ((i : Nat) : Int)]) S' ∧ EX (f_standing_behind [thePlay (.str k) (.tup ds), S, .int ((i : Nat) : Int)]) S' := by
  cases h with
  | @mk i ss done o cells states tolds first last now ready x cell ts P =>
    have hi : i < ds.length := by rw [P.S.n4]; exact (List.getElem?_eq_some_iff.mp P.S.cell_).1
    exact ⟨cells, states, tolds, _, rfl, P.I, hi, P.S.st, rfl, step_eq P.S, standing_behind_eq P.S⟩
theorem StepR.inv {k : Str} {ds : List D} {S S' : D} {i : Nat} (h : StepR k ds S i S') : ∃ cells states tolds, S' = stD3 cells states tolds ∧ Inv k ds cells states tolds := by
  cases h with
  | mk P => exact ⟨_, _, _, rfl, P.I'⟩
theorem step_to {k : Str} {ds cells states tolds : List D} (I : Inv k ds cells states tolds) {i : Nat} {s0 : D} (hs0 : states[i]? = some s0) (hn : isNonB s0 = false) : ∃ S', StepR k ds (stD3 cells states tolds) i S' := by
  obtain ⟨ss, done, o, first, last, now, ready, x, cell, ts, P⟩ := stp_of I hs0 hn
  exact ⟨_, .mk P⟩
end Kk03
set_option Elab.async false
set_option linter.all false
set_option maxRecDepth 100000
set_option maxHeartbeats 1000000
namespace Kk03
open PySem L2 FD
/-! # the three manners -/
abbrev GMan (k : Str) (ds : List D) (S : D) : Prop := ∃ cells states tolds, S = stD3 cells states tolds ∧ Inv k ds cells states tolds
theorem stD3_inj {a b c a' b' c' : List D} (h : stD3 a b c = stD3 a' b' c') : a = a' ∧ b = b' ∧ c = c' := by
  have h := D.tup.inj h
  simp only [List.cons.injEq, D.tup.injEq, and_true] at h
  exact h
theorem man_near {k : Str} (hk : k ∈ MAN) : (k == ("near" : Str)) = false := by
  simp only [List.mem_cons, List.not_mem_nil, or_false] at hk
  rcases hk with rfl | rfl | rfl <;> decide +kernel
theorem sys_man {k : Str} {ds : List D} (hk : k ∈ MAN) (hm : Menu ds.length Script ds) (n1 : 1 ≤ ds.length) (n5 : ds.length ≤ 5) : Sys2 (.str k) (.tup ds) ds.length (GMan k ds) := by
  have tups : ∀ d ∈ ds, ∃ ss, d = .tup ss := fun d hd => by
    obtain ⟨ss, e, _⟩ := script_form (hm.2 d hd)
    exact ⟨ss, e⟩
  have ef := first_standing_eq hk tups (by omega)
  have I0 := first_inv hk hm n1 n5
  have q := okMW hk "near" (okS (by decide +kernel))
  rw [man_near hk] at q
  refine ⟨⟨n1, n5, many_manEq k hk ds, ⟨_, ef, _, _, _, rfl, I0⟩, ?_, ?_, ?_⟩, ?_, _, _, _, ef, ⟨_, _, _, rfl, I0⟩, fun i hi => ?_⟩
  · rintro _ ⟨c, s, t, rfl, I⟩
    exact ⟨c, s, t, rfl, I.s⟩
  · rintro cells states tolds i s ⟨c', s', t', e, I⟩ hs hn
    obtain ⟨rfl, rfl, rfl⟩ := stD3_inj e
    obtain ⟨ss, done, o, first, last, now, ready, x, cell, ts, P⟩ := stp_of I hs hn
    exact ⟨_, _, step_eq P.S, next_step_eq P.S, _, _, _, rfl, P.I'⟩
  · rintro _ ⟨c, s, t, rfl, I⟩
    exact repr_tiny I.tiny
  · exact exf (N := 2) (exs_seq (exs_if0 (ext (ex_op (ex_v rfl) ex_d q)) exs_nx) (exs_ret (ex_call (ex_c (ex_v rfl) ex_n) rfl)))
  · obtain ⟨ss, es⟩ := tups _ (List.getElem_mem hi)
    have hd : ds[i]? = some (.tup ss) := by rw [List.getElem?_eq_getElem hi, es]
    refine ⟨decide (0 < (ss.length : Int)), startD (.tup ss), fun ρ r8 r9 r5 => ?_, by rw [List.getElem?_map, hd]; rfl, ?_, by rw [List.getElem?_map, hd]; rfl⟩
    · refine ex_or0 (ex_op (ex_v r8) (ex_lst (ex_c ex_d (ex_c ex_d (ex_c ex_d ex_n)))) ?_) (ex_op (ex_call (ex_c (ex_op (ex_v r9) (ex_v r5) (ix_nat hd)) ex_n) rfl) ex_d ?_)
      · have := notInD_strsL k MAN
        rw [List.contains_iff_mem.mpr hk] at this
        exact this
      · show gtD (.int ((ss.length : Nat) : Int)) (.int 0) = _
        simp [gtD, intD]
    · show isNonB (aheadD ss 0) = _
      unfold aheadD
      by_cases z : (0 : Int) = (ss.length : Int)
      · rw [if_pos z, ← z]; rfl
      · rw [if_neg z]
        have : (0 : Int) < (ss.length : Int) := by omega
        rw [decide_eq_true this]; rfl
theorem gp_man {k d : D} (h : GP k d) : (∃ z ds, k = .str z ∧ d = .tup ds ∧ z ∈ MAN ∧ Menu ds.length Script ds ∧ 1 ≤ ds.length ∧ ds.length ≤ 5) ∨ ∃ z, k = .str z ∧ z ∈ KIN ∧ z ∉ MAN ∧ inputsB z d = true ∧ fine d = true := by
  obtain ⟨z, rfl, hz, hi⟩ := h.kin
  by_cases hm : z ∈ MAN
  · refine .inl ?_
    cases d with
    | tup ds =>
      have nn : ¬ z = ("near" : Str) := fun e => by
        have := man_near hm
        rw [e] at this
        simp at this
      rw [inputsB_tup, if_neg nn, if_pos (List.contains_iff_mem.mpr hm), Bool.and_eq_true] at hi
      obtain ⟨h1, h2⟩ := hi
      simp only [rowB, Bool.and_eq_true, decide_eq_true_eq] at h1
      have hf := fine_tup.mp h.fd
      exact ⟨z, ds, rfl, rfl, hm, ⟨rfl, fun x hx => ⟨List.all_eq_true.mp h2 x hx, hf.2 x hx⟩⟩, by omega, by omega⟩
    | _ => simp [inputsB] at hi
  · exact .inr ⟨z, rfl, hz, hm, hi, h.fd⟩
end Kk03
set_option Elab.async false
set_option linter.all false
set_option maxRecDepth 100000
set_option maxHeartbeats 1000000
namespace Kk03
open PySem L2 FD
/-! # small things by the lengths at each depth, and their text -/
def smA : D → Bool
  | .non => true
  | .bl _ => true
  | .int i => decide (i.natAbs ≤ 200000)
  | _ => false
def sm : List Nat → D → Bool
  | [], d => smA d
  | L :: Ls, .tup xs => decide (xs.length ≤ L) && xs.all (sm Ls)
  | _ :: _, d => smA d
theorem sm_tup {L : Nat} {Ls : List Nat} {xs : List D} : sm (L :: Ls) (.tup xs) = true ↔ xs.length ≤ L ∧ ∀ d ∈ xs, sm Ls d = true := by simp [sm]
theorem sm_atom {Ls : List Nat} {d : D} (h : smA d = true) : sm Ls d = true := by
  cases Ls with
  | nil => exact h
  | cons L Ls => cases d <;> first | exact h | simp [smA] at h
theorem sm_int {Ls : List Nat} {i : Int} (h : i.natAbs ≤ 200000) : sm Ls (.int i) = true := sm_atom (by simp [smA, h])
theorem sm_bl {Ls : List Nat} {b : Bool} : sm Ls (.bl b) = true := sm_atom rfl
theorem sm_non {Ls : List Nat} : sm Ls .non = true := sm_atom rfl
def gB : List Nat → Nat
  | [] => 8
  | L :: Ls => L * (gB Ls + 2) + 12
theorem gB8 (Ls : List Nat) : 8 ≤ gB Ls := by
  cases Ls with
  | nil => decide
  | cons L Ls => unfold gB; omega
theorem atom_shown {d : D} {m : Nat} (h : smA d = true) (hm : 8 ≤ m) : shOk m d := by
  cases d with
  | non => exact ⟨_, rfl, rfl, ok_ofString _, by show (Str.ofString "None").length ≤ m; rw [ofString_length]; exact Nat.le_trans (by decide) hm⟩
  | bl b => cases b with
    | true => exact ⟨_, rfl, rfl, ok_ofString "True", by show (Str.ofString "True").length ≤ m; rw [ofString_length]; exact Nat.le_trans (by decide) hm⟩
    | false => exact ⟨_, rfl, rfl, ok_ofString "False", by show (Str.ofString "False").length ≤ m; rw [ofString_length]; exact Nat.le_trans (by decide) hm⟩
  | int i =>
    have hi : i.natAbs ≤ 200000 := by simpa [smA] using h
    refine ⟨_, rfl, ?_, ok_ofString _, ?_⟩
    · show decide (i.natAbs.log2 < 1920) = true
      have h1 : i.natAbs.log2 < 18 := by
        by_cases z : i.natAbs = 0
        · rw [z]; decide
        · rw [Nat.log2_lt z]; omega
      exact decide_eq_true (by omega)
    · show (Str.ofString (toString i)).length ≤ m
      rw [ofString_length]
      exact Nat.le_trans (int_text_length_le10 (k := 6) (by decide) (by omega)) (by omega)
  | _ => simp [smA] at h
theorem sm_shown : ∀ {Ls : List Nat} {d : D}, sm Ls d = true → shOk (gB Ls) d
  | [], d, h => atom_shown h (gB8 _)
  | L :: Ls, d, h => by
    cases d with
    | tup xs =>
      obtain ⟨hl, hm⟩ := sm_tup.mp h
      obtain ⟨ps, e1, e2, e3, e4⟩ := shs_ok (ds := xs) fun d hd => sm_shown (hm d hd)
      refine ⟨.tuple ps, by simp [D.py, e1], e2, ok_tupleText fun t ht => (e3 t ht).1, ?_⟩
      have := len_tupleText (ts := PyData.shownAll ps) (m := gB Ls) fun t ht => (e3 t ht).2
      rw [e4] at this
      show (tupleText (PyData.shownAll ps)).length ≤ L * (gB Ls + 2) + 12
      have z : xs.length * (gB Ls + 2) ≤ L * (gB Ls + 2) := Nat.mul_le_mul_right _ hl
      omega
    | non => exact atom_shown rfl (gB8 _)
    | bl b => exact atom_shown rfl (gB8 _)
    | int i => exact atom_shown (by simpa [sm] using h) (gB8 _)
    | _ => simp [sm, smA] at h
theorem sm_plain : ∀ {Ls : List Nat} {d : D}, (∀ L ∈ Ls, L ≤ 500) → sm Ls d = true → plain (Ls.length + 1) d = true
  | [], d, _, h => by cases d <;> first | rfl | simp [sm, smA] at h
  | L :: Ls, d, hL, h => by
    cases d with
    | tup xs =>
      obtain ⟨hl, hm⟩ := sm_tup.mp h
      rw [List.length_cons, plain_tup]
      have := hL L (by simp)
      exact ⟨by omega, fun d hd => sm_plain (fun L hl => hL L (by simp [hl])) (hm d hd)⟩
    | non => rfl
    | bl b => rfl
    | int i => rfl
    | _ => simp [sm, smA] at h
/-- repr of a standing of any kind is some text -/
theorem repr_sm {d : D} (h : sm [3, 5, 20, 20, 6, 6] d = true) : ∃ x : Str, reprD [d] = some (.str x) ∧ okStr x = true := by
  obtain ⟨p, h1, h2, h3, h4⟩ := sm_shown h
  obtain ⟨p', e1, e2, e3, _⟩ := plain_py (sm_plain (by decide) h)
  rw [h1] at e1
  cases e1
  refine ⟨p.shown, ?_, ?_⟩
  · have sz : p.shown.length ≤ sizeLine := Nat.le_trans h4 (by decide +kernel)
    simp only [reprD, h1]
    exact if_pos (ck_of ⟨shaped_of e2 e3 (by decide), h2, sz⟩)
  · exact h3
end Kk03
set_option Elab.async false
set_option linter.all false
set_option maxRecDepth 100000
set_option maxHeartbeats 1000000
namespace Kk03
open PySem L2 FD
/-! # a play of any kind, out of what its hands do -/
section
variable {P : D} {n : Nat}
theorem mem_rngI {d : D} {n : Nat} (h : d ∈ rngD 0 n) : ∃ i : Nat, d = .int (i : Nat) ∧ i < n := by
  unfold rngD at h
  obtain ⟨j, hj, rfl⟩ := List.mem_map.mp h
  exact ⟨j, by congr 1; omega, List.mem_range.mp hj⟩
theorem rng_mapN (F : D → D) (G : Nat → D) (n : Nat) (h : ∀ j, j < n → F (.int ((j : Nat) : Int)) = G j) : (rngD 0 n).map F = (List.range n).map G := by
  unfold rngD
  rw [List.map_map]
  apply List.map_congr_left
  intro j hj
  show F (.int (0 + (j : Int))) = _
  rw [show (0 : Int) + (j : Int) = ((j : Nat) : Int) by omega]
  exact h j (List.mem_range.mp hj)
theorem first_gen (hn : EX (f_many_hands [P]) (.int (n : Nat))) (n5 : n ≤ 500) (C S : Nat → D) (h : ∀ i, i < n → EX (f_first_of_hand [P, .int (i : Nat)]) (.tup [C i, S i])) :
    EX (f_first_standing [P]) (stD3 ((List.range n).map C) ((List.range n).map S) ((List.range n).map fun _ => .tup [])) := by
  let F : D → D := fun d => match d with
    | .int j => .tup [C j.toNat, S j.toNat]
    | _ => .non
  have fm : (rngD 0 n).map F = (List.range n).map fun i => D.tup [C i, S i] := rng_mapN F _ n fun j _ => rfl
  refine exf (N := 9) ?_
  refine exs_seq (ρ1 := [.dt P, .dt (.rng 0 (n : Nat)), .un, .un, .un, .un, .un, .un, .un]) (exs_asg (ex_call (ex_c (ex_fn (ex_c (ex_v rfl) ex_n) hn) ex_n) rfl) rfl) ?_
  refine exs_seq (ρ1 := [.dt P, .dt (.rng 0 (n : Nat)), .dt (.lst ((rngD 0 n).map F)), .un, .un, .un, .un, .un, .un]) (exs_asg (ex_lc (exi_v (ex_v rfl) (by omega)) (exc_map (F := F) fun d hd => ⟨_, rfl, ?_⟩) (by simp [rngD]; omega)) rfl) ?_
  · obtain ⟨i, rfl, hi⟩ := mem_rngI hd
    exact ex_fn (ex_c (ex_v rfl) (ex_c (ex_v rfl) ex_n)) (h i hi)
  rw [fm]
  refine exs_seq (ρ1 := [.dt P, .dt (.rng 0 (n : Nat)), .dt (.lst ((List.range n).map fun i => D.tup [C i, S i])), .dt (.tup (((List.range n).map fun i => D.tup [C i, S i]).map fstD)), .un, .un, .un, .un, .un]) (exs_asg (ex_call (ex_c (ex_lc (exi_s (ex_v rfl) rfl) (exc_map (F := fstD) fun d hd => ?_) (by simp; omega)) ex_n) rfl) rfl) ?_
  · obtain ⟨e, _, rfl⟩ := List.mem_map.mp hd
    exact ⟨_, rfl, ex_v rfl⟩
  refine exs_seq (ρ1 := [.dt P, .dt (.rng 0 (n : Nat)), .dt (.lst ((List.range n).map fun i => D.tup [C i, S i])), .dt (.tup (((List.range n).map fun i => D.tup [C i, S i]).map fstD)), .dt (.tup (((List.range n).map fun i => D.tup [C i, S i]).map sndD)), .un, .un, .un, .un]) (exs_asg (ex_call (ex_c (ex_lc (exi_s (ex_v rfl) rfl) (exc_map (F := sndD) fun d hd => ?_) (by simp; omega)) ex_n) rfl) rfl) ?_
  · obtain ⟨e, _, rfl⟩ := List.mem_map.mp hd
    exact ⟨_, rfl, ex_v rfl⟩
  have e1 : ((List.range n).map fun i => D.tup [C i, S i]).map fstD = (List.range n).map C := by
    rw [List.map_map]; rfl
  have e2 : ((List.range n).map fun i => D.tup [C i, S i]).map sndD = (List.range n).map S := by
    rw [List.map_map]; rfl
  have e3 := rng_mapN (fun _ => D.tup []) (fun _ => D.tup []) n (fun _ _ => rfl)
  rw [e1, e2]
  rw [← e3]
  exact exs_ret (ex_tup (ex_c (ex_v rfl) (ex_c (ex_v rfl) (ex_c (ex_call (ex_c (ex_lc (exi_v (ex_v rfl) (by omega)) (exc_map (F := fun _ => .tup []) fun d hd => ⟨_, rfl, ex_tup ex_n⟩) (by simp [rngD]; omega)) ex_n) rfl) ex_n))))
theorem behind_gen {cells states tolds ts news : List D} {i : Nat} {s c' s' : D} (hs : states[i]? = some s) (l1 : cells.length ≤ 100) (l2 : states.length = cells.length) (l3 : tolds.length = cells.length) (ht : tolds[i]? = some (.tup ts)) (l4 : ts.length + news.length ≤ 1000)
    (h : EX (f_step_of_hand [P, .tup cells, s, .int (i : Nat)]) (.tup [c', s', .tup news])) : EX (f_standing_behind [P, stD3 cells states tolds, .int (i : Nat)]) (stD3 (cells.set i c') (states.set i s') (tolds.set i (.tup (ts ++ news)))) := by
  have hi : i < states.length := (List.getElem?_eq_some_iff.mp hs).1
  refine exf (N := 9) ?_
  refine exs_seq (exs_asg (ex_v rfl) rfl) ?_
  refine exs_seq (exs_asg (ex_fn (ex_c (ex_v rfl) (ex_c (ex_v rfl) (ex_c (ex_op (ex_v rfl) (ex_v rfl) (ix_nat hs)) (ex_c (ex_v rfl) ex_n)))) h) rfl) ?_
  exact exs_ret (ex_tup (ex_c (ex_fn (ex_c (ex_v rfl) (ex_c (ex_v rfl) (ex_c (ex_v rfl) ex_n))) (put_at_eq (by omega) (by omega))) (ex_c (ex_fn (ex_c (ex_v rfl) (ex_c (ex_v rfl) (ex_c (ex_v rfl) ex_n))) (put_at_eq hi (by omega))) (ex_c (ex_fn (ex_c (ex_v rfl) (ex_c (ex_v rfl) (ex_c (ex_op (ex_op (ex_v rfl) (ex_v rfl) (ix_nat ht)) (ex_v rfl) (add_tt l4)) ex_n))) (put_at_eq (by omega) (by omega))) ex_n))))
theorem step_gen {cells states tolds : List D} {i : Nat} {s S' : D} (hn : EX (f_many_hands [P]) (.int (n : Nat))) (hi : i < n) (hs : states[i]? = some s) (hb : isNonB s = false) (h : EX (f_standing_behind [P, stD3 cells states tolds, .int (i : Nat)]) S') : EX (f_step [P, stD3 cells states tolds, .int (i : Nat)]) S' :=
  exf (N := 3) (exs_seq (exs_drop (ex_fn (ex_c (ex_v rfl) (ex_c (ex_v rfl) (ex_c (ex_v rfl) ex_n))) (turn_ok hn hi hs hb))) (exs_ret (ex_fn (ex_c (ex_v rfl) (ex_c (ex_v rfl) (ex_c (ex_v rfl) ex_n))) h)))
theorem next_gen {cells states tolds : List D} {i : Nat} {s w : D} (hn : EX (f_many_hands [P]) (.int (n : Nat))) (hi : i < n) (hs : states[i]? = some s) (hb : isNonB s = false) (h : EX (f_word_of_step [P, s, .int (i : Nat)]) w) : EX (f_next_step [P, stD3 cells states tolds, .int (i : Nat)]) w :=
  exf (N := 3) (exs_seq (exs_drop (ex_fn (ex_c (ex_v rfl) (ex_c (ex_v rfl) (ex_c (ex_v rfl) ex_n))) (turn_ok hn hi hs hb))) (exs_ret (ex_fn (ex_c (ex_v rfl) (ex_c (ex_op (ex_op (ex_v rfl) ex_d rfl) (ex_v rfl) (ix_nat hs)) (ex_c (ex_v rfl) ex_n))) h)))
end
/-- what stands, hand by hand -/
structure GG (n : Nat) (Hv : Nat → D → D → D → Prop) (cells states tolds : List D) : Prop where
  c : cells.length = n
  s : states.length = n
  t : tolds.length = n
  h : ∀ i c s t, cells[i]? = some c → states[i]? = some s → tolds[i]? = some t → Hv i c s t
theorem GG.set {n : Nat} {Hv : Nat → D → D → D → Prop} {cells states tolds : List D} (G : GG n Hv cells states tolds) {i : Nat} {c s t : D} (h : Hv i c s t) : GG n Hv (cells.set i c) (states.set i s) (tolds.set i t) := by
  refine ⟨by rw [List.length_set, G.c], by rw [List.length_set, G.s], by rw [List.length_set, G.t], fun j c' s' t' e1 e2 e3 => ?_⟩
  by_cases hj : i = j
  · subst hj
    have hi : i < cells.length := by
      have := (List.getElem?_eq_some_iff.mp e1).1
      simpa using this
    have e : cells.length = states.length ∧ cells.length = tolds.length := ⟨by rw [G.c, G.s], by rw [G.c, G.t]⟩
    rw [List.getElem?_set_self hi] at e1
    rw [List.getElem?_set_self (by omega)] at e2 e3
    cases e1; cases e2; cases e3
    exact h
  · rw [List.getElem?_set_ne hj] at e1 e2 e3
    exact G.h j c' s' t' e1 e2 e3
theorem GG.at {n : Nat} {Hv : Nat → D → D → D → Prop} {cells states tolds : List D} (G : GG n Hv cells states tolds) {i : Nat} (hi : i < n) : ∃ c s t, cells[i]? = some c ∧ states[i]? = some s ∧ tolds[i]? = some t ∧ Hv i c s t := by
  have e1 := List.getElem?_eq_getElem (l := cells) (i := i) (by rw [G.c]; exact hi)
  have e2 := List.getElem?_eq_getElem (l := states) (i := i) (by rw [G.s]; exact hi)
  have e3 := List.getElem?_eq_getElem (l := tolds) (i := i) (by rw [G.t]; exact hi)
  exact ⟨_, _, _, e1, e2, e3, G.h i _ _ _ e1 e2 e3⟩
abbrev GP3 (n : Nat) (Hv : Nat → D → D → D → Prop) (S : D) : Prop := ∃ cells states tolds, S = stD3 cells states tolds ∧ GG n Hv cells states tolds
/-- what a hand does -/
structure Does (P : D) (n : Nat) (Hv : Nat → D → D → D → Prop) : Prop where
  first : ∀ i, i < n → ∃ c s, EX (f_first_of_hand [P, .int (i : Nat)]) (.tup [c, s]) ∧ isNonB s = false ∧ Hv i c s (.tup [])
  step : ∀ cells states tolds (i : Nat) (c s t : D), GG n Hv cells states tolds → cells[i]? = some c → states[i]? = some s → tolds[i]? = some t → Hv i c s t → isNonB s = false →
    ∃ c' s' ts news w, t = .tup ts ∧ EX (f_step_of_hand [P, .tup cells, s, .int (i : Nat)]) (.tup [c', s', .tup news]) ∧ EX (f_word_of_step [P, s, .int (i : Nat)]) w ∧ ts.length + news.length ≤ 1000 ∧ Hv i c' s' (.tup (ts ++ news))
  small : ∀ i c s t, Hv i c s t → sm [20, 20, 6, 6] c = true ∧ sm [20, 20, 6, 6] s = true ∧ sm [20, 20, 6, 6] t = true
theorem sys_gen {k : Str} {d : D} {n : Nat} {Hv : Nat → D → D → D → Prop} (hm : MAN.contains k = false) (n1 : 1 ≤ n) (n5 : n ≤ 5) (many : EX (f_many_hands [thePlay (.str k) d]) (.int (n : Nat))) (lmany : EX (f_law_many [.str k, d]) (.int (n : Nat)))
    (H : Does (thePlay (.str k) d) n Hv) : Sys2 (.str k) d n (GP3 n Hv) := by
  have ff : ∃ C S : Nat → D, ∀ i, i < n → EX (f_first_of_hand [thePlay (.str k) d, .int (i : Nat)]) (.tup [C i, S i]) ∧ isNonB (S i) = false ∧ Hv i (C i) (S i) (.tup []) := by
    refine ⟨fun i => if h : i < n then Classical.choose (H.first i h) else .non, fun i => if h : i < n then Classical.choose (Classical.choose_spec (H.first i h)) else .non, fun i hi => ?_⟩
    simp only [dif_pos hi]
    exact Classical.choose_spec (Classical.choose_spec (H.first i hi))
  obtain ⟨C, S, hf⟩ := ff
  have ef := first_gen many (by omega) C S fun i hi => (hf i hi).1
  have g0 : GG n Hv ((List.range n).map C) ((List.range n).map S) ((List.range n).map fun _ => .tup []) := by
    refine ⟨by simp, by simp, by simp, fun i c s t e1 e2 e3 => ?_⟩
    rw [List.getElem?_map] at e1 e2 e3
    by_cases hi : i < n
    · rw [List.getElem?_range hi] at e1 e2 e3
      cases e1; cases e2; cases e3
      exact (hf i hi).2.2
    · rw [List.getElem?_eq_none (by simp; omega)] at e1
      cases e1
  refine ⟨⟨n1, n5, many, ⟨_, ef, _, _, _, rfl, g0⟩, ?_, ?_, ?_⟩, lmany, _, _, _, ef, ⟨_, _, _, rfl, g0⟩, fun i hi => ?_⟩
  · rintro _ ⟨c, s, t, rfl, G⟩
    exact ⟨c, s, t, rfl, G.s⟩
  · rintro cells states tolds i s ⟨c', s', t', e, G⟩ hs hn
    obtain ⟨rfl, rfl, rfl⟩ := stD3_inj e
    have hi : i < n := by rw [← G.s]; exact (List.getElem?_eq_some_iff.mp hs).1
    obtain ⟨c, s0, t, e1, e2, e3, hv⟩ := G.at hi
    rw [hs] at e2
    cases e2
    obtain ⟨c2, s2, ts, news, w, rfl, h1, h2, h3, h4⟩ := H.step _ _ _ i c s t G e1 hs e3 hv hn
    have cl := G.c
    have sl := G.s
    have tl := G.t
    exact ⟨_, w, step_gen many hi hs hn (behind_gen hs (by omega) (by omega) (by omega) e3 h3 h1), next_gen many hi hs hn h2, _, _, _, rfl, G.set h4⟩
  · rintro _ ⟨c, s, t, rfl, G⟩
    refine repr_sm ?_
    have mem : ∀ i, i < n → ∀ c s t, _ → _ → _ → _ := fun i hi => G.h i
    have cl := G.c
    have sl := G.s
    have tl := G.t
    refine sm_tup.mpr ⟨by simp, fun x hx => ?_⟩
    simp only [List.mem_cons, List.not_mem_nil, or_false] at hx
    rcases hx with rfl | rfl | rfl
    · refine sm_tup.mpr ⟨by omega, fun y hy => ?_⟩
      obtain ⟨i, hi⟩ := List.getElem?_of_mem hy
      obtain ⟨c0, s0, t0, e1, e2, e3, hv⟩ := G.at (i := i) (by rw [← cl]; exact (List.getElem?_eq_some_iff.mp hi).1)
      rw [hi] at e1; cases e1
      exact (H.small _ _ _ _ hv).1
    · refine sm_tup.mpr ⟨by omega, fun y hy => ?_⟩
      obtain ⟨i, hi⟩ := List.getElem?_of_mem hy
      obtain ⟨c0, s0, t0, e1, e2, e3, hv⟩ := G.at (i := i) (by rw [← sl]; exact (List.getElem?_eq_some_iff.mp hi).1)
      rw [hi] at e2; cases e2
      exact (H.small _ _ _ _ hv).2.1
    · refine sm_tup.mpr ⟨by omega, fun y hy => ?_⟩
      obtain ⟨i, hi⟩ := List.getElem?_of_mem hy
      obtain ⟨c0, s0, t0, e1, e2, e3, hv⟩ := G.at (i := i) (by rw [← tl]; exact (List.getElem?_eq_some_iff.mp hi).1)
      rw [hi] at e3; cases e3
      exact (H.small _ _ _ _ hv).2.2
  · refine ⟨true, S i, fun ρ r8 r9 r5 => ?_, by rw [List.getElem?_map, List.getElem?_range hi]; rfl, (hf i hi).2.1, by rw [List.getElem?_map, List.getElem?_range hi]; rfl⟩
    refine ex_or1 (ex_op (ex_v r8) (ex_lst (ex_c ex_d (ex_c ex_d (ex_c ex_d ex_n)))) ?_)
    have := notInD_strsL k MAN
    rw [hm] at this
    exact this
end Kk03
set_option Elab.async false
set_option linter.all false
set_option maxRecDepth 100000
set_option maxHeartbeats 1000000
namespace Kk03
open PySem L2 FD
/-! # levels -/
theorem exc_fil2 {gs : FG} {ft : FT} {fe : FE} {p : D → Bool} {F : D → D} {ρ : List En} : ∀ {ds : List D}, (∀ d ∈ ds, ∃ ρ1, gs d ρ = some ρ1 ∧ EX (ft ρ1) (p d) ∧ (p d = true → EX (fe ρ1) (F d))) → EX (compD gs ft fe ds ρ) ((ds.filter p).map F)
  | [], _ => fun g => rfl
  | d :: ds, h => fun g => by
    obtain ⟨ρ1, h1, h2, h3⟩ := h d List.mem_cons_self
    have ih := exc_fil2 (ds := ds) (fun e he => h e (List.mem_cons_of_mem _ he)) g
    cases hp : p d with
    | true =>
      have h2' := h2 g
      have h3' := h3 hp g
      rw [hp] at h2'
      simp [compD, h1, h2', h3', ih, hp, List.filter_cons]
    | false =>
      have h2' := h2 g
      rw [hp] at h2'
      simp [compD, h1, h2', ih, hp, List.filter_cons]
theorem notMAN {k : Str} (h : MAN.contains k = false) : inD (.str k) k_MANNERS = some (.bl false) := by
  have := inD_strs k MAN
  rw [h] at this
  exact this
def enumL (cs : List D) : List D := cs.zipIdx.map fun q => .tup [.int (q.2 : Nat), q.1]
theorem mem_enumL {cs : List D} {d : D} (h : d ∈ enumL cs) : ∃ (j : Nat) (c : D), d = .tup [.int (j : Nat), c] ∧ cs[j]? = some c := by
  obtain ⟨⟨x, j⟩, h1, rfl⟩ := List.mem_map.mp h
  have := List.mem_zipIdx h1
  refine ⟨j, x, rfl, ?_⟩
  obtain ⟨_, h2, h3⟩ := this
  have hj : j < cs.length := by omega
  rw [List.getElem?_eq_getElem hj]
  simp only [Nat.sub_zero] at h3
  rw [h3]
theorem at_enumL {cs : List D} {j : Nat} {c : D} (h : cs[j]? = some c) : D.tup [.int (j : Nat), c] ∈ enumL cs := by
  refine List.mem_of_getElem? (i := j) ?_
  unfold enumL
  rw [List.getElem?_map, List.getElem?_zipIdx, h]
  simp
def LC (n : Nat) (c : D) : Prop := c = .non ∨ ∃ l v : Int, c = .tup [.int l, .int v] ∧ 1 ≤ l ∧ l ≤ (n : Int) ∧ 0 ≤ v ∧ v ≤ 999
def lvB (l : Int) : D → Bool
  | .tup [_, .tup [.int a, _]] => decide (a ≤ l)
  | _ => false
def lvF : D → D
  | .tup [i, .tup [_, b]] => .tup [i, b]
  | _ => .non
def belowD (l : Int) (cs : List D) : List D := ((enumL cs).filter (lvB l)).map lvF
theorem below_len (l : Int) (cs : List D) : (belowD l cs).length ≤ cs.length := by
  unfold belowD
  rw [List.length_map]
  exact Nat.le_trans (List.length_filter_le _ _) (by simp [enumL])
theorem those_below_eq {n : Nat} {l : Int} {cs : List D} (h : ∀ c ∈ cs, LC n c) (hl : cs.length ≤ 500) : EX (f_those_below [.int l, .tup cs]) (.tup (belowD l cs)) := by
  have bl := below_len l cs
  refine exf (N := 4) (exs_ret (ex_call (ex_c (ex_lc (exi_e (ex_c (ex_v rfl) ex_n) rfl) (exc_fil2 (p := lvB l) (F := lvF) fun d hd => ?_) (by unfold belowD at bl; unfold enumL at bl; omega)) ex_n) rfl))
  obtain ⟨j, c, rfl, hc⟩ := mem_enumL hd
  refine ⟨_, rfl, ?_⟩
  rcases h c (List.mem_of_getElem? hc) with rfl | ⟨a, v, rfl, _⟩
  · exact ⟨ext_and0 (ext (ex_op (ex_v rfl) ex_d (notND_non _))), fun h => by simp [lvB] at h⟩
  · exact ⟨ext_and1 (ext (ex_op (ex_v rfl) ex_d (notND_non _))) (ext (ex_op (ex_op (ex_v rfl) ex_d rfl) (ex_v rfl) (leD_int _ _))), fun _ => ex_tup (ex_c (ex_v rfl) (ex_c (ex_op (ex_v rfl) ex_d rfl) ex_n))⟩
/-- a hand of levels -/
structure LH (n : Nat) (i : Nat) (c s t : D) : Prop where
  cell : LC n c
  e : ∃ ts, t = .tup ts ∧ ts.length ≤ 1 ∧ (∀ x ∈ ts, sm [20, 6, 6] x = true) ∧
    (s = .non ∨ (ts = [] ∧ ((∃ l : Int, s = .tup [.int l, .non] ∧ 2 ≤ l ∧ l ≤ (n : Int) + 1) ∨
      ∃ (l v : Int) (now : List D), s = .tup [.int l, .tup now] ∧ c = .tup [.int l, .int v] ∧ 1 ≤ l ∧ l ≤ (n : Int) ∧ now.length < n ∧ (∀ x ∈ now, LC n x) ∧ (i < now.length → now[i]? = some c))))
section
variable {ds : List D} {n : Nat}
abbrev lvP (ds : List D) : D := thePlay (.str "levels") (.tup ds)
theorem lv_first {i : Nat} : EX (f_first_of_hand [lvP ds, .int (i : Nat)]) (.tup [.non, .tup [.int ((ds.length : Nat) + 1), .non]]) :=
  exf (N := 2) (exs_seq (exs_if0 (ext (ex_op (ex_1 (ex_v rfl) (fld_kind _ _)) ex_d (notMAN (by decide +kernel)))) exs_nx) (exs_rt (exs_if1 (ext (ex_op (ex_1 (ex_v rfl) (fld_kind _ _)) ex_d (by rw [eqD_str (okS (by decide +kernel)) (okS (by decide +kernel))]; simp))) (exs_ret (ex_fn (ex_c (ex_v rfl) ex_n) (exf (N := 1) (exs_ret (ex_tup (ex_c ex_d (ex_c (ex_tup (ex_c (ex_op (ex_call (ex_c (ex_1 (ex_v rfl) (fld_inputs _ _)) ex_n) rfl) ex_d rfl) (ex_c ex_d ex_n))) ex_n))))))))))
theorem lv_step_of {cs s h r : D} (e : EX (f_step_in_levels [lvP ds, cs, s, h]) r) : EX (f_step_of_hand [lvP ds, cs, s, h]) r :=
  exf (N := 4) (exs_seq (exs_if0 (ext (ex_op (ex_1 (ex_v rfl) (fld_kind _ _)) ex_d (notMAN (by decide +kernel)))) exs_nx) (exs_rt (exs_if1 (ext (ex_op (ex_1 (ex_v rfl) (fld_kind _ _)) ex_d (by rw [eqD_str (okS (by decide +kernel)) (okS (by decide +kernel))]; simp))) (exs_ret (ex_fn (ex_c (ex_v rfl) (ex_c (ex_v rfl) (ex_c (ex_v rfl) (ex_c (ex_v rfl) ex_n)))) e)))))
theorem lv_word_of {s h r : D} (e : EX (f_word_in_levels [s]) r) : EX (f_word_of_step [lvP ds, s, h]) r :=
  exf (N := 3) (exs_seq (exs_if0 (ext (ex_op (ex_1 (ex_v rfl) (fld_kind _ _)) ex_d (notMAN (by decide +kernel)))) exs_nx) (exs_rt (exs_if1 (ext (ex_op (ex_1 (ex_v rfl) (fld_kind _ _)) ex_d (by rw [eqD_str (okS (by decide +kernel)) (okS (by decide +kernel))]; simp))) (exs_ret (ex_fn (ex_c (ex_v rfl) ex_n) e)))))
theorem lv_word_put (l : D) : EX (f_word_in_levels [.tup [l, .non]]) (.tup [.str "put"]) :=
  exf (N := 2) (exs_seq (exs_asg (ex_op (ex_v rfl) ex_d rfl) rfl) (exs_rt (exs_if1 (ext (ex_op (ex_v rfl) ex_d rfl)) (exs_ret (ex_tup (ex_c ex_d ex_n))))))
theorem lv_word_look (l : D) (now : List D) : EX (f_word_in_levels [.tup [l, .tup now]]) (.tup [.str "look", .int (now.length : Nat)]) :=
  exf (N := 2) (exs_seq (exs_asg (ex_op (ex_v rfl) ex_d rfl) rfl) (exs_seq (exs_if0 (ext (ex_op (ex_v rfl) ex_d rfl)) exs_nx) (exs_ret (ex_tup (ex_c ex_d (ex_c (ex_call (ex_c (ex_v rfl) ex_n) rfl) ex_n))))))
theorem lv_put {cells : List D} {i : Nat} {l : Int} {v : D} (hv : ds[i]? = some v) : EX (f_step_in_levels [lvP ds, .tup cells, .tup [.int l, .non], .int (i : Nat)]) (.tup [.tup [.int (l - 1), v], .tup [.int (l - 1), .tup []], .tup []]) :=
  exf (N := 7) (exs_seq (exs_asg (ex_v rfl) rfl) (exs_rt (exs_if1 (ext (ex_op (ex_v rfl) ex_d rfl)) (exs_ret (ex_tup (ex_c (ex_tup (ex_c (ex_op (ex_v rfl) ex_d rfl) (ex_c (ex_op (ex_1 (ex_v rfl) (fld_inputs _ _)) (ex_v rfl) (ix_nat hv)) ex_n))) (ex_c (ex_tup (ex_c (ex_op (ex_v rfl) ex_d rfl) (ex_c (ex_tup ex_n) ex_n))) (ex_c (ex_tup ex_n) ex_n))))))))
/-- behind a look: the state and what is told -/
def lvLook (l : Int) (now2 : List D) (n : Nat) : D × List D :=
  if now2.length < n then (.tup [.int l, .tup now2], []) else if l ≤ ((belowD l now2).length : Int) then (.non, [.tup (belowD l now2)]) else (.tup [.int l, .non], [])
theorem lv_look {m : Nat} {cells : List D} {i : Nat} {l : Int} {now : List D} {x c : D} (hx : cells[now.length]? = some x) (hc : cells[i]? = some c) (hn : ∀ y ∈ now ++ [x], LC m y) (hl : cells.length ≤ 100) :
    EX (f_step_in_levels [lvP ds, .tup cells, .tup [.int l, .tup now], .int (i : Nat)]) (.tup [c, (lvLook l (now ++ [x]) cells.length).1, .tup (lvLook l (now ++ [x]) cells.length).2]) := by
  have hlt : now.length < cells.length := (List.getElem?_eq_some_iff.mp hx).1
  refine exf (N := 7) (exs_seq (exs_asg (ex_v rfl) rfl) ?_)
  refine exs_seq (exs_if0 (ext (ex_op (ex_v rfl) ex_d rfl)) exs_nx) ?_
  refine exs_seq (exs_asg (x := .tup (now ++ [x])) (ex_op (ex_v rfl) (ex_tup (ex_c (ex_op (ex_v rfl) (ex_call (ex_c (ex_v rfl) ex_n) rfl) (ix_nat hx)) ex_n)) (add_tt (by simp; omega))) rfl) ?_
  have l2 : (now ++ [x]).length = now.length + 1 := by simp
  generalize now ++ [x] = now2 at hn l2 ⊢
  have cL : EX (cT (cOp ltD (cCall lenD (cC (cV 4) cN)) (cCall lenD (cC (cV 1) cN))) [.dt (lvP ds), .dt (.tup cells), .dt (.tup [.int l, .tup now]), .dt (.int (i : Nat)), .dt (.tup now2), .un, .dt (.int l)]) (decide (now2.length < cells.length)) := by
    refine ext (ex_op (ex_call (ex_c (ex_v rfl) ex_n) rfl) (ex_call (ex_c (ex_v rfl) ex_n) rfl) ?_)
    rw [ltD_int]
    congr 2
    rw [decide_eq_decide]
    omega
  unfold lvLook
  by_cases h1 : now2.length < cells.length
  · rw [if_pos h1]
    rw [decide_eq_true h1] at cL
    exact exs_rt (exs_if1 cL (exs_ret (ex_tup (ex_c (ex_op (ex_v rfl) (ex_v rfl) (ix_nat hc)) (ex_c (ex_tup (ex_c (ex_v rfl) (ex_c (ex_v rfl) ex_n))) (ex_c (ex_tup ex_n) ex_n))))))
  · rw [if_neg h1]
    rw [decide_eq_false h1] at cL
    refine exs_seq (exs_if0 cL exs_nx) ?_
    refine exs_seq (exs_asg (ex_fn (ex_c (ex_v rfl) (ex_c (ex_v rfl) ex_n)) (those_below_eq hn (by omega))) rfl) ?_
    have cG : EX (cT (cOp geD (cCall lenD (cC (cV 5) cN)) (cV 6)) [.dt (lvP ds), .dt (.tup cells), .dt (.tup [.int l, .tup now]), .dt (.int (i : Nat)), .dt (.tup now2), .dt (.tup (belowD l now2)), .dt (.int l)]) (decide (l ≤ ((belowD l now2).length : Int))) :=
      ext (ex_op (ex_call (ex_c (ex_v rfl) ex_n) rfl) (ex_v rfl) (geD_int _ _))
    by_cases h2 : l ≤ ((belowD l now2).length : Int)
    · rw [if_pos h2]
      rw [decide_eq_true h2] at cG
      exact exs_rt (exs_if1 cG (exs_ret (ex_tup (ex_c (ex_op (ex_v rfl) (ex_v rfl) (ix_nat hc)) (ex_c ex_d (ex_c (ex_tup (ex_c (ex_v rfl) ex_n)) ex_n))))))
    · rw [if_neg h2]
      rw [decide_eq_false h2] at cG
      exact exs_seq (exs_if0 cG exs_nx) (exs_ret (ex_tup (ex_c (ex_op (ex_v rfl) (ex_v rfl) (ix_nat hc)) (ex_c (ex_tup (ex_c (ex_v rfl) (ex_c ex_d ex_n))) (ex_c (ex_tup ex_n) ex_n)))))
end
theorem LC.sm {n : Nat} {c : D} {Ls : List Nat} (h : LC n c) (hn : n ≤ 5) : sm (6 :: Ls) c = true := by
  rcases h with rfl | ⟨l, v, rfl, h1, h2, h3, h4⟩
  · exact sm_non
  · refine sm_tup.mpr ⟨by simp, fun x hx => ?_⟩
    simp only [List.mem_cons, List.not_mem_nil, or_false] at hx
    rcases hx with rfl | rfl <;> exact sm_int (by omega)
theorem sm_wide {L L' : Nat} {Ls : List Nat} {d : D} (h : sm (L :: Ls) d = true) (hl : L ≤ L') : sm (L' :: Ls) d = true := by
  cases d with
  | tup xs =>
    rw [sm_tup] at h ⊢
    exact ⟨by omega, h.2⟩
  | _ => simpa [sm] using h
theorem below_sm {m : Nat} {l : Int} {cs : List D} (h : ∀ c ∈ cs, LC m c) (hl : cs.length ≤ 5) : sm [20, 6, 6] (.tup (belowD l cs)) = true := by
  have bl := below_len l cs
  refine sm_tup.mpr ⟨by omega, fun x hx => ?_⟩
  unfold belowD at hx
  obtain ⟨d, hd, rfl⟩ := List.mem_map.mp hx
  obtain ⟨h1, h2⟩ := List.mem_filter.mp hd
  obtain ⟨j, c, rfl, hc⟩ := mem_enumL h1
  have hj : j < cs.length := (List.getElem?_eq_some_iff.mp hc).1
  rcases h c (List.mem_of_getElem? hc) with rfl | ⟨a, v, rfl, h3, h4, h5, h6⟩
  · simp [lvB] at h2
  · refine sm_tup.mpr ⟨by simp, fun x hx => ?_⟩
    simp only [List.mem_cons, List.not_mem_nil, or_false] at hx
    rcases hx with rfl | rfl <;> exact sm_int (by omega)
theorem below_one {l v : Int} {cs : List D} {i : Nat} (h : cs[i]? = some (.tup [.int l, .int v])) : 1 ≤ (belowD l cs).length := by
  have : lvF (.tup [.int (i : Nat), .tup [.int l, .int v]]) ∈ belowD l cs := List.mem_map.mpr ⟨_, List.mem_filter.mpr ⟨at_enumL h, by simp [lvB]⟩, rfl⟩
  exact List.length_pos_of_mem this
theorem lv_does {ds : List D} (n1 : 1 ≤ ds.length) (n5 : ds.length ≤ 5) (hv : ∀ i, i < ds.length → ∃ v : Int, ds[i]? = some (.int v) ∧ 0 ≤ v ∧ v ≤ 999) : Does (lvP ds) ds.length (LH ds.length) := by
  refine ⟨fun i hi => ⟨_, _, lv_first, rfl, .inl rfl, [], rfl, by simp, by simp, .inr ⟨rfl, .inl ⟨_, rfl, by omega, by omega⟩⟩⟩, ?_, ?_⟩
  · intro cells states tolds i c s t G e1 e2 e3 H hs
    have cl := G.c
    have hi : i < ds.length := by rw [← cl]; exact (List.getElem?_eq_some_iff.mp e1).1
    obtain ⟨ts, rfl, h1, h2, h3⟩ := H.e
    rcases h3 with rfl | ⟨rfl, ⟨l, rfl, a1, a2⟩ | ⟨l, v, now, rfl, rfl, a1, a2, a3, a4, a5⟩⟩
    · simp [isNonB] at hs
    · obtain ⟨v, ev, v0, v1⟩ := hv i hi
      refine ⟨_, _, [], [], _, rfl, lv_step_of (lv_put ev), lv_word_of (lv_word_put _), by simp, .inr ⟨l - 1, v, rfl, by omega, by omega, v0, v1⟩, [], rfl, by simp, by simp, .inr ⟨rfl, .inr ⟨l - 1, v, [], rfl, rfl, by omega, by omega, by simp only [List.length_nil]; omega, by simp, by simp⟩⟩⟩
    · have hlt : now.length < cells.length := by omega
      have hx : cells[now.length]? = some cells[now.length] := List.getElem?_eq_getElem hlt
      generalize cells[now.length] = x at hx
      have cx : ∀ {j c}, cells[j]? = some c → LC ds.length c := fun {j c} hj => by
        obtain ⟨c', s', t', f1, f2, f3, f⟩ := G.at (i := j) (by rw [← cl]; exact (List.getElem?_eq_some_iff.mp hj).1)
        rw [hj] at f1; cases f1
        exact f.cell
      have hn : ∀ y ∈ now ++ [x], LC ds.length y := fun y hy => by
        rcases List.mem_append.mp hy with h | h
        · exact a4 y h
        · have : y = x := by simpa using h
          rw [this]; exact cx hx
      have own : i < (now ++ [x]).length → (now ++ [x])[i]? = some (.tup [.int l, .int v]) := fun h => by
        by_cases hj : i < now.length
        · rw [List.getElem?_append_left hj]; exact a5 hj
        · have : i = now.length := by simp at h; omega
          subst this
          rw [e1] at hx
          cases hx
          simp
      have e := lv_look (ds := ds) (i := i) (l := l) (now := now) hx e1 hn (by omega)
      have l2 : (now ++ [x]).length = now.length + 1 := by simp
      generalize now ++ [x] = now2 at e hn own l2
      refine ⟨_, _, [], _, _, rfl, lv_step_of e, lv_word_of (lv_word_look _ _), ?_, H.cell, ?_⟩
      · unfold lvLook
        split
        · simp
        · split <;> simp
      · unfold lvLook
        by_cases b1 : now2.length < cells.length
        · rw [if_pos b1]
          exact ⟨[], rfl, by simp, by simp, .inr ⟨rfl, .inr ⟨l, v, now2, rfl, rfl, a1, a2, by omega, hn, own⟩⟩⟩
        · rw [if_neg b1]
          by_cases b2 : l ≤ ((belowD l now2).length : Int)
          · rw [if_pos b2]
            refine ⟨_, rfl, by simp, fun x hx => ?_, .inl rfl⟩
            have : x = .tup (belowD l now2) := by simpa using hx
            rw [this]
            exact below_sm hn (by omega)
          · rw [if_neg b2]
            have := below_one (own (by omega))
            exact ⟨[], rfl, by simp, by simp, .inr ⟨rfl, .inl ⟨l, rfl, by omega, by omega⟩⟩⟩
  · intro i c s t H
    obtain ⟨ts, rfl, h1, h2, h3⟩ := H.e
    refine ⟨sm_wide (H.cell.sm (by omega)) (by decide), ?_, sm_tup.mpr ⟨by omega, h2⟩⟩
    rcases h3 with rfl | ⟨rfl, ⟨l, rfl, a1, a2⟩ | ⟨l, v, now, rfl, rfl, a1, a2, a3, a4, a5⟩⟩
    · exact sm_non
    · refine sm_tup.mpr ⟨by simp, fun x hx => ?_⟩
      simp only [List.mem_cons, List.not_mem_nil, or_false] at hx
      rcases hx with rfl | rfl
      · exact sm_int (by omega)
      · exact sm_non
    · refine sm_tup.mpr ⟨by simp, fun x hx => ?_⟩
      simp only [List.mem_cons, List.not_mem_nil, or_false] at hx
      rcases hx with rfl | rfl
      · exact sm_int (by omega)
      · exact sm_tup.mpr ⟨by omega, fun y hy => (a4 y hy).sm (by omega)⟩
end Kk03
set_option Elab.async false
set_option linter.all false
set_option maxRecDepth 100000
set_option maxHeartbeats 1000000
namespace Kk03
open PySem L2 FD
/-! # names -/
theorem exs_aug {ρ : List En} {i : Nat} {sub : Bool} {a : FE} {x y z : D} (h : ρ[i]? = some (.dt x)) (ha : EX (a ρ) y) (e : augD sub x y = some z) : EX (sAug i sub a ρ) (.nx (ρ.set i (.dt z))) := fun g => by
  simp only [sAug, h, M.bd, ha g, e]
theorem notInD_intsL (z : Int) (ws : List Int) : notInD (.int z) (.lst (ws.map .int)) = some (.bl (!ws.contains z)) := by
  have e : notInD (.int z) (.tup (ws.map .int)) = notInD (.int z) (.lst (ws.map .int)) := rfl
  rw [← e]
  exact notInD_intsT z ws
def above (m : Int) (ts : List Int) : Nat := (ts.filter fun t => decide (m < t)).length
theorem above_le (m : Int) : ∀ ts : List Int, above (m + 1) ts ≤ above m ts
  | [] => Nat.le_refl _
  | t :: ts => by
    have ih := above_le m ts
    unfold above at ih ⊢
    simp only [List.filter_cons]
    by_cases h1 : m + 1 < t
    · rw [decide_eq_true h1, decide_eq_true (by omega : m < t)]; simp; omega
    · rw [decide_eq_false h1]
      by_cases h2 : m < t
      · rw [decide_eq_true h2]; simp; omega
      · rw [decide_eq_false h2]; simp; omega
theorem above_lt (m : Int) : ∀ ts : List Int, m + 1 ∈ ts → above (m + 1) ts + 1 ≤ above m ts
  | [], h => by simp at h
  | t :: ts, h => by
    have le := above_le m ts
    unfold above at le ⊢
    simp only [List.filter_cons]
    by_cases e : t = m + 1
    · subst e
      rw [decide_eq_false (by omega : ¬ m + 1 < m + 1), decide_eq_true (by omega : m < m + 1)]; simp; omega
    · have ih := above_lt m ts (by simpa [Ne.symm e] using h)
      unfold above at ih
      by_cases h1 : m + 1 < t
      · rw [decide_eq_true h1, decide_eq_true (by omega : m < t)]; simp; omega
      · rw [decide_eq_false h1]
        by_cases h2 : m < t
        · rw [decide_eq_true h2]; simp; omega
        · rw [decide_eq_false h2]; simp; omega
theorem free_while (ts : List Int) : ∀ (N : Nat) (r m : Int) (K : Nat), 0 ≤ r → r.toNat + above m ts ≤ K → K < N →
    ∃ m', EX (whileN (cT (cOp gtD (cV 0) (cD (.int 0)))) (sSeq (sAug 2 false (cD (.int 1))) (sIf (cT (cOp notInD (cV 2) (cV 1))) (sAug 0 true (cD (.int 1))) sNx)) N [.dt (.int r), .dt (.lst (ts.map .int)), .dt (.int m)]) (.nx [.dt (.int 0), .dt (.lst (ts.map .int)), .dt (.int m')]) ∧ m ≤ m' ∧ m' ≤ m + r + (above m ts : Int) ∧ (r = 0 → m' = m) ∧ (0 < r → m < m')
  | 0, _, _, _, _, _, h => by omega
  | N + 1, r, m, K, h0, hK, hN => by
    by_cases hr : 0 < r
    · have c0 : EX (cT (cOp gtD (cV 0) (cD (.int 0))) [.dt (.int r), .dt (.lst (ts.map .int)), .dt (.int m)]) true := by
        have := ext (ex_op (ρ := [.dt (.int r), .dt (.lst (ts.map .int)), .dt (.int m)]) (ex_v (i := 0) rfl) (ex_d (d := .int 0)) (gtD_int r 0))
        rwa [decide_eq_true hr] at this
      have a1 := exs_aug (ρ := [.dt (.int r), .dt (.lst (ts.map .int)), .dt (.int m)]) (i := 2) (sub := false) rfl (ex_d (d := .int 1)) rfl
      have c2 := ext (ex_op (ρ := [.dt (.int r), .dt (.lst (ts.map .int)), .dt (.int (m + 1))]) (ex_v (i := 2) rfl) (ex_v (i := 1) rfl) (notInD_intsL (m + 1) ts))
      by_cases hm : m + 1 ∈ ts
      · have e2 : ts.contains (m + 1) = true := by simpa using hm
        rw [e2] at c2
        have al := above_lt m ts hm
        obtain ⟨m', e, q1, q2, q3, q4⟩ := free_while ts N r (m + 1) (K - 1) h0 (by omega) (by omega)
        refine ⟨m', fun g => ?_, by omega, by omega, by omega, by omega⟩
        have b := (exs_seq a1 (exs_if0 (a := sAug 0 true (cD (.int 1))) c2 exs_nx)) g
        have c0g := c0 g
        unfold whileN
        rw [c0g]
        simp only [b]
        exact e g
      · have e2 : ts.contains (m + 1) = false := by simpa using hm
        rw [e2] at c2
        have al := above_le m ts
        obtain ⟨m', e, q1, q2, q3, q4⟩ := free_while ts N (r - 1) (m + 1) (K - 1) (by omega) (by omega) (by omega)
        refine ⟨m', fun g => ?_, by omega, by omega, by omega, by omega⟩
        have b := (exs_seq a1 (exs_if1 (b := sNx) c2 (exs_aug (ρ := [.dt (.int r), .dt (.lst (ts.map .int)), .dt (.int (m + 1))]) (i := 0) (sub := true) rfl (ex_d (d := .int 1)) rfl))) g
        have c0g := c0 g
        unfold whileN
        rw [c0g]
        simp only [b]
        exact e g
    · have z : r = 0 := by omega
      subst z
      refine ⟨m, fun g => ?_, by omega, by omega, fun _ => rfl, by omega⟩
      rfl
theorem free_eq {r : Int} {ts : List Int} (h0 : 0 ≤ r) (h1 : r ≤ 400) (h2 : ts.length ≤ 400) : ∃ m : Int, EX (f_free_number [.int r, .lst (ts.map .int)]) (.int m) ∧ 0 ≤ m ∧ m ≤ r + (ts.length : Int) ∧ (0 < r → 0 < m) := by
  have al : above 0 ts ≤ ts.length := List.length_filter_le _ _
  obtain ⟨m, e, q1, q2, q3, q4⟩ := free_while ts 1000 r 0 (r.toNat + above 0 ts) h0 (Nat.le_refl _) (by omega)
  exact ⟨m, exf (N := 3) (exs_seq (exs_asg ex_d rfl) (exs_seq e (exs_ret (ex_v rfl)))), q1, by omega, q4⟩
def NC (c : D) : Prop := c = .non ∨ ∃ o w : Int, c = .tup [.int o, .int w] ∧ 0 ≤ o ∧ o ≤ 999 ∧ 0 ≤ w ∧ w ≤ 20
theorem NC.sm {c : D} {Ls : List Nat} (h : NC c) : sm (20 :: Ls) c = true := by
  rcases h with rfl | ⟨l, v, rfl, h1, h2, h3, h4⟩
  · exact sm_non
  · refine sm_tup.mpr ⟨by simp, fun x hx => ?_⟩
    simp only [List.mem_cons, List.not_mem_nil, or_false] at hx
    rcases hx with rfl | rfl <;> exact sm_int (by omega)
/-- the cells of others -/
def oth (i : Nat) : D → Bool
  | .tup [.int j, c] => !(j == ((i : Nat) : Int)) && !isNonB c
  | _ => false
def wishF : D → D
  | .tup [_, .tup [_, w]] => w
  | _ => .non
def takenD (i : Nat) (cs : List D) : List D := ((enumL cs).filter (oth i)).map wishF
theorem taken_len (i : Nat) (cs : List D) : (takenD i cs).length ≤ cs.length := by
  unfold takenD
  rw [List.length_map]
  exact Nat.le_trans (List.length_filter_le _ _) (by simp [enumL])
theorem taken_ints {i : Nat} {cs : List D} (h : ∀ c ∈ cs, NC c) : ∃ ts : List Int, takenD i cs = ts.map .int := ints_of fun d hd => by
  obtain ⟨e, he, rfl⟩ := List.mem_map.mp hd
  obtain ⟨h1, h2⟩ := List.mem_filter.mp he
  obtain ⟨j, c, rfl, hc⟩ := mem_enumL h1
  rcases h c (List.mem_of_getElem? hc) with rfl | ⟨o, w, rfl, _⟩
  · simp [oth, isNonB] at h2
  · exact ⟨w, rfl⟩
def oldB (o : Int) : D → Bool
  | .tup [.int a, _] => decide (a ≤ o)
  | _ => false
section
variable {ds : List D} {n : Nat}
abbrev nmP (ds : List D) : D := thePlay (.str "names") (.tup ds)
theorem eq_str_lit {a b : Str} (ha : a.cps.all (· < 0x110000) = true) (hb : b.cps.all (· < 0x110000) = true) : eqD (.str a) (.str b) = some (.bl (a == b)) := eqD_str (okS ha) (okS hb)
theorem see_first {k : Str} {d i r : D} (hm : MAN.contains k = false) (hl : eqD (.str k) (.str "levels") = some (.bl false)) (e : EX (f_first_in_seeing [thePlay (.str k) d, i]) r) : EX (f_first_of_hand [thePlay (.str k) d, i]) r :=
  exf (N := 2) (exs_seq (exs_if0 (ext (ex_op (ex_1 (ex_v rfl) (fld_kind _ _)) ex_d (notMAN hm))) exs_nx) (exs_seq (exs_if0 (ext (ex_op (ex_1 (ex_v rfl) (fld_kind _ _)) ex_d hl)) exs_nx) (exs_ret (ex_fn (ex_c (ex_v rfl) (ex_c (ex_v rfl) ex_n)) e))))
theorem see_step {k : Str} {d cs s i r : D} (hm : MAN.contains k = false) (hl : eqD (.str k) (.str "levels") = some (.bl false)) (e : EX (f_step_in_seeing [thePlay (.str k) d, cs, s, i]) r) : EX (f_step_of_hand [thePlay (.str k) d, cs, s, i]) r :=
  exf (N := 4) (exs_seq (exs_if0 (ext (ex_op (ex_1 (ex_v rfl) (fld_kind _ _)) ex_d (notMAN hm))) exs_nx) (exs_seq (exs_if0 (ext (ex_op (ex_1 (ex_v rfl) (fld_kind _ _)) ex_d hl)) exs_nx) (exs_ret (ex_fn (ex_c (ex_v rfl) (ex_c (ex_v rfl) (ex_c (ex_v rfl) (ex_c (ex_v rfl) ex_n)))) e))))
theorem see_word {k : Str} {d s i r : D} (hm : MAN.contains k = false) (hl : eqD (.str k) (.str "levels") = some (.bl false)) (e : EX (f_word_in_seeing [s]) r) : EX (f_word_of_step [thePlay (.str k) d, s, i]) r :=
  exf (N := 3) (exs_seq (exs_if0 (ext (ex_op (ex_1 (ex_v rfl) (fld_kind _ _)) ex_d (notMAN hm))) exs_nx) (exs_seq (exs_if0 (ext (ex_op (ex_1 (ex_v rfl) (fld_kind _ _)) ex_d hl)) exs_nx) (exs_ret (ex_fn (ex_c (ex_v rfl) ex_n) e))))
theorem word_see {xs : List D} {b : Bool} (h : ixD (.tup xs) (.int (-1)) = some (.bl b)) : EX (f_word_in_seeing [.tup xs]) (.tup [.str (if b then "see" else "put")]) := by
  have c : EX (cT (cOp ixD (cV 0) (c1 negD (cD (.int 1)))) [.dt (.tup xs)]) b := ext (ex_op (ex_v rfl) (ex_1 ex_d (negD_int 1)) h)
  cases b with
  | true => exact exf (N := 1) (exs_rt (exs_if1 c (exs_ret (ex_tup (ex_c ex_d ex_n)))))
  | false => exact exf (N := 1) (exs_seq (exs_if0 c exs_nx) (exs_ret (ex_tup (ex_c ex_d ex_n))))
theorem nmM : MAN.contains ("names" : Str) = false := by decide +kernel
theorem nmL : eqD (.str "names") (.str "levels") = some (.bl false) := by rw [eq_str_lit (by decide +kernel) (by decide +kernel), show (("names" : Str) == ("levels" : Str)) = false from by decide +kernel]
theorem nmN : eqD (.str "names") (.str "names") = some (.bl true) := by rw [eq_str_lit (by decide +kernel) (by decide +kernel), show (("names" : Str) == ("names" : Str)) = true from by decide +kernel]
theorem nm_first {i : D} : EX (f_first_in_seeing [nmP ds, i]) (.tup [.non, .tup [.int 1, .bl false]]) :=
  exf (N := 2) (exs_rt (exs_if1 (ext (ex_op (ex_1 (ex_v rfl) (fld_kind _ _)) ex_d nmN)) (exs_ret (ex_tup (ex_c ex_d (ex_c (ex_tup (ex_c ex_d (ex_c ex_d ex_n))) ex_n))))))
theorem nm_step {cs s i r : D} (e : EX (f_step_in_names [nmP ds, cs, s, i]) r) : EX (f_step_of_hand [nmP ds, cs, s, i]) r :=
  see_step nmM nmL (exf (N := 4) (exs_rt (exs_if1 (ext (ex_op (ex_1 (ex_v rfl) (fld_kind _ _)) ex_d nmN)) (exs_ret (ex_fn (ex_c (ex_v rfl) (ex_c (ex_v rfl) (ex_c (ex_v rfl) (ex_c (ex_v rfl) ex_n)))) e)))))
theorem nm_put {cells : List D} {i : Nat} {w : Int} {o : D} (ho : ds[i]? = some o) : EX (f_step_in_names [nmP ds, .tup cells, .tup [.int w, .bl false], .int (i : Nat)]) (.tup [.tup [o, .int w], .tup [.int w, .bl true], .tup []]) :=
  exf (N := 10) (exs_seq (exs_asg (ex_v rfl) rfl) (exs_rt (exs_if1 (ext_not (b := false) (ext (ex_v rfl))) (exs_ret (ex_tup (ex_c (ex_tup (ex_c (ex_op (ex_1 (ex_v rfl) (fld_inputs _ _)) (ex_v rfl) (ix_nat ho)) (ex_c (ex_v rfl) ex_n))) (ex_c (ex_tup (ex_c (ex_v rfl) (ex_c ex_d ex_n))) (ex_c (ex_tup ex_n) ex_n))))))))
theorem nm_see {cells : List D} {i : Nat} {w o : Int} {c : D} (ho : ds[i]? = some (.int o)) (hc : cells[i]? = some c) (hn : ∀ y ∈ cells, NC y) (hl : cells.length ≤ 100) :
    ∃ s ts, EX (f_step_in_names [nmP ds, .tup cells, .tup [.int w, .bl true], .int (i : Nat)]) (.tup [c, s, .tup ts]) ∧ ((s = .non ∧ ts = [.int w]) ∨ ∃ m : Int, s = .tup [.int m, .bl false] ∧ ts = [] ∧ 0 ≤ m ∧ m ≤ 2 * (cells.length : Int)) := by
  obtain ⟨ts, et⟩ := taken_ints (i := i) hn
  have tl := taken_len i cells
  have pre : ∀ {f : Fl}, EX ((sSeq (sIf (cT (cOp notInD (cV 6) (cV 4))) (sRet (cTup (cC (cOp ixD (cV 1) (cV 3)) (cC (cD .non) (cC (cTup (cC (cV 6) cN)) cN))))) sNx) (sSeq (sAsg (cCall lenD (cC (cLc (iS (cV 1)) [9] (gN 9) (cAnd (cT (cOp notND (cV 9) (cD .non))) (cT (cOp leD (cOp ixD (cV 9) (cD (.int 0))) (cOp ixD (c1 (fldD "inputs") (cV 0)) (cV 3))))) (cV 9)) cN)) (gN 5)) (sRet (cTup (cC (cOp ixD (cV 1) (cV 3)) (cC (cTup (cC (cFn 2 f_free_number (cC (cV 5) (cC (cV 4) cN))) (cC (cD (.bl false)) cN))) (cC (cTup cN) cN))))))) [.dt (nmP ds), .dt (.tup cells), .dt (.tup [.int w, .bl true]), .dt (.int (i : Nat)), .dt (.lst (takenD i cells)), .un, .dt (.int w), .dt (.bl true), .un, .un]) f → EX (b_step_in_names ([.dt (nmP ds), .dt (.tup cells), .dt (.tup [.int w, .bl true]), .dt (.int (i : Nat))] ++ List.replicate 6 .un)) f := fun {f} h => by
    refine exs_seq (exs_asg (ex_v rfl) rfl) (exs_seq (exs_if0 (ext_not (b := true) (ext (ex_v rfl))) exs_nx) (exs_seq (exs_asg (x := .lst (takenD i cells)) (ex_lc (exi_e (ex_c (ex_v rfl) ex_n) rfl) (exc_fil2 (p := oth i) (F := wishF) fun d hd => ?_) (show (takenD i cells).length ≤ 1000 by omega)) rfl) h))
    obtain ⟨j, x, rfl, hx⟩ := mem_enumL hd
    have c1 : ∀ ρ : List En, ρ[8]? = some (.dt (.int (j : Nat))) → ρ[3]? = some (.dt (.int (i : Nat))) → EX (cT (cOp neD (cV 8) (cV 3)) ρ) (!(((j : Nat) : Int) == ((i : Nat) : Int))) := fun ρ h1 h2 => ext (ex_op (ex_v h1) (ex_v h2) (neD_int _ _))
    refine ⟨_, rfl, ?_, ?_⟩
    · show EX _ (!(((j : Nat) : Int) == ((i : Nat) : Int)) && !isNonB x)
      have c1 := c1 (((blkE [.dt (nmP ds), .dt (.tup cells), .dt (.tup [.int w, .bl true]), .dt (.int (i : Nat)), .un, .un, .dt (.int w), .dt (.bl true), .un, .un] [8, 9]).set 8 (.dt (.int (j : Nat)))).set 9 (.dt x)) rfl rfl
      cases hb : (!(((j : Nat) : Int) == ((i : Nat) : Int))) with
      | false =>
        rw [hb] at c1
        exact ext_and0 c1
      | true =>
        rw [hb] at c1
        exact ext_and1 c1 (ext (ex_op (ex_v rfl) ex_d (notND_non _)))
    · intro hp
      rcases hn x (List.mem_of_getElem? hx) with rfl | ⟨o, w, rfl, _⟩
      · simp [oth, isNonB] at hp
      · exact ex_op (ex_v rfl) ex_d rfl
  have cw : EX (cT (cOp notInD (cV 6) (cV 4)) [.dt (nmP ds), .dt (.tup cells), .dt (.tup [.int w, .bl true]), .dt (.int (i : Nat)), .dt (.lst (takenD i cells)), .un, .dt (.int w), .dt (.bl true), .un, .un]) (!ts.contains w) := ext (ex_op (ex_v rfl) (ex_v rfl) (by rw [et]; exact notInD_intsL w ts))
  cases hw : (!ts.contains w) with
  | true =>
    rw [hw] at cw
    exact ⟨.non, [.int w], exf (N := 10) (pre (exs_rt (exs_if1 cw (exs_ret (ex_tup (ex_c (ex_op (ex_v rfl) (ex_v rfl) (ix_nat hc)) (ex_c ex_d (ex_c (ex_tup (ex_c (ex_v rfl) ex_n)) ex_n)))))))), .inl ⟨rfl, rfl⟩⟩
  | false =>
    rw [hw] at cw
    have rl : (cells.filter (oldB o)).length ≤ cells.length := List.length_filter_le _ _
    have tl2 : ts.length ≤ cells.length := by rw [et] at tl; simpa using tl
    obtain ⟨m, e, m0, m1, _⟩ := free_eq (r := (((cells.filter (oldB o)).length : Nat) : Int)) (ts := ts) (by omega) (by omega) (by omega)
    refine ⟨.tup [.int m, .bl false], [], exf (N := 10) (pre (exs_seq (exs_if0 cw exs_nx) (exs_seq (exs_asg (x := .int (((cells.filter (oldB o)).length : Nat) : Int)) (ex_call (ex_c (ex_lc (exi_s (ex_v rfl) rfl) (exc_fil2 (p := oldB o) (F := id) fun d hd => ?_) (by rw [List.length_map]; omega)) ex_n) (by rw [List.map_id]; rfl)) rfl) (exs_ret (ex_tup (ex_c (ex_op (ex_v rfl) (ex_v rfl) (ix_nat hc)) (ex_c (ex_tup (ex_c (ex_fn (ex_c (ex_v rfl) (ex_c (ex_v rfl) ex_n)) (by rw [et]; exact e)) (ex_c ex_d ex_n))) (ex_c (ex_tup ex_n) ex_n)))))))), .inr ⟨m, rfl, rfl, m0, by omega⟩⟩
    refine ⟨_, rfl, ?_, fun _ => ex_v rfl⟩
    rcases hn d hd with rfl | ⟨a, v, rfl, _⟩
    · exact ext_and0 (ext (ex_op (ex_v rfl) ex_d (notND_non _)))
    · exact ext_and1 (ext (ex_op (ex_v rfl) ex_d (notND_non _))) (ext (ex_op (ex_op (ex_v rfl) ex_d rfl) (ex_op (ex_1 (ex_v rfl) (fld_inputs _ _)) (ex_v rfl) (ix_nat ho)) (leD_int _ _)))
end
/-- a hand of names -/
structure NH (i : Nat) (c s t : D) : Prop where
  cell : NC c
  e : ∃ ts, t = .tup ts ∧ ts.length ≤ 1 ∧ (∀ x ∈ ts, sm [20, 6, 6] x = true) ∧
    (s = .non ∨ (ts = [] ∧ ∃ (w : Int) (b : Bool), s = .tup [.int w, .bl b] ∧ 0 ≤ w ∧ w ≤ 20))
theorem nm_does {ds : List D} (n1 : 1 ≤ ds.length) (n5 : ds.length ≤ 5) (hv : ∀ i, i < ds.length → ∃ v : Int, ds[i]? = some (.int v) ∧ 0 ≤ v ∧ v ≤ 999) : Does (nmP ds) ds.length NH := by
  refine ⟨fun i hi => ⟨_, _, see_first nmM nmL nm_first, rfl, .inl rfl, [], rfl, by simp, by simp, .inr ⟨rfl, 1, false, rfl, by omega, by omega⟩⟩, ?_, ?_⟩
  · intro cells states tolds i c s t G e1 e2 e3 H hs
    have cl := G.c
    have hi : i < ds.length := by rw [← cl]; exact (List.getElem?_eq_some_iff.mp e1).1
    obtain ⟨o, eo, o0, o1⟩ := hv i hi
    obtain ⟨ts, rfl, h1, h2, h3⟩ := H.e
    have cx : ∀ y ∈ cells, NC y := fun y hy => by
      obtain ⟨j, hj⟩ := List.getElem?_of_mem hy
      obtain ⟨c', s', t', f1, f2, f3, f⟩ := G.at (i := j) (by rw [← cl]; exact (List.getElem?_eq_some_iff.mp hj).1)
      rw [hj] at f1; cases f1
      exact f.cell
    rcases h3 with rfl | ⟨rfl, w, b, rfl, a1, a2⟩
    · simp [isNonB] at hs
    · have ew := see_word (d := .tup ds) (i := .int (i : Nat)) nmM nmL (word_see (xs := [.int w, .bl b]) rfl)
      cases b with
      | false => exact ⟨_, _, [], [], _, rfl, nm_step (nm_put eo), ew, by simp, .inr ⟨o, w, rfl, o0, o1, a1, a2⟩, [], rfl, by simp, by simp, .inr ⟨rfl, w, true, rfl, a1, a2⟩⟩
      | true =>
        obtain ⟨s', news, e, q⟩ := nm_see (ds := ds) (w := w) eo e1 cx (by omega)
        refine ⟨_, s', [], news, _, rfl, nm_step e, ew, ?_, H.cell, ?_⟩
        · rcases q with ⟨_, rfl⟩ | ⟨m, _, rfl, _⟩ <;> simp
        · rcases q with ⟨rfl, rfl⟩ | ⟨m, rfl, rfl, m0, m1⟩
          · exact ⟨_, rfl, by simp, fun x hx => by
              have : x = .int w := by simpa using hx
              rw [this]; exact sm_int (by omega), .inl rfl⟩
          · exact ⟨_, rfl, by simp, by simp, .inr ⟨rfl, m, false, rfl, m0, by omega⟩⟩
  · intro i c s t H
    obtain ⟨ts, rfl, h1, h2, h3⟩ := H.e
    refine ⟨H.cell.sm, ?_, sm_tup.mpr ⟨by omega, h2⟩⟩
    rcases h3 with rfl | ⟨rfl, w, b, rfl, a1, a2⟩
    · exact sm_non
    · refine sm_tup.mpr ⟨by simp, fun x hx => ?_⟩
      simp only [List.mem_cons, List.not_mem_nil, or_false] at hx
      rcases hx with rfl | rfl
      · exact sm_int (by omega)
      · exact sm_bl
end Kk03
set_option Elab.async false
set_option linter.all false
set_option maxRecDepth 100000
set_option maxHeartbeats 1000000
namespace Kk03
open PySem L2 FD
/-! # near values -/
section
variable {R : Int} {vs : List D} {n : Nat}
abbrev nrP (R : Int) (vs : List D) : D := thePlay (.str "near") (.tup [.int R, .tup vs])
theorem nrM : MAN.contains ("near" : Str) = false := by decide +kernel
theorem nrL : eqD (.str "near") (.str "levels") = some (.bl false) := by rw [eq_str_lit (by decide +kernel) (by decide +kernel), show (("near" : Str) == ("levels" : Str)) = false from by decide +kernel]
theorem nrN : eqD (.str "near") (.str "names") = some (.bl false) := by rw [eq_str_lit (by decide +kernel) (by decide +kernel), show (("near" : Str) == ("names" : Str)) = false from by decide +kernel]
theorem nrR : eqD (.str "near") (.str "near") = some (.bl true) := by rw [eq_str_lit (by decide +kernel) (by decide +kernel), show (("near" : Str) == ("near" : Str)) = true from by decide +kernel]
theorem nr_many : EX (f_many_hands [nrP R vs]) (.int (vs.length : Nat)) :=
  exf (N := 1) (exs_rt (exs_if1 (ext (ex_op (ex_1 (ex_v rfl) (fld_kind _ _)) ex_d nrR)) (exs_ret (ex_call (ex_c (ex_op (ex_1 (ex_v rfl) (fld_inputs _ _)) ex_d rfl) ex_n) rfl))))
theorem nr_lmany : EX (f_law_many [.str "near", .tup [.int R, .tup vs]]) (.int (vs.length : Nat)) :=
  exf (N := 2) (exs_rt (exs_if1 (ext (ex_op (ex_v rfl) ex_d nrR)) (exs_ret (ex_call (ex_c (ex_op (ex_v rfl) ex_d rfl) ex_n) rfl))))
theorem nr_first {i : Nat} {v : D} (h : vs[i]? = some v) : EX (f_first_in_seeing [nrP R vs, .int (i : Nat)]) (.tup [.tup [], .tup [.int 0, v, .bl false]]) :=
  exf (N := 2) (exs_seq (exs_if0 (ext (ex_op (ex_1 (ex_v rfl) (fld_kind _ _)) ex_d nrN)) exs_nx) (exs_rt (exs_if1 (ext (ex_op (ex_1 (ex_v rfl) (fld_kind _ _)) ex_d nrR)) (exs_ret (ex_tup (ex_c (ex_tup ex_n) (ex_c (ex_tup (ex_c ex_d (ex_c (ex_op (ex_op (ex_1 (ex_v rfl) (fld_inputs _ _)) ex_d rfl) (ex_v rfl) (ix_nat h)) (ex_c ex_d ex_n)))) ex_n)))))))
theorem nr_step {cs s i r : D} (e : EX (f_step_in_near [nrP R vs, cs, s, i]) r) : EX (f_step_of_hand [nrP R vs, cs, s, i]) r :=
  see_step nrM nrL (exf (N := 4) (exs_seq (exs_if0 (ext (ex_op (ex_1 (ex_v rfl) (fld_kind _ _)) ex_d nrN)) exs_nx) (exs_rt (exs_if1 (ext (ex_op (ex_1 (ex_v rfl) (fld_kind _ _)) ex_d nrR)) (exs_ret (ex_fn (ex_c (ex_v rfl) (ex_c (ex_v rfl) (ex_c (ex_v rfl) (ex_c (ex_v rfl) ex_n)))) e))))))
theorem nr_put {cells tops : List D} {i : Nat} {a top : D} (hc : cells[i]? = some (.tup tops)) (hl : tops.length ≤ 100) : EX (f_step_in_near [nrP R vs, .tup cells, .tup [a, top, .bl false], .int (i : Nat)]) (.tup [.tup (tops ++ [top]), .tup [a, top, .bl true], .tup []]) :=
  exf (N := 10) (exs_seq (exs_asg (ex_v rfl) rfl) (exs_rt (exs_if1 (ext_not (b := false) (ext (ex_v rfl))) (exs_ret (ex_tup (ex_c (ex_op (ex_op (ex_v rfl) (ex_v rfl) (ix_nat hc)) (ex_tup (ex_c (ex_v rfl) ex_n)) (add_tt (by simp; omega))) (ex_c (ex_tup (ex_c (ex_v rfl) (ex_c (ex_v rfl) (ex_c ex_d ex_n)))) (ex_c (ex_tup ex_n) ex_n))))))))
def moreB (a : Nat) : D → Bool
  | .tup xs => decide ((a : Int) < (xs.length : Int))
  | _ => false
def topF (a : Nat) : D → D
  | .tup xs => (xs[a]?).getD .non
  | _ => .non
def topsD (a : Nat) (cs : List D) : List D := (cs.filter (moreB a)).map (topF a)
theorem tops_len (a : Nat) (cs : List D) : (topsD a cs).length ≤ cs.length := by
  unfold topsD
  rw [List.length_map]
  exact List.length_filter_le _ _
theorem minD_ints {ns : List Int} (h : ns ≠ []) : minD [.lst (ns.map .int)] = some (.int (minI ns)) := by
  show (if ns.map D.int = [] then none else (intsD (ns.map D.int)).map fun ns => D.int (minI ns)) = _
  rw [if_neg (by simpa using h), intsD_map]; rfl
theorem maxD_ints {ns : List Int} (h : ns ≠ []) : maxD [.lst (ns.map .int)] = some (.int (maxI ns)) := by
  show (if ns.map D.int = [] then none else (intsD (ns.map D.int)).map fun ns => D.int (maxI ns)) = _
  rw [if_neg (by simpa using h), intsD_map]; rfl
/-- a cell: the tops of the rounds -/
def RC (c : D) : Prop := ∃ tops : List Int, c = .tup (tops.map .int) ∧ tops.length ≤ 6 ∧ ∀ (r : Nat) (x : Int), tops[r]? = some x → x.natAbs ≤ 1000 * 2 ^ r
theorem tops_ints {a : Nat} {cs : List D} (h : ∀ c ∈ cs, RC c) : ∃ ts : List Int, topsD a cs = ts.map .int ∧ (∀ t ∈ ts, t.natAbs ≤ 1000 * 2 ^ a) := by
  have each : ∀ d ∈ topsD a cs, ∃ i : Int, d = .int i ∧ i.natAbs ≤ 1000 * 2 ^ a := fun d hd => by
    obtain ⟨c, hc, rfl⟩ := List.mem_map.mp hd
    obtain ⟨h1, h2⟩ := List.mem_filter.mp hc
    obtain ⟨tops, rfl, _, h3⟩ := h c h1
    have hl : a < tops.length := by simp [moreB] at h2; omega
    refine ⟨tops[a], ?_, h3 a _ (List.getElem?_eq_getElem hl)⟩
    show ((tops.map D.int)[a]?).getD .non = _
    rw [List.getElem?_map, List.getElem?_eq_getElem hl]; rfl
  obtain ⟨ts, e⟩ := ints_of fun d hd => by
    obtain ⟨i, h1, _⟩ := each d hd
    exact ⟨i, h1⟩
  refine ⟨ts, e, fun t ht => ?_⟩
  obtain ⟨i, h1, h2⟩ := each (.int t) (by rw [e]; exact List.mem_map.mpr ⟨t, ht, rfl⟩)
  cases h1
  exact h2
theorem nr_see {cells : List D} {i a : Nat} {top : D} {c : D} {tops : List Int} (hc : cells[i]? = some c) (ec : c = .tup (tops.map .int)) (hl : a < tops.length) (hn : ∀ y ∈ cells, RC y) (hl : cells.length ≤ 100) :
    ∃ t : Int, EX (f_step_in_near [nrP R vs, .tup cells, .tup [.int (a : Nat), top, .bl true], .int (i : Nat)]) (.tup (if (a : Int) + 1 = R then [c, .non, .tup [.tup [.int t, .int R]]] else [c, .tup [.int ((a : Int) + 1), .int t, .bl false], .tup []])) ∧ t.natAbs ≤ 1000 * 2 ^ (a + 1) := by
  obtain ⟨ts, et, hts⟩ := tops_ints (a := a) hn
  have tl := tops_len a cells
  have ne : ts ≠ [] := fun z => by
    have : topF a c ∈ topsD a cells := List.mem_map.mpr ⟨c, List.mem_filter.mpr ⟨List.mem_of_getElem? hc, by rw [ec]; simp [moreB]; omega⟩, rfl⟩
    rw [et, z] at this
    simp at this
  obtain ⟨m1, _⟩ := minI_ok ne
  obtain ⟨m2, _⟩ := maxI_ok ne
  have b1 := hts _ m1
  have b2 := hts _ m2
  refine ⟨minI ts + maxI ts, ?_, by rw [Nat.pow_succ]; omega⟩
  refine exf (N := 10) (exs_seq (exs_asg (ex_v rfl) rfl) (exs_seq (exs_if0 (ext_not (b := true) (ext (ex_v rfl))) exs_nx) (exs_seq (exs_asg (x := .lst (topsD a cells)) (ex_lc (exi_s (ex_v rfl) rfl) (exc_fil2 (p := moreB a) (F := topF a) fun d hd => ?_) (show (topsD a cells).length ≤ 1000 by omega)) rfl) ?_)))
  · obtain ⟨tops, rfl, _, _⟩ := hn d hd
    refine ⟨_, rfl, ext (ex_op (ex_call (ex_c (ex_v rfl) ex_n) rfl) (ex_v rfl) (gtD_int _ _)), fun h => ex_op (ex_v rfl) (ex_v rfl) (ix_nat ?_)⟩
    have hl : a < tops.length := by simp [moreB] at h; omega
    show (tops.map D.int)[a]? = some (((tops.map D.int)[a]?).getD .non)
    rw [List.getElem?_map, List.getElem?_eq_getElem hl]; rfl
  refine exs_seq (exs_asg (ex_op (ex_call (ex_c (ex_v rfl) ex_n) (by rw [et]; exact minD_ints ne)) (ex_call (ex_c (ex_v rfl) ex_n) (by rw [et]; exact maxD_ints ne)) (addD_int _ _)) rfl) ?_
  refine exs_seq (exs_asg (ex_op (ex_1 (ex_v rfl) (fld_inputs _ _)) ex_d rfl) rfl) ?_
  have cE : ∀ ρ : List En, ρ[7]? = some (.dt (.int (a : Nat))) → ρ[6]? = some (.dt (.int R)) → EX (cT (cOp eqD (cOp addD (cV 7) (cD (.int 1))) (cV 6)) ρ) ((a : Int) + 1 == R) := fun ρ h1 h2 => ext (ex_op (ex_op (ex_v h1) ex_d (addD_int _ _)) (ex_v h2) (eqD_int _ _))
  by_cases hr : (a : Int) + 1 = R
  · rw [if_pos hr]
    refine exs_rt (exs_if1 ?_ (exs_ret (ex_tup (ex_c (ex_op (ex_v rfl) (ex_v rfl) (ix_nat hc)) (ex_c ex_d (ex_c (ex_tup (ex_c (ex_tup (ex_c (ex_v rfl) (ex_c (ex_v rfl) ex_n))) ex_n)) ex_n))))))
    have := cE _ (rfl : ([.dt (nrP R vs), .dt (.tup cells), .dt (.tup [.int (a : Nat), top, .bl true]), .dt (.int (i : Nat)), .dt (.lst (topsD a cells)), .dt (.int (minI ts + maxI ts)), .dt (.int R), .dt (.int (a : Nat)), .dt (.bl true), .un] : List En)[7]? = _) rfl
    rwa [show ((a : Int) + 1 == R) = true from by simpa using hr] at this
  · rw [if_neg hr]
    refine exs_seq (exs_if0 ?_ exs_nx) (exs_ret (ex_tup (ex_c (ex_op (ex_v rfl) (ex_v rfl) (ix_nat hc)) (ex_c (ex_tup (ex_c (ex_op (ex_v rfl) ex_d (addD_int _ _)) (ex_c (ex_v rfl) (ex_c ex_d ex_n)))) (ex_c (ex_tup ex_n) ex_n)))))
    have := cE _ (rfl : ([.dt (nrP R vs), .dt (.tup cells), .dt (.tup [.int (a : Nat), top, .bl true]), .dt (.int (i : Nat)), .dt (.lst (topsD a cells)), .dt (.int (minI ts + maxI ts)), .dt (.int R), .dt (.int (a : Nat)), .dt (.bl true), .un] : List En)[7]? = _) rfl
    rwa [show ((a : Int) + 1 == R) = false from by simpa using hr] at this
end
/-- a hand of near values -/
structure RH (R : Int) (i : Nat) (c s t : D) : Prop where
  e : ∃ (tops : List Int) (ts : List D), c = .tup (tops.map .int) ∧ tops.length ≤ 6 ∧ (∀ (r : Nat) (x : Int), tops[r]? = some x → x.natAbs ≤ 1000 * 2 ^ r) ∧ t = .tup ts ∧ ts.length ≤ 1 ∧ (∀ x ∈ ts, sm [20, 6, 6] x = true) ∧
    (s = .non ∨ (ts = [] ∧ ∃ (a : Nat) (top : Int) (b : Bool), s = .tup [.int (a : Nat), .int top, .bl b] ∧ (a : Int) < R ∧ top.natAbs ≤ 1000 * 2 ^ a ∧ tops.length = a + (if b then 1 else 0)))
theorem pow_small {r : Nat} (h : r ≤ 6) : 1000 * 2 ^ r ≤ 200000 := by
  have : (2 : Nat) ^ r ≤ 2 ^ 6 := Nat.pow_le_pow_right (by decide) h
  omega
theorem nr_does {R : Int} {vs : List D} (r1 : 1 ≤ R) (r6 : R ≤ 6) (n1 : 1 ≤ vs.length) (n5 : vs.length ≤ 5) (hv : ∀ i, i < vs.length → ∃ v : Int, vs[i]? = some (.int v) ∧ -1000 ≤ v ∧ v ≤ 1000) : Does (nrP R vs) vs.length (RH R) := by
  refine ⟨fun i hi => ?_, ?_, ?_⟩
  · obtain ⟨v, ev, v0, v1⟩ := hv i hi
    exact ⟨_, _, see_first nrM nrL (nr_first ev), rfl, [], [], rfl, by simp, by simp, rfl, by simp, by simp, .inr ⟨rfl, 0, v, false, rfl, by simp; omega, by simp; omega, by simp⟩⟩
  · intro cells states tolds i c s t G e1 e2 e3 H hs
    have cl := G.c
    have hi : i < vs.length := by rw [← cl]; exact (List.getElem?_eq_some_iff.mp e1).1
    obtain ⟨tops, ts, rfl, h1, h2, rfl, h3, h4, h5⟩ := H.e
    have cx : ∀ y ∈ cells, RC y := fun y hy => by
      obtain ⟨j, hj⟩ := List.getElem?_of_mem hy
      obtain ⟨c', s', t', f1, f2, f3, f⟩ := G.at (i := j) (by rw [← cl]; exact (List.getElem?_eq_some_iff.mp hj).1)
      rw [hj] at f1; cases f1
      obtain ⟨tops, ts, rfl, k1, k2, _⟩ := f.e
      exact ⟨tops, rfl, k1, k2⟩
    rcases h5 with rfl | ⟨rfl, a, top, b, rfl, a1, a2, a3⟩
    · simp [isNonB] at hs
    · have ew := see_word (d := .tup [.int R, .tup vs]) (i := .int (i : Nat)) nrM nrL (word_see (xs := [.int (a : Nat), .int top, .bl b]) rfl)
      cases b with
      | false =>
        simp at a3
        refine ⟨_, _, [], [], _, rfl, nr_step (nr_put e1 (by rw [List.length_map]; omega)), ew, by simp, tops ++ [top], [], by simp, by simp; omega, fun r x hx => ?_, rfl, by simp, by simp, .inr ⟨rfl, a, top, true, rfl, a1, a2, by simp [a3]⟩⟩
        by_cases hr : r < tops.length
        · rw [List.getElem?_append_left hr] at hx
          exact h2 r x hx
        · have hr2 : r < (tops ++ [top]).length := (List.getElem?_eq_some_iff.mp hx).1
          have : r = tops.length := by simp at hr2; omega
          subst this
          simp at hx
          rw [← hx, a3]; exact a2
      | true =>
        simp at a3
        obtain ⟨t, e, ht⟩ := nr_see (R := R) (vs := vs) (a := a) (top := .int top) e1 rfl (by omega) cx (by omega)
        by_cases hr : (a : Int) + 1 = R
        · rw [if_pos hr] at e
          refine ⟨_, _, [], [.tup [.int t, .int R]], _, rfl, nr_step e, ew, by simp, tops, _, rfl, h1, h2, rfl, by simp, fun x hx => ?_, .inl rfl⟩
          have : x = .tup [.int t, .int R] := by simpa using hx
          rw [this]
          refine sm_tup.mpr ⟨by simp, fun x hx => ?_⟩
          simp only [List.mem_cons, List.not_mem_nil, or_false] at hx
          have := pow_small (r := a + 1) (by omega)
          rcases hx with rfl | rfl <;> exact sm_int (by omega)
        · rw [if_neg hr] at e
          exact ⟨_, _, [], [], _, rfl, nr_step e, ew, by simp, tops, _, rfl, h1, h2, rfl, by simp, by simp, .inr ⟨rfl, a + 1, t, false, by simp, by omega, ht, by simp [a3]⟩⟩
  · intro i c s t H
    obtain ⟨tops, ts, rfl, h1, h2, rfl, h3, h4, h5⟩ := H.e
    refine ⟨sm_tup.mpr ⟨by rw [List.length_map]; omega, fun x hx => ?_⟩, ?_, sm_tup.mpr ⟨by omega, h4⟩⟩
    · obtain ⟨z, hz, rfl⟩ := List.mem_map.mp hx
      obtain ⟨r, hr⟩ := List.getElem?_of_mem hz
      have rl := (List.getElem?_eq_some_iff.mp hr).1
      have := h2 r z hr
      have := pow_small (r := r) (by omega)
      exact sm_int (by omega)
    · rcases h5 with rfl | ⟨rfl, a, top, b, rfl, a1, a2, a3⟩
      · exact sm_non
      · refine sm_tup.mpr ⟨by simp, fun x hx => ?_⟩
        simp only [List.mem_cons, List.not_mem_nil, or_false] at hx
        have := pow_small (r := a) (by omega)
        rcases hx with rfl | rfl | rfl
        · exact sm_int (by omega)
        · exact sm_int (by omega)
        · exact sm_bl
end Kk03
set_option Elab.async false
set_option linter.all false
set_option maxRecDepth 100000
set_option maxHeartbeats 1000000
namespace Kk03
open PySem L2 FD
/-! # chains -/
theorem ed_le : ∀ (k : Nat) (l M : List Int), M.length ≤ k → (∀ x ∈ l, x ∈ M) → l.eraseDups.length ≤ M.length
  | k, [], M, _, _ => by simp
  | 0, a :: l, M, hk, h => by
    have := h a (by simp)
    have := List.length_pos_of_mem this
    omega
  | k + 1, a :: l, M, hk, h => by
    rw [List.eraseDups_cons, List.length_cons]
    have ha := h a (by simp)
    have hlt : (M.filter fun b => !(b == a)).length < M.length := by
      exact List.length_filter_lt_length_iff_exists.mpr ⟨a, ha, by simp⟩
    have := ed_le k (l.filter fun b => !(b == a)) (M.filter fun b => !(b == a)) (by omega) fun x hx => by
      obtain ⟨h1, h2⟩ := List.mem_filter.mp hx
      exact List.mem_filter.mpr ⟨h x (by simp [h1]), h2⟩
    omega
def M20 : List Int := (List.range 20).map fun (j : Nat) => (j : Int)
theorem mem_M20 {x : Int} (h0 : 0 ≤ x) (h1 : x ≤ 19) : x ∈ M20 := List.mem_map.mpr ⟨x.toNat, List.mem_range.mpr (by omega), by omega⟩
theorem ed20 {l : List Int} (h : ∀ x ∈ l, 0 ≤ x ∧ x ≤ 19) : l.eraseDups.length ≤ 20 := by
  have := ed_le 20 l M20 (by simp [M20]) fun x hx => mem_M20 (h x hx).1 (h x hx).2
  simpa [M20] using this
theorem mem_sortSet {l : List Int} {x : Int} (h : x ∈ sortSet l) : x ∈ l := (List.mem_eraseDups.mp ((List.mergeSort_perm _ _).mem_iff.mp h))
theorem asc_len : ∀ (xs : List D) (a : Int), (∀ x ∈ xs, ∃ i : Int, x = .int i ∧ i ≤ 19) → ascI xs = true → (∀ i : Int, xs.head? = some (.int i) → a ≤ i) → a ≤ 20 → (xs.length : Int) ≤ 20 - a
  | [], a, _, _, _, h => by simp; omega
  | [x], a, h, _, hh, _ => by
    obtain ⟨i, rfl, hi⟩ := h x (by simp)
    have := hh i rfl
    simp
    omega
  | x :: y :: r, a, h, hs, hh, _ => by
    obtain ⟨i, rfl, hi⟩ := h x (by simp)
    obtain ⟨j, rfl, hj⟩ := h y (by simp)
    have h0 := hh i rfl
    simp only [ascI, Bool.and_eq_true, decide_eq_true_eq] at hs
    have := asc_len (.int j :: r) (i + 1) (fun x hx => h x (by simp only [List.mem_cons] at hx ⊢; exact .inr hx)) hs.2 (fun z hz => by
      have : j = z := by simpa using hz
      omega) (by omega)
    simp only [List.length_cons] at this ⊢
    omega
/-- a cell -/
def CC (c : D) : Prop := c = .non ∨ ∃ lot : List Int, c = .tup (lot.map .int) ∧ lot.length ≤ 20 ∧ ∀ x ∈ lot, 0 ≤ x ∧ x ≤ 19
theorem lot_sm {lot : List Int} {Ls : List Nat} (h : lot.length ≤ 20) (h2 : ∀ x ∈ lot, 0 ≤ x ∧ x ≤ 19) : sm (20 :: Ls) (.tup (lot.map .int)) = true := by
  refine sm_tup.mpr ⟨by simpa using h, fun x hx => ?_⟩
  obtain ⟨i, hi, rfl⟩ := List.mem_map.mp hx
  have := h2 i hi
  exact sm_int (by omega)
theorem CC.sm {c : D} {Ls : List Nat} (h : CC c) : sm (20 :: Ls) c = true := by
  rcases h with rfl | ⟨lot, rfl, h1, h2⟩
  · exact sm_non
  · exact lot_sm h1 h2
theorem lots_ok : ∀ {cs : List D}, (∀ c ∈ cs, CC c) → ∃ Ls, lotsOf (cs.filter fun c => !isNonB c) = some Ls ∧ ∀ x ∈ Ls.flatten, 0 ≤ x ∧ x ≤ 19
  | [], _ => ⟨[], rfl, by simp⟩
  | c :: cs, h => by
    obtain ⟨Ls, e, k⟩ := lots_ok (cs := cs) fun c hc => h c (by simp [hc])
    rcases h c (by simp) with rfl | ⟨lot, rfl, h1, h2⟩
    · exact ⟨Ls, e, k⟩
    · refine ⟨lot :: Ls, ?_, fun x hx => ?_⟩
      · rw [List.filter_cons, if_pos (by rfl)]
        simp [lotsOf, intsOf_map, e]
      · rw [List.flatten_cons, List.mem_append] at hx
        rcases hx with hx | hx
        · exact h2 x hx
        · exact k x hx
section
variable {ds : List D} {n : Nat}
abbrev chP (ds : List D) : D := thePlay (.str "chain") (.tup ds)
theorem chM : MAN.contains ("chain" : Str) = false := by decide +kernel
theorem chL : eqD (.str "chain") (.str "levels") = some (.bl false) := by rw [eq_str_lit (by decide +kernel) (by decide +kernel), show (("chain" : Str) == ("levels" : Str)) = false from by decide +kernel]
theorem chN : eqD (.str "chain") (.str "names") = some (.bl false) := by rw [eq_str_lit (by decide +kernel) (by decide +kernel), show (("chain" : Str) == ("names" : Str)) = false from by decide +kernel]
theorem chR : eqD (.str "chain") (.str "near") = some (.bl false) := by rw [eq_str_lit (by decide +kernel) (by decide +kernel), show (("chain" : Str) == ("near" : Str)) = false from by decide +kernel]
theorem ch_first {i : D} : EX (f_first_in_seeing [chP ds, i]) (.tup [.non, .tup [.bl false]]) :=
  exf (N := 2) (exs_seq (exs_if0 (ext (ex_op (ex_1 (ex_v rfl) (fld_kind _ _)) ex_d chN)) exs_nx) (exs_seq (exs_if0 (ext (ex_op (ex_1 (ex_v rfl) (fld_kind _ _)) ex_d chR)) exs_nx) (exs_ret (ex_tup (ex_c ex_d (ex_c (ex_tup (ex_c ex_d ex_n)) ex_n))))))
theorem ch_step {cs s i r : D} (e : EX (f_step_in_chain [chP ds, cs, s, i]) r) : EX (f_step_of_hand [chP ds, cs, s, i]) r :=
  see_step chM chL (exf (N := 4) (exs_seq (exs_if0 (ext (ex_op (ex_1 (ex_v rfl) (fld_kind _ _)) ex_d chN)) exs_nx) (exs_seq (exs_if0 (ext (ex_op (ex_1 (ex_v rfl) (fld_kind _ _)) ex_d chR)) exs_nx) (exs_ret (ex_fn (ex_c (ex_v rfl) (ex_c (ex_v rfl) (ex_c (ex_v rfl) (ex_c (ex_v rfl) ex_n)))) e)))))
theorem ch_put {cells : List D} {i : Nat} {o : D} (ho : ds[i]? = some o) : EX (f_step_in_chain [chP ds, .tup cells, .tup [.bl false], .int (i : Nat)]) (.tup [o, .tup [.bl true], .tup []]) :=
  exf (N := 8) (exs_rt (exs_if1 (ext_not (b := false) (ext (ex_op (ex_v rfl) ex_d rfl))) (exs_ret (ex_tup (ex_c (ex_op (ex_1 (ex_v rfl) (fld_inputs _ _)) (ex_v rfl) (ix_nat ho)) (ex_c (ex_tup (ex_c ex_d ex_n)) (ex_c (ex_tup ex_n) ex_n)))))))
theorem ex_union {ρ : List En} {s l x : Nat} {d u : D} (h : ρ[s]? = some (.dt d)) (h1 : (ρ[l]?).isSome = true) (h2 : (ρ[x]?).isSome = true) (ne : l ≠ x) (e : unionD d = some u) : EX (cUnion s l x ρ) u := fun g => by
  simp [h, h1, h2, ne, e]
theorem ch_see {cells : List D} {i : Nat} {c : D} (hc : cells[i]? = some c) (hn : ∀ y ∈ cells, CC y) (hl : cells.length ≤ 100) :
    ∃ lot : List Int, EX (f_step_in_chain [chP ds, .tup cells, .tup [.bl true], .int (i : Nat)]) (.tup [c, .non, .tup [.tup (lot.map .int)]]) ∧ lot.length ≤ 20 ∧ ∀ x ∈ lot, 0 ≤ x ∧ x ≤ 19 := by
  obtain ⟨Ls, e, k⟩ := lots_ok hn
  have l20 := ed20 k
  have fl : (cells.filter fun c => !isNonB c).length ≤ cells.length := List.length_filter_le _ _
  refine ⟨sortSet Ls.flatten, ?_, by rw [sortSet_len]; exact l20, fun x hx => k x (mem_sortSet hx)⟩
  have eu : unionD (.lst (cells.filter fun c => !isNonB c)) = some (.lst ((sortSet Ls.flatten).map .int)) := by
    show (lotsOf (cells.filter fun c => !isNonB c)).bind _ = _
    rw [e]
    show (if _ then _ else _) = _
    rw [if_pos (by omega)]
  refine exf (N := 8) (exs_seq (exs_if0 (ext_not (b := true) (ext (ex_op (ex_v rfl) ex_d rfl))) exs_nx) (exs_seq (exs_asg (x := .lst (cells.filter fun c => !isNonB c)) (by
    have := ex_lc (fi := iS (cV 1)) (vs := [5]) (gs := gN 5) (ft := cT (cOp notND (cV 5) (cD .non))) (fe := cV 5) (ρ := [.dt (chP ds), .dt (.tup cells), .dt (.tup [.bl true]), .dt (.int (i : Nat)), .un, .un, .un, .un]) (exi_s (ex_v rfl) rfl) (exc_fil (p := fun c => !isNonB c) (F := id) fun d hd => ⟨_, rfl, ext (ex_op (ex_v rfl) ex_d (notND_non _)), ex_v rfl⟩) (by rw [List.length_map]; omega)
    rwa [List.map_id] at this) rfl) (exs_ret (ex_tup (ex_c (ex_op (ex_v rfl) (ex_v rfl) (ix_nat hc)) (ex_c ex_d (ex_c (ex_tup (ex_c (ex_call (ex_c (ex_union rfl rfl rfl (by decide) eu) ex_n) rfl) ex_n)) ex_n)))))))
end
/-- a hand of chains -/
structure CH (i : Nat) (c s t : D) : Prop where
  cell : CC c
  e : ∃ ts, t = .tup ts ∧ ts.length ≤ 1 ∧ (∀ x ∈ ts, sm [20, 6, 6] x = true) ∧ (s = .non ∨ (ts = [] ∧ ∃ b : Bool, s = .tup [.bl b]))
theorem ch_does {ds : List D} (n1 : 1 ≤ ds.length) (n5 : ds.length ≤ 5) (hv : ∀ i, i < ds.length → ∃ lot : List Int, ds[i]? = some (.tup (lot.map .int)) ∧ lot.length ≤ 20 ∧ ∀ x ∈ lot, 0 ≤ x ∧ x ≤ 19) : Does (chP ds) ds.length CH := by
  refine ⟨fun i hi => ⟨_, _, see_first chM chL ch_first, rfl, .inl rfl, [], rfl, by simp, by simp, .inr ⟨rfl, false, rfl⟩⟩, ?_, ?_⟩
  · intro cells states tolds i c s t G e1 e2 e3 H hs
    have cl := G.c
    have hi : i < ds.length := by rw [← cl]; exact (List.getElem?_eq_some_iff.mp e1).1
    obtain ⟨lot, eo, o0, o1⟩ := hv i hi
    obtain ⟨ts, rfl, h1, h2, h3⟩ := H.e
    have cx : ∀ y ∈ cells, CC y := fun y hy => by
      obtain ⟨j, hj⟩ := List.getElem?_of_mem hy
      obtain ⟨c', s', t', f1, f2, f3, f⟩ := G.at (i := j) (by rw [← cl]; exact (List.getElem?_eq_some_iff.mp hj).1)
      rw [hj] at f1; cases f1
      exact f.cell
    rcases h3 with rfl | ⟨rfl, b, rfl⟩
    · simp [isNonB] at hs
    · have ew := see_word (d := .tup ds) (i := .int (i : Nat)) chM chL (word_see (xs := [.bl b]) rfl)
      cases b with
      | false => exact ⟨_, _, [], [], _, rfl, ch_step (ch_put eo), ew, by simp, .inr ⟨lot, rfl, o0, o1⟩, [], rfl, by simp, by simp, .inr ⟨rfl, true, rfl⟩⟩
      | true =>
        obtain ⟨lot, e, l1, l2⟩ := ch_see (ds := ds) e1 cx (by omega)
        refine ⟨_, _, [], [.tup (lot.map .int)], _, rfl, ch_step e, ew, by simp, H.cell, _, rfl, by simp, fun x hx => ?_, .inl rfl⟩
        have : x = .tup (lot.map .int) := by simpa using hx
        rw [this]
        exact lot_sm l1 l2
  · intro i c s t H
    obtain ⟨ts, rfl, h1, h2, h3⟩ := H.e
    refine ⟨H.cell.sm, ?_, sm_tup.mpr ⟨by omega, h2⟩⟩
    rcases h3 with rfl | ⟨rfl, b, rfl⟩
    · exact sm_non
    · refine sm_tup.mpr ⟨by simp, fun x hx => ?_⟩
      simp only [List.mem_cons, List.not_mem_nil, or_false] at hx
      subst hx
      exact sm_bl
end Kk03
set_option Elab.async false
set_option linter.all false
set_option maxRecDepth 100000
set_option maxHeartbeats 1000000
namespace Kk03
open PySem L2 FD
/-! # plays of any kind, with the kind of each step and with how long a hand goes alone -/
def Word (w c c' t t' : D) : Prop := (w = .tup [.str "put"] ∧ t' = t) ∨ (c' = c ∧ ((∃ j : Nat, w = .tup [.str "look", .int (j : Nat)]) ∨ w = .tup [.str "see"]))
structure Does3 (P : D) (n : Nat) (Hv : Nat → D → D → D → Prop) (L : Nat → List D → D → Nat → Prop) : Prop where
  first : ∀ i, i < n → ∃ c s, EX (f_first_of_hand [P, .int (i : Nat)]) (.tup [c, s]) ∧ isNonB s = false ∧ Hv i c s (.tup [])
  step : ∀ cells states tolds (i : Nat) (c s t : D), GG n Hv cells states tolds → cells[i]? = some c → states[i]? = some s → tolds[i]? = some t → Hv i c s t → isNonB s = false →
    ∃ c' s' ts news w, t = .tup ts ∧ EX (f_step_of_hand [P, .tup cells, s, .int (i : Nat)]) (.tup [c', s', .tup news]) ∧ EX (f_word_of_step [P, s, .int (i : Nat)]) w ∧ ts.length + news.length ≤ 1000 ∧ Hv i c' s' (.tup (ts ++ news)) ∧
      Word w c c' (.tup ts) (.tup (ts ++ news)) ∧ ∀ v, L i cells s v → 1 ≤ v ∧ L i (cells.set i c') s' (v - 1)
  small : ∀ i c s t, Hv i c s t → sm [20, 20, 6, 6] c = true ∧ sm [20, 20, 6, 6] s = true ∧ sm [20, 20, 6, 6] t = true
  begin : ∀ cells states tolds (i : Nat) (s : D), GG n Hv cells states tolds → states[i]? = some s → L i cells s 120
  zero : ∀ cells states tolds (i : Nat) (s : D), GG n Hv cells states tolds → states[i]? = some s → L i cells s 0 → isNonB s = true
/-! ## levels -/
def lvM (n : Nat) : D → Nat
  | .tup [.int l, .non] => (l - 1).toNat * (n + 1)
  | .tup [.int l, .tup now] => (n - now.length) + (l - 1).toNat * (n + 1)
  | _ => 0
theorem lv_does3 {ds : List D} (n1 : 1 ≤ ds.length) (n5 : ds.length ≤ 5) (hv : ∀ i, i < ds.length → ∃ v : Int, ds[i]? = some (.int v) ∧ 0 ≤ v ∧ v ≤ 999) : Does3 (lvP ds) ds.length (LH ds.length) (fun _ _ s v => isNonB s = true ∨ lvM ds.length s ≤ v) := by
  have D0 := lv_does n1 n5 hv
  refine ⟨D0.first, ?_, D0.small, ?_, ?_⟩
  · intro cells states tolds i c s t G e1 e2 e3 H hs
    have cl := G.c
    have hi : i < ds.length := by rw [← cl]; exact (List.getElem?_eq_some_iff.mp e1).1
    obtain ⟨ts, rfl, h1, h2, h3⟩ := H.e
    rcases h3 with rfl | ⟨rfl, ⟨l, rfl, a1, a2⟩ | ⟨l, v, now, rfl, rfl, a1, a2, a3, a4, a5⟩⟩
    · simp [isNonB] at hs
    · obtain ⟨v, ev, v0, v1⟩ := hv i hi
      refine ⟨_, _, [], [], _, rfl, lv_step_of (lv_put ev), lv_word_of (lv_word_put _), by simp, ⟨.inr ⟨l - 1, v, rfl, by omega, by omega, v0, v1⟩, [], rfl, by simp, by simp, .inr ⟨rfl, .inr ⟨l - 1, v, [], rfl, rfl, by omega, by omega, by simp only [List.length_nil]; omega, by simp, by simp⟩⟩⟩, .inl ⟨rfl, rfl⟩, fun v hv => ?_⟩
      obtain ⟨m, hm⟩ : ∃ m : Nat, l = (m : Int) + 2 := ⟨(l - 2).toNat, by omega⟩
      subst hm
      have m1 : ((m : Int) + 2 - 1).toNat = m + 1 := by omega
      have m2 : ((m : Int) + 2 - 1 - 1).toNat = m := by omega
      rcases hv with h | h
      · simp [isNonB] at h
      · simp only [lvM, m1] at h
        rw [Nat.succ_mul] at h
        refine ⟨by omega, .inr ?_⟩
        simp only [lvM, m2, List.length_nil]
        omega
    · have hlt : now.length < cells.length := by omega
      have hx : cells[now.length]? = some cells[now.length] := List.getElem?_eq_getElem hlt
      generalize cells[now.length] = x at hx
      have cx : ∀ {j c}, cells[j]? = some c → LC ds.length c := fun {j c} hj => by
        obtain ⟨c', s', t', f1, f2, f3, f⟩ := G.at (i := j) (by rw [← cl]; exact (List.getElem?_eq_some_iff.mp hj).1)
        rw [hj] at f1; cases f1
        exact f.cell
      have hn : ∀ y ∈ now ++ [x], LC ds.length y := fun y hy => by
        rcases List.mem_append.mp hy with h | h
        · exact a4 y h
        · have : y = x := by simpa using h
          rw [this]; exact cx hx
      have own : i < (now ++ [x]).length → (now ++ [x])[i]? = some (.tup [.int l, .int v]) := fun h => by
        by_cases hj : i < now.length
        · rw [List.getElem?_append_left hj]; exact a5 hj
        · have : i = now.length := by simp at h; omega
          subst this
          rw [e1] at hx
          cases hx
          simp
      have e := lv_look (ds := ds) (i := i) (l := l) (now := now) hx e1 hn (by omega)
      have l2 : (now ++ [x]).length = now.length + 1 := by simp
      generalize now ++ [x] = now2 at e hn own l2
      refine ⟨_, _, [], _, _, rfl, lv_step_of e, lv_word_of (lv_word_look _ _), ?_, ⟨H.cell, ?_⟩, .inr ⟨rfl, .inl ⟨_, rfl⟩⟩, fun v hv => ?_⟩
      · unfold lvLook
        split
        · simp
        · split <;> simp
      · unfold lvLook
        by_cases b1 : now2.length < cells.length
        · rw [if_pos b1]
          exact ⟨[], rfl, by simp, by simp, .inr ⟨rfl, .inr ⟨l, v, now2, rfl, rfl, a1, a2, by omega, hn, own⟩⟩⟩
        · rw [if_neg b1]
          by_cases b2 : l ≤ ((belowD l now2).length : Int)
          · rw [if_pos b2]
            refine ⟨_, rfl, by simp, fun x hx => ?_, .inl rfl⟩
            have : x = .tup (belowD l now2) := by simpa using hx
            rw [this]
            exact below_sm hn (by omega)
          · rw [if_neg b2]
            have := below_one (own (by omega))
            exact ⟨[], rfl, by simp, by simp, .inr ⟨rfl, .inl ⟨l, rfl, by omega, by omega⟩⟩⟩
      · rcases hv with h | h
        · simp [isNonB] at h
        · simp only [lvM] at h
          refine ⟨by omega, ?_⟩
          unfold lvLook
          by_cases b1 : now2.length < cells.length
          · rw [if_pos b1]
            refine .inr ?_
            simp only [lvM]
            omega
          · rw [if_neg b1]
            by_cases b2 : l ≤ ((belowD l now2).length : Int)
            · rw [if_pos b2]
              exact .inl rfl
            · rw [if_neg b2]
              refine .inr ?_
              simp only [lvM]
              omega
  · intro cells states tolds i s G e2
    have hi : i < ds.length := by rw [← G.s]; exact (List.getElem?_eq_some_iff.mp e2).1
    obtain ⟨c, s', t, f1, f2, f3, H⟩ := G.at hi
    rw [e2] at f2; cases f2
    obtain ⟨ts, rfl, h1, h2, h3⟩ := H.e
    have mul : ∀ m : Nat, m ≤ 5 → m * (ds.length + 1) ≤ 30 := fun m hm => by
      have := Nat.mul_le_mul hm (show ds.length + 1 ≤ 6 by omega)
      omega
    rcases h3 with rfl | ⟨rfl, ⟨l, rfl, a1, a2⟩ | ⟨l, v, now, rfl, rfl, a1, a2, a3, a4, a5⟩⟩
    · exact .inl rfl
    · refine .inr ?_
      simp only [lvM]
      have := mul (l - 1).toNat (by omega)
      omega
    · refine .inr ?_
      simp only [lvM]
      have := mul (l - 1).toNat (by omega)
      omega
  · intro cells states tolds i s G e2 hz
    have hi : i < ds.length := by rw [← G.s]; exact (List.getElem?_eq_some_iff.mp e2).1
    obtain ⟨c, s', t, f1, f2, f3, H⟩ := G.at hi
    rw [e2] at f2; cases f2
    obtain ⟨ts, rfl, h1, h2, h3⟩ := H.e
    rcases h3 with rfl | ⟨rfl, ⟨l, rfl, a1, a2⟩ | ⟨l, v, now, rfl, rfl, a1, a2, a3, a4, a5⟩⟩
    · rfl
    · rcases hz with h | h
      · exact h
      · simp only [lvM] at h
        obtain ⟨m, hm⟩ : ∃ m : Nat, (l - 1).toNat = m + 1 := ⟨(l - 2).toNat, by omega⟩
        rw [hm, Nat.succ_mul] at h
        omega
    · rcases hz with h | h
      · exact h
      · simp only [lvM] at h
        omega
/-! ## near values -/
theorem nr_does3 {R : Int} {vs : List D} (r1 : 1 ≤ R) (r6 : R ≤ 6) (n1 : 1 ≤ vs.length) (n5 : vs.length ≤ 5) (hv : ∀ i, i < vs.length → ∃ v : Int, vs[i]? = some (.int v) ∧ -1000 ≤ v ∧ v ≤ 1000) :
    Does3 (nrP R vs) vs.length (RH R) (fun _ _ s v => isNonB s = true ∨ ∃ (a : Nat) (top : D) (b : Bool), s = .tup [.int (a : Nat), top, .bl b] ∧ 2 * (R - a) - (if b then 1 else 0) ≤ v) := by
  have D0 := nr_does r1 r6 n1 n5 hv
  refine ⟨D0.first, ?_, D0.small, ?_, ?_⟩
  · intro cells states tolds i c s t G e1 e2 e3 H hs
    have cl := G.c
    have hi : i < vs.length := by rw [← cl]; exact (List.getElem?_eq_some_iff.mp e1).1
    obtain ⟨tops, ts, rfl, h1, h2, rfl, h3, h4, h5⟩ := H.e
    have cx : ∀ y ∈ cells, RC y := fun y hy => by
      obtain ⟨j, hj⟩ := List.getElem?_of_mem hy
      obtain ⟨c', s', t', f1, f2, f3, f⟩ := G.at (i := j) (by rw [← cl]; exact (List.getElem?_eq_some_iff.mp hj).1)
      rw [hj] at f1; cases f1
      obtain ⟨tops, ts, rfl, k1, k2, _⟩ := f.e
      exact ⟨tops, rfl, k1, k2⟩
    rcases h5 with rfl | ⟨rfl, a, top, b, rfl, a1, a2, a3⟩
    · simp [isNonB] at hs
    · have ew := see_word (d := .tup [.int R, .tup vs]) (i := .int (i : Nat)) nrM nrL (word_see (xs := [.int (a : Nat), .int top, .bl b]) rfl)
      cases b with
      | false =>
        simp at a3
        refine ⟨_, _, [], [], _, rfl, nr_step (nr_put e1 (by rw [List.length_map]; omega)), ew, by simp, ⟨tops ++ [top], [], by simp, by simp; omega, fun r x hx => ?_, rfl, by simp, by simp, .inr ⟨rfl, a, top, true, rfl, a1, a2, by simp [a3]⟩⟩, .inl ⟨rfl, rfl⟩, fun v hv => ?_⟩
        · by_cases hr : r < tops.length
          · rw [List.getElem?_append_left hr] at hx
            exact h2 r x hx
          · have hr2 : r < (tops ++ [top]).length := (List.getElem?_eq_some_iff.mp hx).1
            have : r = tops.length := by simp at hr2; omega
            subst this
            simp at hx
            rw [← hx, a3]; exact a2
        · rcases hv with h | ⟨a', top', b', e, h⟩
          · simp [isNonB] at h
          · simp at e
            obtain ⟨ea, et, eb⟩ := e
            have : a' = a := by omega
            subst this
            subst eb
            simp at h
            refine ⟨by omega, .inr ⟨a', _, true, rfl, ?_⟩⟩
            simp
            omega
      | true =>
        simp at a3
        obtain ⟨t, e, ht⟩ := nr_see (R := R) (vs := vs) (a := a) (top := .int top) e1 rfl (by omega) cx (by omega)
        have left : ∀ v : Nat, (isNonB (D.tup [.int (a : Nat), .int top, .bl true]) = true ∨ ∃ (a' : Nat) (top' : D) (b' : Bool), D.tup [.int (a : Nat), .int top, .bl true] = .tup [.int (a' : Nat), top', .bl b'] ∧ 2 * (R - a') - (if b' then 1 else 0) ≤ v) → 2 * (R - a) - 1 ≤ v := fun v hv => by
          rcases hv with h | ⟨a', top', b', e, h⟩
          · simp [isNonB] at h
          · simp at e
            obtain ⟨ea, et, eb⟩ := e
            have : a' = a := by omega
            subst this
            subst eb
            simpa using h
        by_cases hr : (a : Int) + 1 = R
        · rw [if_pos hr] at e
          refine ⟨_, _, [], [.tup [.int t, .int R]], _, rfl, nr_step e, ew, by simp, ⟨tops, _, rfl, h1, h2, rfl, by simp, fun x hx => ?_, .inl rfl⟩, .inr ⟨rfl, .inr rfl⟩, fun v hv => ⟨by have := left v hv; omega, .inl rfl⟩⟩
          have : x = .tup [.int t, .int R] := by simpa using hx
          rw [this]
          refine sm_tup.mpr ⟨by simp, fun x hx => ?_⟩
          simp only [List.mem_cons, List.not_mem_nil, or_false] at hx
          have := pow_small (r := a + 1) (by omega)
          rcases hx with rfl | rfl <;> exact sm_int (by omega)
        · rw [if_neg hr] at e
          refine ⟨_, _, [], [], _, rfl, nr_step e, ew, by simp, ⟨tops, _, rfl, h1, h2, rfl, by simp, by simp, .inr ⟨rfl, a + 1, t, false, by simp, by omega, ht, by simp [a3]⟩⟩, .inr ⟨rfl, .inr rfl⟩, fun v hv => ?_⟩
          have := left v hv
          refine ⟨by omega, .inr ⟨a + 1, .int t, false, by simp, ?_⟩⟩
          simp
          omega
  · intro cells states tolds i s G e2
    have hi : i < vs.length := by rw [← G.s]; exact (List.getElem?_eq_some_iff.mp e2).1
    obtain ⟨c, s', t, f1, f2, f3, H⟩ := G.at hi
    rw [e2] at f2; cases f2
    obtain ⟨tops, ts, rfl, h1, h2, rfl, h3, h4, h5⟩ := H.e
    rcases h5 with rfl | ⟨rfl, a, top, b, rfl, a1, a2, a3⟩
    · exact .inl rfl
    · exact .inr ⟨a, _, b, rfl, by split <;> omega⟩
  · intro cells states tolds i s G e2 hz
    have hi : i < vs.length := by rw [← G.s]; exact (List.getElem?_eq_some_iff.mp e2).1
    obtain ⟨c, s', t, f1, f2, f3, H⟩ := G.at hi
    rw [e2] at f2; cases f2
    obtain ⟨tops, ts, rfl, h1, h2, rfl, h3, h4, h5⟩ := H.e
    rcases h5 with rfl | ⟨rfl, a, top, b, rfl, a1, a2, a3⟩
    · rfl
    · rcases hz with h | ⟨a', top', b', e, h⟩
      · exact h
      · simp at e
        obtain ⟨ea, et, eb⟩ := e
        have : a' = a := by omega
        subst this
        split at h <;> omega
/-! ## chains -/
theorem ch_does3 {ds : List D} (n1 : 1 ≤ ds.length) (n5 : ds.length ≤ 5) (hv : ∀ i, i < ds.length → ∃ lot : List Int, ds[i]? = some (.tup (lot.map .int)) ∧ lot.length ≤ 20 ∧ ∀ x ∈ lot, 0 ≤ x ∧ x ≤ 19) :
    Does3 (chP ds) ds.length CH (fun _ _ s v => isNonB s = true ∨ ∃ b : Bool, s = .tup [.bl b] ∧ (if b then 1 else 2) ≤ v) := by
  have D0 := ch_does n1 n5 hv
  refine ⟨D0.first, ?_, D0.small, ?_, ?_⟩
  · intro cells states tolds i c s t G e1 e2 e3 H hs
    have cl := G.c
    have hi : i < ds.length := by rw [← cl]; exact (List.getElem?_eq_some_iff.mp e1).1
    obtain ⟨lot, eo, o0, o1⟩ := hv i hi
    obtain ⟨ts, rfl, h1, h2, h3⟩ := H.e
    have cx : ∀ y ∈ cells, CC y := fun y hy => by
      obtain ⟨j, hj⟩ := List.getElem?_of_mem hy
      obtain ⟨c', s', t', f1, f2, f3, f⟩ := G.at (i := j) (by rw [← cl]; exact (List.getElem?_eq_some_iff.mp hj).1)
      rw [hj] at f1; cases f1
      exact f.cell
    rcases h3 with rfl | ⟨rfl, b, rfl⟩
    · simp [isNonB] at hs
    · have ew := see_word (d := .tup ds) (i := .int (i : Nat)) chM chL (word_see (xs := [.bl b]) rfl)
      cases b with
      | false =>
        refine ⟨_, _, [], [], _, rfl, ch_step (ch_put eo), ew, by simp, ⟨.inr ⟨lot, rfl, o0, o1⟩, [], rfl, by simp, by simp, .inr ⟨rfl, true, rfl⟩⟩, .inl ⟨rfl, rfl⟩, fun v hv => ?_⟩
        rcases hv with h | ⟨b, e, h⟩
        · simp [isNonB] at h
        · simp at e
          subst e
          simp at h
          exact ⟨by omega, .inr ⟨true, rfl, by simp; omega⟩⟩
      | true =>
        obtain ⟨lot, e, l1, l2⟩ := ch_see (ds := ds) e1 cx (by omega)
        refine ⟨_, _, [], [.tup (lot.map .int)], _, rfl, ch_step e, ew, by simp, ⟨H.cell, _, rfl, by simp, fun x hx => ?_, .inl rfl⟩, .inr ⟨rfl, .inr rfl⟩, fun v hv => ?_⟩
        · have : x = .tup (lot.map .int) := by simpa using hx
          rw [this]
          exact lot_sm l1 l2
        · rcases hv with h | ⟨b, e, h⟩
          · simp [isNonB] at h
          · simp at e
            subst e
            simp at h
            exact ⟨by omega, .inl rfl⟩
  · intro cells states tolds i s G e2
    have hi : i < ds.length := by rw [← G.s]; exact (List.getElem?_eq_some_iff.mp e2).1
    obtain ⟨c, s', t, f1, f2, f3, H⟩ := G.at hi
    rw [e2] at f2; cases f2
    obtain ⟨ts, rfl, h1, h2, h3⟩ := H.e
    rcases h3 with rfl | ⟨rfl, b, rfl⟩
    · exact .inl rfl
    · exact .inr ⟨b, rfl, by split <;> omega⟩
  · intro cells states tolds i s G e2 hz
    rcases hz with h | ⟨b, e, h⟩
    · exact h
    · split at h <;> omega
end Kk03
set_option Elab.async false
set_option linter.all false
set_option maxRecDepth 100000
set_option maxHeartbeats 1000000
namespace Kk03
open PySem L2 FD
/-! ## names -/
theorem free_while2 (ts : List Int) : ∀ (N : Nat) (r m : Int) (K : Nat), 0 ≤ r → r.toNat + above m ts ≤ K → K < N →
    ∃ m', EX (whileN (cT (cOp gtD (cV 0) (cD (.int 0)))) (sSeq (sAug 2 false (cD (.int 1))) (sIf (cT (cOp notInD (cV 2) (cV 1))) (sAug 0 true (cD (.int 1))) sNx)) N [.dt (.int r), .dt (.lst (ts.map .int)), .dt (.int m)]) (.nx [.dt (.int 0), .dt (.lst (ts.map .int)), .dt (.int m')]) ∧ m ≤ m' ∧ m' ≤ m + r + (above m ts : Int) ∧ (r = 0 → m' = m) ∧ (0 < r → m < m' ∧ m' ∉ ts)
  | 0, _, _, _, _, _, h => by omega
  | N + 1, r, m, K, h0, hK, hN => by
    by_cases hr : 0 < r
    · have c0 : EX (cT (cOp gtD (cV 0) (cD (.int 0))) [.dt (.int r), .dt (.lst (ts.map .int)), .dt (.int m)]) true := by
        have := ext (ex_op (ρ := [.dt (.int r), .dt (.lst (ts.map .int)), .dt (.int m)]) (ex_v (i := 0) rfl) (ex_d (d := .int 0)) (gtD_int r 0))
        rwa [decide_eq_true hr] at this
      have a1 := exs_aug (ρ := [.dt (.int r), .dt (.lst (ts.map .int)), .dt (.int m)]) (i := 2) (sub := false) rfl (ex_d (d := .int 1)) rfl
      have c2 := ext (ex_op (ρ := [.dt (.int r), .dt (.lst (ts.map .int)), .dt (.int (m + 1))]) (ex_v (i := 2) rfl) (ex_v (i := 1) rfl) (notInD_intsL (m + 1) ts))
      by_cases hm : m + 1 ∈ ts
      · have e2 : ts.contains (m + 1) = true := by simpa using hm
        rw [e2] at c2
        have al := above_lt m ts hm
        obtain ⟨m', e, q1, q2, q3, q4⟩ := free_while2 ts N r (m + 1) (K - 1) h0 (by omega) (by omega)
        refine ⟨m', fun g => ?_, by omega, by omega, by omega, fun h => ⟨by have := (q4 h).1; omega, (q4 h).2⟩⟩
        have b := (exs_seq a1 (exs_if0 (a := sAug 0 true (cD (.int 1))) c2 exs_nx)) g
        have c0g := c0 g
        unfold whileN
        rw [c0g]
        simp only [b]
        exact e g
      · have e2 : ts.contains (m + 1) = false := by simpa using hm
        rw [e2] at c2
        have al := above_le m ts
        obtain ⟨m', e, q1, q2, q3, q4⟩ := free_while2 ts N (r - 1) (m + 1) (K - 1) (by omega) (by omega) (by omega)
        refine ⟨m', fun g => ?_, by omega, by omega, by omega, fun _ => ?_⟩
        · have b := (exs_seq a1 (exs_if1 (b := sNx) c2 (exs_aug (ρ := [.dt (.int r), .dt (.lst (ts.map .int)), .dt (.int (m + 1))]) (i := 0) (sub := true) rfl (ex_d (d := .int 1)) rfl))) g
          have c0g := c0 g
          unfold whileN
          rw [c0g]
          simp only [b]
          exact e g
        · by_cases z : r - 1 = 0
          · have := q3 z
            subst this
            exact ⟨by omega, hm⟩
          · have := q4 (by omega)
            exact ⟨by omega, this.2⟩
    · have z : r = 0 := by omega
      subst z
      refine ⟨m, fun g => ?_, by omega, by omega, fun _ => rfl, by omega⟩
      rfl
theorem free_eq2 {r : Int} {ts : List Int} (h0 : 0 ≤ r) (h1 : r ≤ 400) (h2 : ts.length ≤ 400) : ∃ m : Int, EX (f_free_number [.int r, .lst (ts.map .int)]) (.int m) ∧ 0 ≤ m ∧ m ≤ r + (ts.length : Int) ∧ (0 < r → m ∉ ts) := by
  have al : above 0 ts ≤ ts.length := List.length_filter_le _ _
  obtain ⟨m, e, q1, q2, q3, q4⟩ := free_while2 ts 1000 r 0 (r.toNat + above 0 ts) h0 (Nat.le_refl _) (by omega)
  exact ⟨m, exf (N := 3) (exs_seq (exs_asg ex_d rfl) (exs_seq e (exs_ret (ex_v rfl)))), q1, by omega, fun h => (q4 h).2⟩
theorem mem_taken {i : Nat} {cs : List D} {d : D} : d ∈ takenD i cs ↔ ∃ (j : Nat) (c : D), cs[j]? = some c ∧ j ≠ i ∧ isNonB c = false ∧ d = wishF (.tup [.int (j : Nat), c]) := by
  constructor
  · intro h
    obtain ⟨e, he, rfl⟩ := List.mem_map.mp h
    obtain ⟨h1, h2⟩ := List.mem_filter.mp he
    obtain ⟨j, c, rfl, hc⟩ := mem_enumL h1
    simp only [oth, Bool.and_eq_true, Bool.not_eq_true', beq_eq_false_iff_ne, ne_eq] at h2
    exact ⟨j, c, hc, fun z => h2.1 (by rw [z]), h2.2, rfl⟩
  · rintro ⟨j, c, hc, hj, hn, rfl⟩
    refine List.mem_map.mpr ⟨_, List.mem_filter.mpr ⟨at_enumL hc, ?_⟩, rfl⟩
    simp only [oth, hn, Bool.not_false, Bool.and_true, Bool.not_eq_true', beq_eq_false_iff_ne, ne_eq]
    intro z
    exact hj (by omega)
theorem taken_set {i : Nat} {cs : List D} {c d : D} (h : d ∉ takenD i cs) : d ∉ takenD i (cs.set i c) := fun z => by
  obtain ⟨j, c', hc, hj, hn, e⟩ := mem_taken.mp z
  rw [List.getElem?_set_ne (Ne.symm hj)] at hc
  exact h (mem_taken.mpr ⟨j, c', hc, hj, hn, e⟩)
section
variable {ds : List D} {n : Nat}
theorem nm_see2 {cells : List D} {i : Nat} {w o : Int} {c : D} (ho : ds[i]? = some (.int o)) (hc : cells[i]? = some c) (hown : ∃ w', c = .tup [.int o, w']) (hn : ∀ y ∈ cells, NC y) (hl : cells.length ≤ 100) :
    ∃ s ts, EX (f_step_in_names [nmP ds, .tup cells, .tup [.int w, .bl true], .int (i : Nat)]) (.tup [c, s, .tup ts]) ∧ ((s = .non ∧ ts = [.int w]) ∨ ∃ m : Int, D.int w ∈ takenD i cells ∧ s = .tup [.int m, .bl false] ∧ ts = [] ∧ 0 ≤ m ∧ m ≤ 2 * (cells.length : Int) ∧ D.int m ∉ takenD i cells) := by
  obtain ⟨ts, et⟩ := taken_ints (i := i) hn
  have tl := taken_len i cells
  have inT : ∀ z : Int, D.int z ∈ takenD i cells ↔ z ∈ ts := fun z => by
    rw [et]
    simp
  have pre : ∀ {f : Fl}, EX ((sSeq (sIf (cT (cOp notInD (cV 6) (cV 4))) (sRet (cTup (cC (cOp ixD (cV 1) (cV 3)) (cC (cD .non) (cC (cTup (cC (cV 6) cN)) cN))))) sNx) (sSeq (sAsg (cCall lenD (cC (cLc (iS (cV 1)) [9] (gN 9) (cAnd (cT (cOp notND (cV 9) (cD .non))) (cT (cOp leD (cOp ixD (cV 9) (cD (.int 0))) (cOp ixD (c1 (fldD "inputs") (cV 0)) (cV 3))))) (cV 9)) cN)) (gN 5)) (sRet (cTup (cC (cOp ixD (cV 1) (cV 3)) (cC (cTup (cC (cFn 2 f_free_number (cC (cV 5) (cC (cV 4) cN))) (cC (cD (.bl false)) cN))) (cC (cTup cN) cN))))))) [.dt (nmP ds), .dt (.tup cells), .dt (.tup [.int w, .bl true]), .dt (.int (i : Nat)), .dt (.lst (takenD i cells)), .un, .dt (.int w), .dt (.bl true), .un, .un]) f → EX (b_step_in_names ([.dt (nmP ds), .dt (.tup cells), .dt (.tup [.int w, .bl true]), .dt (.int (i : Nat))] ++ List.replicate 6 .un)) f := fun {f} h => by
    refine exs_seq (exs_asg (ex_v rfl) rfl) (exs_seq (exs_if0 (ext_not (b := true) (ext (ex_v rfl))) exs_nx) (exs_seq (exs_asg (x := .lst (takenD i cells)) (ex_lc (exi_e (ex_c (ex_v rfl) ex_n) rfl) (exc_fil2 (p := oth i) (F := wishF) fun d hd => ?_) (show (takenD i cells).length ≤ 1000 by omega)) rfl) h))
    obtain ⟨j, x, rfl, hx⟩ := mem_enumL hd
    have c1 : ∀ ρ : List En, ρ[8]? = some (.dt (.int (j : Nat))) → ρ[3]? = some (.dt (.int (i : Nat))) → EX (cT (cOp neD (cV 8) (cV 3)) ρ) (!(((j : Nat) : Int) == ((i : Nat) : Int))) := fun ρ h1 h2 => ext (ex_op (ex_v h1) (ex_v h2) (neD_int _ _))
    refine ⟨_, rfl, ?_, ?_⟩
    · show EX _ (!(((j : Nat) : Int) == ((i : Nat) : Int)) && !isNonB x)
      have c1 := c1 (((blkE [.dt (nmP ds), .dt (.tup cells), .dt (.tup [.int w, .bl true]), .dt (.int (i : Nat)), .un, .un, .dt (.int w), .dt (.bl true), .un, .un] [8, 9]).set 8 (.dt (.int (j : Nat)))).set 9 (.dt x)) rfl rfl
      cases hb : (!(((j : Nat) : Int) == ((i : Nat) : Int))) with
      | false =>
        rw [hb] at c1
        exact ext_and0 c1
      | true =>
        rw [hb] at c1
        exact ext_and1 c1 (ext (ex_op (ex_v rfl) ex_d (notND_non _)))
    · intro hp
      rcases hn x (List.mem_of_getElem? hx) with rfl | ⟨o, w, rfl, _⟩
      · simp [oth, isNonB] at hp
      · exact ex_op (ex_v rfl) ex_d rfl
  have cw : EX (cT (cOp notInD (cV 6) (cV 4)) [.dt (nmP ds), .dt (.tup cells), .dt (.tup [.int w, .bl true]), .dt (.int (i : Nat)), .dt (.lst (takenD i cells)), .un, .dt (.int w), .dt (.bl true), .un, .un]) (!ts.contains w) := ext (ex_op (ex_v rfl) (ex_v rfl) (by rw [et]; exact notInD_intsL w ts))
  cases hw : (!ts.contains w) with
  | true =>
    rw [hw] at cw
    exact ⟨.non, [.int w], exf (N := 10) (pre (exs_rt (exs_if1 cw (exs_ret (ex_tup (ex_c (ex_op (ex_v rfl) (ex_v rfl) (ix_nat hc)) (ex_c ex_d (ex_c (ex_tup (ex_c (ex_v rfl) ex_n)) ex_n)))))))), .inl ⟨rfl, rfl⟩⟩
  | false =>
    rw [hw] at cw
    have rl : (cells.filter (oldB o)).length ≤ cells.length := List.length_filter_le _ _
    have rp : 0 < (cells.filter (oldB o)).length := by
      obtain ⟨w', rfl⟩ := hown
      exact List.length_pos_of_mem (List.mem_filter.mpr ⟨List.mem_of_getElem? hc, by simp [oldB]⟩)
    have tl2 : ts.length ≤ cells.length := by rw [et] at tl; simpa using tl
    obtain ⟨m, e, m0, m1, m2⟩ := free_eq2 (r := (((cells.filter (oldB o)).length : Nat) : Int)) (ts := ts) (by omega) (by omega) (by omega)
    refine ⟨.tup [.int m, .bl false], [], exf (N := 10) (pre (exs_seq (exs_if0 cw exs_nx) (exs_seq (exs_asg (x := .int (((cells.filter (oldB o)).length : Nat) : Int)) (ex_call (ex_c (ex_lc (exi_s (ex_v rfl) rfl) (exc_fil2 (p := oldB o) (F := id) fun d hd => ?_) (by rw [List.length_map]; omega)) ex_n) (by rw [List.map_id]; rfl)) rfl) (exs_ret (ex_tup (ex_c (ex_op (ex_v rfl) (ex_v rfl) (ix_nat hc)) (ex_c (ex_tup (ex_c (ex_fn (ex_c (ex_v rfl) (ex_c (ex_v rfl) ex_n)) (by rw [et]; exact e)) (ex_c ex_d ex_n))) (ex_c (ex_tup ex_n) ex_n)))))))), .inr ⟨m, (inT w).mpr (by simpa using hw), rfl, rfl, m0, by omega, fun z => m2 (by omega) ((inT m).mp z)⟩⟩
    refine ⟨_, rfl, ?_, fun _ => ex_v rfl⟩
    rcases hn d hd with rfl | ⟨a, v, rfl, _⟩
    · exact ext_and0 (ext (ex_op (ex_v rfl) ex_d (notND_non _)))
    · exact ext_and1 (ext (ex_op (ex_v rfl) ex_d (notND_non _))) (ext (ex_op (ex_op (ex_v rfl) ex_d rfl) (ex_op (ex_1 (ex_v rfl) (fld_inputs _ _)) (ex_v rfl) (ix_nat ho)) (leD_int _ _)))
end
def NH2 (ds : List D) (i : Nat) (c s t : D) : Prop := NH i c s t ∧ ∀ w, s = .tup [w, .bl true] → ∃ (o : Int) (w' : D), ds[i]? = some (.int o) ∧ c = .tup [.int o, w']
def nmL3 (i : Nat) (cells : List D) (s : D) (v : Nat) : Prop := isNonB s = true ∨ ∃ (w : Int) (b : Bool), s = .tup [.int w, .bl b] ∧ ((D.int w ∉ takenD i cells ∧ (if b then 1 else 2) ≤ v) ∨ (if b then 3 else 4) ≤ v)
theorem nm_does3 {ds : List D} (n1 : 1 ≤ ds.length) (n5 : ds.length ≤ 5) (hv : ∀ i, i < ds.length → ∃ v : Int, ds[i]? = some (.int v) ∧ 0 ≤ v ∧ v ≤ 999) : Does3 (nmP ds) ds.length (NH2 ds) nmL3 := by
  refine ⟨fun i hi => ⟨_, _, see_first nmM nmL nm_first, rfl, ⟨.inl rfl, [], rfl, by simp, by simp, .inr ⟨rfl, 1, false, rfl, by omega, by omega⟩⟩, fun w h => by simp at h⟩, ?_, ?_, ?_, ?_⟩
  · intro cells states tolds i c s t G e1 e2 e3 H hs
    have cl := G.c
    have hi : i < ds.length := by rw [← cl]; exact (List.getElem?_eq_some_iff.mp e1).1
    obtain ⟨o, eo, o0, o1⟩ := hv i hi
    obtain ⟨ts, rfl, h1, h2, h3⟩ := H.1.e
    have cx : ∀ y ∈ cells, NC y := fun y hy => by
      obtain ⟨j, hj⟩ := List.getElem?_of_mem hy
      obtain ⟨c', s', t', f1, f2, f3, f⟩ := G.at (i := j) (by rw [← cl]; exact (List.getElem?_eq_some_iff.mp hj).1)
      rw [hj] at f1; cases f1
      exact f.1.cell
    rcases h3 with rfl | ⟨rfl, w, b, rfl, a1, a2⟩
    · simp [isNonB] at hs
    · have ew := see_word (d := .tup ds) (i := .int (i : Nat)) nmM nmL (word_see (xs := [.int w, .bl b]) rfl)
      cases b with
      | false =>
        refine ⟨_, _, [], [], _, rfl, nm_step (nm_put eo), ew, by simp, ⟨⟨.inr ⟨o, w, rfl, o0, o1, a1, a2⟩, [], rfl, by simp, by simp, .inr ⟨rfl, w, true, rfl, a1, a2⟩⟩, fun w' _ => ⟨o, _, eo, rfl⟩⟩, .inl ⟨rfl, rfl⟩, fun v hv => ?_⟩
        rcases hv with h | ⟨w', b', e, h⟩
        · simp [isNonB] at h
        · simp at e
          obtain ⟨rfl, rfl⟩ := e
          simp at h
          rcases h with ⟨h1, h2⟩ | h
          · exact ⟨by omega, .inr ⟨w, true, rfl, .inl ⟨taken_set h1, by simp; omega⟩⟩⟩
          · exact ⟨by omega, .inr ⟨w, true, rfl, .inr (by simp; omega)⟩⟩
      | true =>
        obtain ⟨o', w', eo', ec⟩ := H.2 _ rfl
        rw [eo] at eo'
        cases eo'
        obtain ⟨s', news, e, q⟩ := nm_see2 (ds := ds) (w := w) eo e1 ⟨w', ec⟩ cx (by omega)
        have left : ∀ v : Nat, nmL3 i cells (.tup [.int w, .bl true]) v → 1 ≤ v ∧ (D.int w ∈ takenD i cells → 3 ≤ v) := fun v hv => by
          rcases hv with h | ⟨w', b', e, h⟩
          · simp [isNonB] at h
          · simp at e
            obtain ⟨rfl, rfl⟩ := e
            simp at h
            rcases h with ⟨h1, h2⟩ | h
            · exact ⟨h2, fun z => absurd z h1⟩
            · exact ⟨by omega, fun _ => h⟩
        refine ⟨_, s', [], news, _, rfl, nm_step e, ew, ?_, ⟨⟨H.1.cell, ?_⟩, ?_⟩, .inr ⟨rfl, .inr rfl⟩, fun v hv => ?_⟩
        · rcases q with ⟨_, rfl⟩ | ⟨m, _, _, rfl, _⟩ <;> simp
        · rcases q with ⟨rfl, rfl⟩ | ⟨m, _, rfl, rfl, m0, m1, _⟩
          · exact ⟨_, rfl, by simp, fun x hx => by
              have : x = .int w := by simpa using hx
              rw [this]; exact sm_int (by omega), .inl rfl⟩
          · exact ⟨_, rfl, by simp, by simp, .inr ⟨rfl, m, false, rfl, m0, by omega⟩⟩
        · rcases q with ⟨rfl, rfl⟩ | ⟨m, _, rfl, rfl, m0, m1, _⟩
          · intro w h; cases h
          · intro w h; simp at h
        · obtain ⟨l1, l2⟩ := left v hv
          rcases q with ⟨rfl, rfl⟩ | ⟨m, mw, rfl, rfl, m0, m1, mf⟩
          · exact ⟨l1, .inl rfl⟩
          · have := l2 mw
            exact ⟨l1, .inr ⟨m, false, rfl, .inl ⟨taken_set mf, by simp; omega⟩⟩⟩
  · intro i c s t H
    obtain ⟨ts, rfl, h1, h2, h3⟩ := H.1.e
    refine ⟨H.1.cell.sm, ?_, sm_tup.mpr ⟨by omega, h2⟩⟩
    rcases h3 with rfl | ⟨rfl, w, b, rfl, a1, a2⟩
    · exact sm_non
    · refine sm_tup.mpr ⟨by simp, fun x hx => ?_⟩
      simp only [List.mem_cons, List.not_mem_nil, or_false] at hx
      rcases hx with rfl | rfl
      · exact sm_int (by omega)
      · exact sm_bl
  · intro cells states tolds i s G e2
    have hi : i < ds.length := by rw [← G.s]; exact (List.getElem?_eq_some_iff.mp e2).1
    obtain ⟨c, s', t, f1, f2, f3, H⟩ := G.at hi
    rw [e2] at f2; cases f2
    obtain ⟨ts, rfl, h1, h2, h3⟩ := H.1.e
    rcases h3 with rfl | ⟨rfl, w, b, rfl, a1, a2⟩
    · exact .inl rfl
    · exact .inr ⟨w, b, rfl, .inr (by split <;> omega)⟩
  · intro cells states tolds i s G e2 hz
    rcases hz with h | ⟨w, b, e, h⟩
    · exact h
    · rcases h with ⟨_, h⟩ | h <;> split at h <;> omega
end Kk03
set_option Elab.async false
set_option linter.all false
set_option maxRecDepth 100000
set_option maxHeartbeats 2000000
namespace Kk03
open PySem L2 FD
def Rest (n : Nat) (ss cells : List D) (k : Str) (o : Option Int) (done : Nat) (last : D) (now : List D) (ready : D) (v : Nat) : Prop :=
  (putsB k o ready = true ∧ (ss.length - done - 1) * (3 * n + 1) + 1 ≤ v) ∨
  (putsB k o ready = false ∧ ∃ q : Nat, (q = 0 ∨ (q = 1 ∧ ∀ (c : Nat) (x : D), now[c]? = some x → cells[c]? = some x) ∨ (q = 2 ∧ (∀ (c : Nat) (x : D), now[c]? = some x → cells[c]? = some x) ∧ last = .tup (cells.map numD))) ∧
    (ss.length - done - 1) * (3 * n + 1) + ((3 - q) * n - now.length) + (if o.isSome = true then 1 else 0) ≤ v)
/-- what is left for a hand to do -/
def Left (n : Nat) (ss cells : List D) (k : Str) (v : Nat) (s : D) : Prop := s = .non ∨ ∃ (done : Nat) (o : Option Int) (first last : D) (now : List D) (ready : D), s = stD done first last now ready ∧ ss[done]? = some (deedD o) ∧ now.length < n ∧ Rest n ss cells k o done last now ready v
theorem left_ahead {n : Nat} {ss cells : List D} {k : Str} {v done : Nat} (h6 : ∀ e ∈ ss, ∃ o, e = deedD o ∧ ∀ w, o = some w → 0 ≤ w ∧ w ≤ 999) (hd : done < ss.length) (hn : 1 ≤ n) (hv : (ss.length - done - 1) * (3 * n + 1) + 1 ≤ v) : Left n ss cells k (v - 1) (aheadD ss ((done : Int) + 1)) := by
  unfold aheadD
  by_cases z : (done : Int) + 1 = (ss.length : Int)
  · rw [if_pos z]; exact .inl rfl
  · rw [if_neg z]
    have hd2 : done + 1 < ss.length := by omega
    have e1 : ss[done + 1]? = some (ss[done + 1]'hd2) := List.getElem?_eq_getElem _
    obtain ⟨o2, ho2, _⟩ := h6 _ (List.mem_of_getElem? e1)
    rw [ho2] at e1
    obtain ⟨M, hM⟩ : ∃ M, ss.length = done + 2 + M := ⟨ss.length - done - 2, by omega⟩
    have m1 : ss.length - done - 1 = M + 1 := by omega
    have m2 : ss.length - (done + 1) - 1 = M := by omega
    rw [m1, Nat.succ_mul] at hv
    refine .inr ⟨done + 1, o2, .non, .non, [], .non, ?_, e1, (show 0 < n by omega), ?_⟩
    · unfold fresh stD
      rw [show (((done + 1 : Nat)) : Int) = (done : Int) + 1 by omega]
    · unfold Rest
      rw [m2]
      cases hp : putsB k o2 .non with
      | true => exact .inl ⟨rfl, by omega⟩
      | false =>
        refine .inr ⟨rfl, 1, .inr (.inl ⟨rfl, fun c x h => by simp at h⟩), ?_⟩
        have : (if o2.isSome = true then 1 else 0) ≤ 1 := by split <;> omega
        have e0 : ([] : List D).length = 0 := rfl
        omega
section
variable {k : Str} {ds ss cells states tolds : List D} {i done : Nat} {o : Option Int} {first last : D} {now : List D} {ready x cell : D} {ts : List D}
theorem left_step (P : Stp k ds i ss done o cells states tolds first last now ready x cell ts) (h6 : ∀ e ∈ ss, ∃ o, e = deedD o ∧ ∀ w, o = some w → 0 ≤ w ∧ w ≤ 999) {v : Nat} (R : Rest ds.length ss cells k o done last now ready v) :
    1 ≤ v ∧ Left ds.length ss (cells.set i (nextD k ss done o first last now ready cell x cells.length).1) k (v - 1) (nextD k ss done o first last now ready cell x cells.length).2.1 := by
  have hn : cells.length = ds.length := P.S.n4.symm
  have nl := P.G.n1
  have hd := P.G.d
  have n1 := P.I.n1
  rcases R with ⟨hp, hv⟩ | ⟨hp, q, hq, hv⟩
  · refine ⟨by omega, ?_⟩
    have e : (nextD k ss done o first last now ready cell x cells.length).2.1 = aheadD ss ((done : Int) + 1) := by
      unfold nextD; rw [if_pos hp]
    rw [e]
    exact left_ahead h6 hd n1 hv
  · have e1 : (nextD k ss done o first last now ready cell x cells.length).1 = cell := by unfold nextD; rw [hp]; rfl
    have e2 : (nextD k ss done o first last now ready cell x cells.length).2.1 = (lookD k ss done o first last (now ++ [x]) ready ds.length).1 := by unfold nextD; rw [hp, hn]; rfl
    rw [e1, e2, set_same P.S.cell_]
    have hx : cells[now.length]? = some x := P.S.hx
    have more : (∀ (c : Nat) (y : D), now[c]? = some y → cells[c]? = some y) → ∀ (c : Nat) (y : D), (now ++ [x])[c]? = some y → cells[c]? = some y := fun h c y hy => by
      by_cases hc : c < now.length
      · rw [List.getElem?_append_left hc] at hy; exact h c y hy
      · rw [List.getElem?_append_right (by omega)] at hy
        have hc2 : c = now.length := by
          have := (List.getElem?_eq_some_iff.mp hy).1
          simp at this
          omega
        subst hc2
        simp at hy
        subst hy
        exact hx
    generalize hD : (ss.length - done - 1) * (3 * ds.length + 1) = Dv at hv
    have hq2 : q ≤ 2 := by rcases hq with h | ⟨h, _⟩ | ⟨h, _⟩ <;> omega
    have q3 : ds.length ≤ (3 - q) * ds.length := by
      rcases hq with h | ⟨h, _⟩ | ⟨h, _⟩ <;> subst h <;> omega
    unfold lookD
    by_cases h1 : (now ++ [x]).length < ds.length
    · rw [if_pos h1]
      have l1 : (now ++ [x]).length = now.length + 1 := by simp
      refine ⟨by omega, .inr ⟨done, o, first, last, now ++ [x], ready, rfl, P.S.A.hd, h1, .inr ⟨hp, q, ?_, ?_⟩⟩⟩
      · rcases hq with h | ⟨h, hc⟩ | ⟨h, hc, hl⟩
        · exact .inl h
        · exact .inr (.inl ⟨h, more hc⟩)
        · exact .inr (.inr ⟨h, more hc, hl⟩)
      · rw [hD, l1]
        omega
    · rw [if_neg h1]
      have len2 : now.length + 1 = ds.length := by simp at h1; omega
      have whole : (∀ (c : Nat) (y : D), now[c]? = some y → cells[c]? = some y) → now ++ [x] = cells := fun h => by
        apply List.ext_getElem?
        intro c
        by_cases hc : c < ds.length
        · have e3 : (now ++ [x])[c]? = some ((now ++ [x])[c]'(by simp; omega)) := List.getElem?_eq_getElem _
          rw [e3, more h c _ e3]
        · rw [List.getElem?_eq_none (by simp; omega), List.getElem?_eq_none (by omega)]
      by_cases h3 : isNonB (seenD k first last (now ++ [x])) = true
      · rw [if_pos h3]
        rcases hq with h | ⟨h, hc⟩ | ⟨h, hc, hl⟩
        · subst h
          refine ⟨by omega, .inr ⟨done, o, _, _, [], ready, rfl, P.S.A.hd, (show 0 < ds.length by omega), .inr ⟨hp, 1, .inr (.inl ⟨rfl, fun c y hy => by simp at hy⟩), ?_⟩⟩⟩
          rw [hD]
          have e0 : ([] : List D).length = 0 := rfl
          omega
        · subst h
          refine ⟨by omega, .inr ⟨done, o, _, _, [], ready, rfl, P.S.A.hd, (show 0 < ds.length by omega), .inr ⟨hp, 2, .inr (.inr ⟨rfl, fun c y hy => by simp at hy, by rw [whole hc]⟩), ?_⟩⟩⟩
          rw [hD]
          have e0 : ([] : List D).length = 0 := rfl
          omega
        · exfalso
          have : seenD k first last (now ++ [x]) = .tup ((now ++ [x]).map pairD) := by
            unfold seenD
            rw [if_pos (.inr (by rw [hl, whole hc]))]
          rw [this] at h3
          simp [isNonB] at h3
      · rw [if_neg h3]
        by_cases h4 : o.isSome = true
        · rw [if_pos h4]
          rw [if_pos h4] at hv
          refine ⟨by omega, .inr ⟨done, o, .non, .non, [], _, rfl, P.S.A.hd, (show 0 < ds.length by omega), .inl ⟨?_, ?_⟩⟩⟩
          · have h3' : isNonB (seenD k first last (now ++ [x])) = false := by simpa using h3
            unfold putsB
            rw [h4, h3']
            simp
          · rw [hD]; omega
        · rw [if_neg h4]
          refine ⟨by omega, left_ahead h6 hd n1 ?_⟩
          rw [hD]; omega
end
theorem exs_app {ρ : List En} {i : Nat} {a : FE} {xs : List D} {y : D} (hi : ρ[i]? = some (.own xs)) (hl : xs.length ≤ 1000) (ha : EX (a ρ) y) : EX (sApp i a ρ) (.nx (ρ.set i (.own (xs ++ [y])))) := fun g => by
  simp only [sApp, hi, ha g, M.bd]
  exact if_pos hl
theorem exs_own {ρ : List En} {i : Nat} : EX (sOwn i ρ) (.nx (ρ.set i (.own []))) := fun g => rfl
theorem exs_ownL {ρ : List En} {i : Nat} {a : FA} {xs : List D} (ha : EX (a ρ) xs) (hl : xs.length ≤ 1000 := by simp) : EX (sOwnL i a ρ) (.nx (ρ.set i (.own xs))) := fun g => by
  simp only [sOwnL, ha g, M.bd]
  exact if_pos hl
theorem exs_frz {ρ : List En} {i : Nat} {b : FS} {xs : List D} {f : Fl} (hi : ρ[i]? = some (.own xs)) (hb : EX (b (ρ.set i (.dt (.lst xs)))) f) : EX (sFrz i b ρ) f := fun g => by
  simp only [sFrz, hi]
  exact hb g
theorem same_loop {F : List D → Gh → M D} {g : Gh} {d : En} : ∀ (xs : List D) (a b : En), (∀ x ∈ xs, F [x, x] g = some (.ok (.bl true) g)) → ∃ a' b', loopD (gT 2 (gsC (gN 2) (gsC (gN 3) gsN))) (sameBody F) (xs.map fun x => D.tup [x, x]) [d, d, a, b] g = some (.ok (.nx [d, d, a', b']) g)
  | [], a, b, _ => ⟨a, b, rfl⟩
  | x :: xs, a, b, h => by
    obtain ⟨a', b', e⟩ := same_loop (g := g) (d := d) xs (.dt x) (.dt x) fun y hy => h y (by simp [hy])
    refine ⟨a', b', ?_⟩
    have hx := h x (by simp)
    rw [← e]
    simp [loopD, hx]
theorem same_refl {n : Nat} : ∀ {d : D}, plain n d = true → ∀ g, f_law_same_at n [d, d] g = some (.ok (.bl true) g) := by
  induction n with
  | zero => intro d h; simp [plain] at h
  | succ n ih =>
    intro d h g
    cases d with
    | non => simp [f_law_same_at, b_law_same, fnOf, sSeq, isNonB]
    | bl b => cases b <;> simp [f_law_same_at, b_law_same, fnOf, sSeq, isNonB, isBlB]
    | int i =>
      have hi := law_is_integer_eq (d := .int i) rfl g
      simp [f_law_same_at, b_law_same, fnOf, sSeq, isNonB, isBlB, isTyD, isTyB, hi, isInt]
    | str z =>
      have hz : okStr z = true := h
      have he := eqD_str hz hz
      simp [f_law_same_at, b_law_same, fnOf, sSeq, isNonB, isBlB, isTyD, isTyB, he]
    | tup xs =>
      obtain ⟨hl, hm⟩ := plain_tup.mp h
      obtain ⟨a', b', e⟩ := same_loop (F := f_law_same_at n) (g := g) (d := .dt (.tup xs)) xs .un .un fun x hx => ih (hm x hx) g
      have hz : iZ (cC (cV 0) (cC (cV 1) cN)) [.dt (.tup xs), .dt (.tup xs), .un, .un] g = some (.ok (xs.map fun x => D.tup [x, x]) g) := by
        rw [← zip_self]; rfl
      have hf : sFor (iZ (cC (cV 0) (cC (cV 1) cN))) (gT 2 (gsC (gN 2) (gsC (gN 3) gsN))) (sameBody (f_law_same_at n)) [.dt (.tup xs), .dt (.tup xs), .un, .un] g = some (.ok (.nx [.dt (.tup xs), .dt (.tup xs), a', b']) g) := by
        unfold sFor
        rw [hz]
        exact e
      have key : b_law_same (f_law_same_at n) [.dt (.tup xs), .dt (.tup xs), .un, .un] g = some (.ok (.rt (.bl true)) g) := by
        unfold b_law_same
        refine (sSeq_nx (ρ1 := [.dt (.tup xs), .dt (.tup xs), .un, .un]) (g1 := g) (by simp [isNonB])).trans ?_
        refine (sSeq_nx (ρ1 := [.dt (.tup xs), .dt (.tup xs), .un, .un]) (g1 := g) (by simp [isBlB])).trans ?_
        refine (sSeq_nx (ρ1 := [.dt (.tup xs), .dt (.tup xs), .un, .un]) (g1 := g) (by simp [isBlB])).trans ?_
        refine (sSeq_nx (ρ1 := [.dt (.tup xs), .dt (.tup xs), .un, .un]) (g1 := g) (by simp [isTyD, isTyB])).trans ?_
        refine (sSeq_nx (ρ1 := [.dt (.tup xs), .dt (.tup xs), .un, .un]) (g1 := g) (by simp [isTyD, isTyB])).trans ?_
        refine (sSeq_nx (ρ1 := [.dt (.tup xs), .dt (.tup xs), .un, .un]) (g1 := g) (by simp [isTyD, isTyB])).trans ?_
        refine (sSeq_nx (ρ1 := [.dt (.tup xs), .dt (.tup xs), .un, .un]) (g1 := g) (by simp)).trans ?_
        exact (sSeq_nx hf).trans (by simp)
      show noX (fnOf 4 (b_law_same (f_law_same_at n)) [.tup xs, .tup xs] g) = _
      unfold fnOf
      rw [show ([D.tup xs, .tup xs].map En.dt ++ List.replicate (4 - [D.tup xs, .tup xs].length) En.un) = [.dt (.tup xs), .dt (.tup xs), .un, .un] from rfl, key]
      rfl
    | _ => simp [plain] at h
theorem law_same_refl {n : Nat} {d : D} (hn : n ≤ 45) (h : plain n d = true) (g : Gh) : f_law_same [d, d] g = some (.ok (.bl true) g) := by
  have e : f_law_same = f_law_same_at 45 := rfl
  rw [e]
  exact same_refl (n := 45) (by have := plain_le (45 - n) h; rwa [show n + (45 - n) = 45 by omega] at this) g

theorem many_kin {z : Str} (hz : z ∈ KIN) (hn : ¬ z = ("near" : Str)) (xs : List D) : EX (f_many_hands [thePlay (.str z) (.tup xs)]) (.int (xs.length : Nat)) := by
  have q := okW hz "near" (okS (by decide +kernel))
  rw [beq_false_of_ne hn] at q
  exact exf (N := 1) (exs_seq (exs_if0 (ext (ex_op (ex_1 (ex_v rfl) (fld_kind _ _)) ex_d q)) exs_nx) (exs_ret (ex_call (ex_c (ex_1 (ex_v rfl) (fld_inputs _ _)) ex_n) rfl)))
theorem lmany_kin {z : Str} (hz : z ∈ KIN) (hn : ¬ z = ("near" : Str)) (xs : List D) : EX (f_law_many [.str z, .tup xs]) (.int (xs.length : Nat)) := by
  have q := okW hz "near" (okS (by decide +kernel))
  rw [beq_false_of_ne hn] at q
  exact exf (N := 2) (exs_seq (exs_if0 (ext (ex_op (ex_v rfl) ex_d q)) exs_nx) (exs_ret (ex_call (ex_c (ex_v rfl) ex_n) rfl)))
theorem row_len {xs : List D} (h : rowB (.tup xs) = true) : 1 ≤ xs.length ∧ xs.length ≤ 5 := by
  simp only [rowB, Bool.and_eq_true, decide_eq_true_eq] at h
  omega
theorem ints_in {xs : List D} {a b : Int} (h : xs.all (inR a b) = true) : ∀ i, i < xs.length → ∃ v : Int, xs[i]? = some (.int v) ∧ a ≤ v ∧ v ≤ b := fun i hi => by
  obtain ⟨v, e, h1, h2⟩ := inR_int (List.all_eq_true.mp h xs[i] (List.getElem_mem hi))
  exact ⟨v, by rw [List.getElem?_eq_getElem hi, e], h1, h2⟩
theorem lot_of {d : D} (h : lotB d = true) : ∃ lot : List Int, d = .tup (lot.map .int) ∧ lot.length ≤ 20 ∧ ∀ x ∈ lot, 0 ≤ x ∧ x ≤ 19 := by
  cases d with
  | tup xs =>
    simp only [lotB, Bool.and_eq_true] at h
    have each : ∀ x ∈ xs, ∃ i : Int, x = .int i ∧ 0 ≤ i ∧ i ≤ 19 := fun x hx => inR_int (List.all_eq_true.mp h.1 x hx)
    obtain ⟨lot, rfl⟩ := ints_of fun x hx => by
      obtain ⟨i, e, _⟩ := each x hx
      exact ⟨i, e⟩
    have := asc_len (lot.map .int) 0 (fun x hx => by
      obtain ⟨i, e, _, h2⟩ := each x hx
      exact ⟨i, e, h2⟩) h.2 (fun i hi => by
      cases lot with
      | nil => simp at hi
      | cons a l =>
        obtain ⟨j, e, h1, _⟩ := each (.int a) (by simp)
        cases e
        have : a = i := by simpa using hi
        omega) (by omega)
    refine ⟨lot, rfl, by simp at this; omega, fun x hx => ?_⟩
    obtain ⟨i, e, h1, h2⟩ := each (.int x) (List.mem_map.mpr ⟨x, hx, rfl⟩)
    cases e
    exact ⟨h1, h2⟩
  | _ => simp [lotB] at h

end Kk03
set_option Elab.async false
set_option linter.all false
set_option maxRecDepth 100000
set_option maxHeartbeats 2000000
namespace Kk03
open PySem L2 FD
theorem exl_nil {gs : FG} {fb : FS} {ρ : List En} : EX (loopD gs fb [] ρ) (.nx ρ) := fun g => rfl
theorem exl_rt {gs : FG} {fb : FS} {d : D} {ds : List D} {ρ ρ1 : List En} {r : D} (hg : gs d ρ = some ρ1) (hb : EX (fb ρ1) (.rt r)) : EX (loopD gs fb (d :: ds) ρ) (.rt r) := fun g => by
  unfold loopD
  rw [hg]
  simp only [hb g]
theorem exl_nx {gs : FG} {fb : FS} {d : D} {ds : List D} {ρ ρ1 ρ2 : List En} {f : Fl} (hg : gs d ρ = some ρ1) (hb : EX (fb ρ1) (.nx ρ2)) (h : EX (loopD gs fb ds ρ2) f) : EX (loopD gs fb (d :: ds) ρ) f := fun g => by
  unfold loopD
  rw [hg]
  simp only [hb g]
  exact h g
abbrev dI (i : Nat) : D := .int ((i : Nat) : Int)
/-- a play of any kind -/
structure Sys3 (k d : D) (n : Nat) (G : List D → List D → List D → Prop) (L : Nat → List D → D → Nat → Prop) : Prop where
  n1 : 1 ≤ n
  n5 : n ≤ 5
  many : EX (f_many_hands [thePlay k d]) (.int (n : Nat))
  lmany : EX (f_law_many [k, d]) (.int (n : Nat))
  first : ∃ c s t, EX (f_first_standing [thePlay k d]) (stD3 c s t) ∧ G c s t
  len : ∀ c s t, G c s t → c.length = n ∧ s.length = n ∧ t.length = n
  plain : ∀ c s t, G c s t → plain 9 (stD3 c s t) = true
  step : ∀ c s t (i : Nat) (x : D), G c s t → s[i]? = some x → isNonB x = false → ∃ ci ti c' s' t' w, c[i]? = some ci ∧ t[i]? = some ti ∧ EX (f_standing_behind [thePlay k d, stD3 c s t, dI i]) (stD3 (c.set i c') (s.set i s') (t.set i t')) ∧
    EX (f_word_of_step [thePlay k d, x, dI i]) w ∧ G (c.set i c') (s.set i s') (t.set i t') ∧ Word w ci c' ti t' ∧ ∀ v, L i c x v → 1 ≤ v ∧ L i (c.set i c') s' (v - 1)
  begin : ∀ c s t (i : Nat) (x : D), G c s t → s[i]? = some x → L i c x 120
  zero : ∀ c s t (i : Nat) (x : D), G c s t → s[i]? = some x → L i c x 0 → isNonB x = true
theorem sm_stand {n : Nat} {Hv : Nat → D → D → D → Prop} (hs : ∀ i c s t, Hv i c s t → sm [20, 20, 6, 6] c = true ∧ sm [20, 20, 6, 6] s = true ∧ sm [20, 20, 6, 6] t = true) (n5 : n ≤ 5) {c s t : List D} (G : GG n Hv c s t) : sm [3, 5, 20, 20, 6, 6] (stD3 c s t) = true := by
  have cl := G.c
  have sl := G.s
  have tl := G.t
  refine sm_tup.mpr ⟨by simp, fun x hx => ?_⟩
  simp only [List.mem_cons, List.not_mem_nil, or_false] at hx
  rcases hx with rfl | rfl | rfl
  · refine sm_tup.mpr ⟨by omega, fun y hy => ?_⟩
    obtain ⟨i, hi⟩ := List.getElem?_of_mem hy
    obtain ⟨c0, s0, t0, e1, e2, e3, hv⟩ := G.at (i := i) (by rw [← cl]; exact (List.getElem?_eq_some_iff.mp hi).1)
    rw [hi] at e1; cases e1
    exact (hs _ _ _ _ hv).1
  · refine sm_tup.mpr ⟨by omega, fun y hy => ?_⟩
    obtain ⟨i, hi⟩ := List.getElem?_of_mem hy
    obtain ⟨c0, s0, t0, e1, e2, e3, hv⟩ := G.at (i := i) (by rw [← sl]; exact (List.getElem?_eq_some_iff.mp hi).1)
    rw [hi] at e2; cases e2
    exact (hs _ _ _ _ hv).2.1
  · refine sm_tup.mpr ⟨by omega, fun y hy => ?_⟩
    obtain ⟨i, hi⟩ := List.getElem?_of_mem hy
    obtain ⟨c0, s0, t0, e1, e2, e3, hv⟩ := G.at (i := i) (by rw [← tl]; exact (List.getElem?_eq_some_iff.mp hi).1)
    rw [hi] at e3; cases e3
    exact (hs _ _ _ _ hv).2.2
theorem sys3_gen {k : Str} {d : D} {n : Nat} {Hv : Nat → D → D → D → Prop} {L : Nat → List D → D → Nat → Prop} (n1 : 1 ≤ n) (n5 : n ≤ 5) (many : EX (f_many_hands [thePlay (.str k) d]) (.int (n : Nat))) (lmany : EX (f_law_many [.str k, d]) (.int (n : Nat)))
    (H : Does3 (thePlay (.str k) d) n Hv L) : Sys3 (.str k) d n (GG n Hv) L := by
  have ff : ∃ C S : Nat → D, ∀ i, i < n → EX (f_first_of_hand [thePlay (.str k) d, .int (i : Nat)]) (.tup [C i, S i]) ∧ isNonB (S i) = false ∧ Hv i (C i) (S i) (.tup []) := by
    refine ⟨fun i => if h : i < n then Classical.choose (H.first i h) else .non, fun i => if h : i < n then Classical.choose (Classical.choose_spec (H.first i h)) else .non, fun i hi => ?_⟩
    simp only [dif_pos hi]
    exact Classical.choose_spec (Classical.choose_spec (H.first i hi))
  obtain ⟨C, S, hf⟩ := ff
  have ef := first_gen many (by omega) C S fun i hi => (hf i hi).1
  have g0 : GG n Hv ((List.range n).map C) ((List.range n).map S) ((List.range n).map fun _ => .tup []) := by
    refine ⟨by simp, by simp, by simp, fun i c s t e1 e2 e3 => ?_⟩
    rw [List.getElem?_map] at e1 e2 e3
    by_cases hi : i < n
    · rw [List.getElem?_range hi] at e1 e2 e3
      cases e1; cases e2; cases e3
      exact (hf i hi).2.2
    · rw [List.getElem?_eq_none (by simp; omega)] at e1
      cases e1
  refine ⟨n1, n5, many, lmany, ⟨_, _, _, ef, g0⟩, fun c s t G => ⟨G.c, G.s, G.t⟩, fun c s t G => ?_, ?_, H.begin, H.zero⟩
  · exact plain_le 2 (sm_plain (by decide) (sm_stand H.small n5 G))
  · intro cells states tolds i s G hs hn
    have hi : i < n := by rw [← G.s]; exact (List.getElem?_eq_some_iff.mp hs).1
    obtain ⟨c, s0, t, e1, e2, e3, hv⟩ := G.at hi
    rw [hs] at e2
    cases e2
    obtain ⟨c2, s2, ts, news, w, rfl, h1, h2, h3, h4, h5, h6⟩ := H.step _ _ _ i c s t G e1 hs e3 hv hn
    have cl := G.c
    have sl := G.s
    have tl := G.t
    exact ⟨c, _, c2, s2, .tup (ts ++ news), w, e1, e3, behind_gen hs (by omega) (by omega) (by omega) e3 h3 h1, h2, G.set h4, h5, h6⟩
theorem sys3_man {k : Str} {ds : List D} (hk : k ∈ MAN) (hm : Menu ds.length Script ds) (n1 : 1 ≤ ds.length) (n5 : ds.length ≤ 5) :
    Sys3 (.str k) (.tup ds) ds.length (Inv k ds) (fun i c x v => ∃ ss, ds[i]? = some (.tup ss) ∧ Left ds.length ss c k v x) := by
  have tups : ∀ d ∈ ds, ∃ ss, d = .tup ss := fun d hd => by
    obtain ⟨ss, e, _⟩ := script_form (hm.2 d hd)
    exact ⟨ss, e⟩
  have ef := first_standing_eq hk tups (by omega)
  have I0 := first_inv hk hm n1 n5
  have q := okMW hk "near" (okS (by decide +kernel))
  rw [man_near hk] at q
  refine ⟨n1, n5, many_manEq k hk ds, ?_, ⟨_, _, _, ef, I0⟩, fun c s t I => ⟨I.c, I.s, I.t⟩, fun c s t I => plain_le 1 (tiny_plain I.tiny), ?_, ?_, ?_⟩
  · exact exf (N := 2) (exs_seq (exs_if0 (ext (ex_op (ex_v rfl) ex_d q)) exs_nx) (exs_ret (ex_call (ex_c (ex_v rfl) ex_n) rfl)))
  · intro cells states tolds i s I hs hn
    obtain ⟨ss, done, o, first, last, now, ready, x, cell, ts, P⟩ := stp_of I hs hn
    have es : s = stD done first last now ready := by
      have := P.S.st
      rw [hs] at this
      exact Option.some.inj this
    subst es
    have hi : i < ds.length := by rw [P.S.n4]; exact (List.getElem?_eq_some_iff.mp P.S.cell_).1
    have ew : EX (f_word_of_step [thePlay (.str k) (.tup ds), stD done first last now ready, dI i]) (wordD k o now ready) := exf (N := 3) (exs_rt (exs_if1 (ext (ex_op (ex_1 (ex_v rfl) (fld_kind _ _)) ex_d (inMANN hk))) (exs_ret (ex_fn (ex_c (ex_v rfl) (ex_c (ex_v rfl) (ex_c (ex_v rfl) ex_n))) (word_in_manner_eq P.S.A first last now ready)))))
    refine ⟨cell, .tup ts, _, _, _, _, P.S.cell_, P.S.td, standing_behind_eq P.S, ew, P.I', ?_, fun v hv => ?_⟩
    · unfold Word wordD nextD
      cases hp : putsB k o ready with
      | true => exact .inl ⟨by simp, by simp⟩
      | false => exact .inr ⟨by simp, .inl ⟨now.length, by simp⟩⟩
    · obtain ⟨ss', e1, hl⟩ := hv
      have e2 := P.S.A.hi
      rw [e1] at e2
      cases e2
      obtain ⟨ss2, c2, s2, t2, d1, _, _, _, _, h6, _⟩ := I.at hi
      rw [e1] at d1
      cases d1
      rcases hl with z | ⟨done', o', first', last', now', ready', ez, hd', hn', hr⟩
      · cases z
      · have inj := D.tup.inj ez
        simp only [stD, List.cons.injEq, D.int.injEq, D.tup.injEq, and_true] at inj
        obtain ⟨a1, a2, a3, a4, a5⟩ := inj
        have : done' = done := by omega
        subst this a2 a3 a4 a5
        have : o' = o := by
          have e3 := P.S.A.hd
          rw [hd'] at e3
          have e3 := Option.some.inj e3
          cases o' <;> cases o <;> simp [deedD] at e3
          · rfl
          · rw [e3]
        subst this
        obtain ⟨l1, l2⟩ := left_step P h6 hr
        exact ⟨l1, _, e1, l2⟩
  · intro cells states tolds i s I hs
    have hi : i < ds.length := by rw [← I.s]; exact (List.getElem?_eq_some_iff.mp hs).1
    obtain ⟨ss, c, s', t, d1, c1, s1, t1, h6, hds, H⟩ := I.at hi
    refine ⟨ss, d1, ?_⟩
    cases hn : isNonB s with
    | true => exact .inl (isNonB_of hn)
    | false =>
      obtain ⟨ss', done, o, first, last, now, ready, x, cell, ts, P⟩ := stp_of I hs hn
      have es : s = stD done first last now ready := by
        have := P.S.st
        rw [hs] at this
        exact Option.some.inj this
      have e2 := P.S.A.hi
      rw [d1] at e2
      cases e2
      refine .inr ⟨done, o, first, last, now, ready, es, P.S.A.hd, P.G.n1, ?_⟩
      have hd := P.G.d
      have m1 : (ss.length - done - 1) * (3 * ds.length + 1) ≤ 5 * 16 := Nat.mul_le_mul (by omega) (by omega)
      cases hp : putsB k o ready with
      | true => exact .inl ⟨hp, by omega⟩
      | false =>
        refine .inr ⟨hp, 0, .inl rfl, ?_⟩
        have : (if o.isSome = true then 1 else 0) ≤ 1 := by split <;> omega
        omega
  · intro cells states tolds i s I hs hz
    obtain ⟨ss, d1, hl⟩ := hz
    rcases hl with z | ⟨done', o', first', last', now', ready', ez, hd', hn', hr⟩
    · rw [z]; rfl
    · rcases hr with ⟨_, h⟩ | ⟨_, q, hq, h⟩
      · omega
      · have q3 : ds.length ≤ (3 - q) * ds.length := by
          rcases hq with h | ⟨h, _⟩ | ⟨h, _⟩ <;> subst h <;> omega
        omega
theorem gp_sys3 {k d : D} (h : GP k d) : ∃ n G L, Sys3 k d n G L := by
  rcases gp_man h with ⟨z, ds, rfl, rfl, hm, hs, n1, n5⟩ | ⟨z, rfl, hz, hm, hi, _⟩
  · exact ⟨_, _, _, sys3_man hm hs n1 n5⟩
  have hc : MAN.contains z = false := by
    cases q : MAN.contains z with
    | false => rfl
    | true => exact absurd (List.contains_iff_mem.mp q) hm
  cases d with
  | tup xs =>
    rw [inputsB_tup] at hi
    by_cases hn : z = ("near" : Str)
    · rw [if_pos hn] at hi
      subst hn
      match xs, hi with
      | [r, .tup ys], hi =>
        simp only [nearB, Bool.and_eq_true] at hi
        obtain ⟨R, rfl, r1, r6⟩ := inR_int hi.1
        obtain ⟨n1, n5⟩ := row_len hi.2.1
        exact ⟨_, _, _, sys3_gen n1 n5 nr_many nr_lmany (nr_does3 r1 r6 n1 n5 (ints_in hi.2.2))⟩
      | [], hi => simp [nearB] at hi
      | [_], hi => simp [nearB] at hi
      | [r, .non], hi => simp [nearB] at hi
      | [r, .bl _], hi => simp [nearB] at hi
      | [r, .int _], hi => simp [nearB] at hi
      | [r, .str _], hi => simp [nearB] at hi
      | [r, .lst _], hi => simp [nearB] at hi
      | [r, .emp], hi => simp [nearB] at hi
      | [r, .obj _ _ _], hi => simp [nearB] at hi
      | [r, .hnd], hi => simp [nearB] at hi
      | [r, .rng _ _], hi => simp [nearB] at hi
      | [r, .scr _], hi => simp [nearB] at hi
      | _ :: _ :: _ :: _, hi => simp [nearB] at hi
    · rw [if_neg hn, hc, Bool.and_eq_true] at hi
      obtain ⟨n1, n5⟩ := row_len hi.1
      have many := many_kin hz hn xs
      have lmany := lmany_kin hz hn xs
      have h2 := hi.2
      rw [if_neg (by decide)] at h2
      simp only [List.mem_cons, List.not_mem_nil, or_false] at hz
      rcases hz with rfl | rfl | rfl | rfl | rfl | rfl | rfl
      · rw [show MAN.contains ("sweep" : Str) = true from by decide +kernel] at hc; cases hc
      · rw [show MAN.contains ("twice" : Str) = true from by decide +kernel] at hc; cases hc
      · rw [show MAN.contains ("borrow" : Str) = true from by decide +kernel] at hc; cases hc
      · rw [if_neg (by decide +kernel), Bool.and_eq_true] at h2
        exact ⟨_, _, _, sys3_gen n1 n5 many lmany (lv_does3 n1 n5 (ints_in h2.1))⟩
      · rw [if_neg (by decide +kernel), Bool.and_eq_true] at h2
        exact ⟨_, _, _, sys3_gen n1 n5 many lmany (nm_does3 n1 n5 (ints_in h2.1))⟩
      · exact absurd rfl hn
      · rw [if_pos rfl] at h2
        refine ⟨_, _, _, sys3_gen n1 n5 many lmany (ch_does3 n1 n5 fun i hi => ?_)⟩
        obtain ⟨lot, e, h3, h4⟩ := lot_of (List.all_eq_true.mp h2 xs[i] (List.getElem_mem hi))
        exact ⟨lot, by rw [List.getElem?_eq_getElem hi, e], h3, h4⟩
  | _ => simp [inputsB] at hi
end Kk03
set_option Elab.async false
set_option linter.all false
set_option maxRecDepth 100000
set_option maxHeartbeats 2000000
namespace Kk03
open PySem L2 FD
/-! # errors with a field -/
def XF {α : Type} (m : Gh → M α) (c f : Str) (d : D) : Prop := ∀ g, m g = some (.ex c [f] [d] g)
section
variable {ρ ρ1 ρ2 : List En} {x f : Str} {v : D}
theorem xf_raise {a : FE} (ha : EX (a ρ) v) : XF (sRaise x f a ρ) x f v := fun g => by
  simp only [sRaise, ha g, M.bd]
theorem xf_if1 {c : FT} {a b : FS} (hc : EX (c ρ) true) (ha : XF (a ρ) x f v) : XF (sIf c a b ρ) x f v := fun g => by
  show (c ρ g).bd _ = _
  rw [hc g]
  exact ha g
theorem xf_if0 {c : FT} {a b : FS} (hc : EX (c ρ) false) (hb : XF (b ρ) x f v) : XF (sIf c a b ρ) x f v := fun g => by
  show (c ρ g).bd _ = _
  rw [hc g]
  exact hb g
theorem xf_seq1 {a b : FS} (ha : XF (a ρ) x f v) : XF (sSeq a b ρ) x f v := fun g => by
  unfold sSeq
  rw [ha g]
theorem xf_seq {a b : FS} (ha : EX (a ρ) (.nx ρ1)) (hb : XF (b ρ1) x f v) : XF (sSeq a b ρ) x f v := fun g => by
  rw [sSeq_nx (ha g)]
  exact hb g
theorem xf_fnX {n : Nat} {Fn : List D → Gh → M D} {l : FA} {xs : List D} (ha : EX (l ρ) xs) (h : XF (Fn xs) x f v) (hn : xs.length = n := by rfl) : XF (cFnX n Fn l ρ) x f v := fun g => by
  show (l ρ g).bd _ = _
  rw [ha g]
  show (if xs.length = n then Fn xs g else none) = _
  rw [if_pos hn]
  exact h g
theorem xf_def {N : Nat} {b : FS} {ds : List D} (h : XF (b (ds.map .dt ++ List.replicate (N - ds.length) .un)) x f v) : XF (fun g => fnOf N b ds g) x f v := fun g => by
  show fnOf N b ds g = _
  unfold fnOf
  rw [h g]
theorem xf_op1 {op : D → D → Option D} {a b : FE} (ha : XF (a ρ) x f v) : XF (cOp op a b ρ) x f v := fun g => by
  simp only [cOp, ha g, M.bd]
theorem xf_asg {a : FE} {gs : FG} (ha : XF (a ρ) x f v) : XF (sAsg a gs ρ) x f v := fun g => by
  simp only [sAsg, ha g, M.bd]
theorem xf_ret {a : FE} (ha : XF (a ρ) x f v) : XF (sRet a ρ) x f v := fun g => by
  simp only [sRet, ha g, M.bd]
theorem xf_c1 {a : FE} {b : FA} (ha : XF (a ρ) x f v) : XF (cC a b ρ) x f v := fun g => by
  simp only [cC, ha g, M.bd]
theorem xf_c2 {a : FE} {b : FA} {d : D} (ha : EX (a ρ) d) (hb : XF (b ρ) x f v) : XF (cC a b ρ) x f v := fun g => by
  simp only [cC, ha g, hb g, M.bd]
theorem xf_tup {a : FA} (ha : XF (a ρ) x f v) : XF (cTup a ρ) x f v := fun g => by
  simp only [cTup, ha g, M.bd]
theorem xf_for {fi : FI} {gs : FG} {fb : FS} {ds : List D} (hi : EX (fi ρ) ds) (hl : XF (loopD gs fb ds ρ) x f v) : XF (sFor fi gs fb ρ) x f v := fun g => by
  simp only [sFor, hi g, M.bd]
  exact hl g
theorem xfl_here {gs : FG} {fb : FS} {d : D} {ds : List D} (hg : gs d ρ = some ρ1) (hb : XF (fb ρ1) x f v) : XF (loopD gs fb (d :: ds) ρ) x f v := fun g => by
  unfold loopD
  rw [hg]
  simp only [hb g]
theorem try1_ex {fb : FS} {i : Nat} {e0 : D} (h : XF (fb ρ) x f v) (hi : (ρ[i]?).isSome = true) : EX (sTry1 fb x f i e0 ρ) (.rt (.tup [e0, v])) := fun g => by
  simp [sTry1, h g, hi]
theorem try1_ok {fb : FS} {i : Nat} {e0 : D} {r : Fl} (h : EX (fb ρ) r) : EX (sTry1 fb x f i e0 ρ) r := fun g => by
  simp [sTry1, h g]
theorem loop_nx {gs : FG} {fb : FS} {d : D} {ds : List D} (hg : gs d ρ = some ρ1) (hb : EX (fb ρ1) (.nx ρ2)) (g : Gh) : loopD gs fb (d :: ds) ρ g = loopD gs fb ds ρ2 g := by
  conv => lhs; unfold loopD
  rw [hg]
  simp only [hb g]
end
theorem ix_lastL {ts : List D} {d : D} : ixD (.lst (ts ++ [d])) (.int (-1)) = some d := by
  show atI (ts ++ [d]) (-1) = some d
  have e : ixN (ts.length + 1) (-1) = some ts.length := by
    unfold ixN
    rw [if_neg (by omega), if_pos (by omega)]
    congr 1
    omega
  unfold atI
  rw [show (ts ++ [d]).length = ts.length + 1 by simp, e]
  simp
theorem ixl_nat {xs : List D} {i : Nat} {d : D} (h : xs[i]? = some d) : ixD (.lst xs) (.int ((i : Nat) : Int)) = some d := by
  rw [ixD_lst (by omega)]; simpa using h
/-! # runs -/
structure Sr (P : D) (n : Nat) (G : List D → List D → List D → Prop) (S : D) (i : Nat) (S' : D) : Prop where
  e : ∃ c s t x ci ti c' s' t' w, S = stD3 c s t ∧ G c s t ∧ i < n ∧ s[i]? = some x ∧ isNonB x = false ∧ c[i]? = some ci ∧ t[i]? = some ti ∧ S' = stD3 (c.set i c') (s.set i s') (t.set i t') ∧ EX (f_standing_behind [P, S, dI i]) S' ∧
    EX (f_word_of_step [P, x, dI i]) w ∧ G (c.set i c') (s.set i s') (t.set i t') ∧ Word w ci c' ti t'
inductive Pth3 (R : D → Nat → D → Prop) : D → List Nat → List D → D → Prop
  | nil {S} : Pth3 R S [] [S] S
  | cons {S S' T i w Ss} : R S i S' → Pth3 R S' w Ss T → Pth3 R S (i :: w) (S :: Ss) T
section
variable {R : D → Nat → D → Prop}
theorem Pth3.snoc {S T U : D} {w : List Nat} {Ss : List D} {i : Nat} (h : Pth3 R S w Ss T) (s : R T i U) : Pth3 R S (w ++ [i]) (Ss ++ [U]) U := by
  induction h with
  | nil => exact .cons s .nil
  | cons s' _ ih => exact .cons s' (ih s)
theorem Pth3.len {S T : D} {w : List Nat} {Ss : List D} (h : Pth3 R S w Ss T) : Ss.length = w.length + 1 := by
  induction h with
  | nil => rfl
  | cons _ _ ih => simp [ih]
theorem Pth3.ht {S T : D} {w : List Nat} {Ss : List D} (h : Pth3 R S w Ss T) : Ss = S :: Ss.tail := by cases h <;> rfl
theorem Pth3.last {S T : D} {w : List Nat} {Ss : List D} (h : Pth3 R S w Ss T) : ∃ pre, Ss = pre ++ [T] := by
  induction h with
  | nil => exact ⟨[], rfl⟩
  | @cons S S' T i w Ss _ _ ih =>
    obtain ⟨pre, e⟩ := ih
    exact ⟨S :: pre, by rw [e]; rfl⟩
theorem Pth3.take {S T : D} {w : List Nat} {Ss : List D} (h : Pth3 R S w Ss T) : ∀ j : Nat, j ≤ w.length → ∃ T', Ss[j]? = some T' ∧ Pth3 R S (w.take j) (Ss.take (j + 1)) T' := by
  induction h with
  | nil =>
    intro j hj
    have : j = 0 := by simpa using hj
    subst this
    exact ⟨_, rfl, by simpa using Pth3.nil⟩
  | cons s h ih =>
    intro j hj
    cases j with
    | zero => exact ⟨_, rfl, by simpa using Pth3.nil⟩
    | succ j =>
      obtain ⟨T', e, h'⟩ := ih j (by simpa using hj)
      exact ⟨T', by simpa using e, by simpa using Pth3.cons s h'⟩
theorem Pth3.at {S T : D} {w : List Nat} {Ss : List D} (h : Pth3 R S w Ss T) : ∀ j : Nat, j < w.length → ∃ A i B, Ss[j]? = some A ∧ w[j]? = some i ∧ Ss[j + 1]? = some B ∧ R A i B := by
  induction h with
  | nil => intro j hj; simp at hj
  | @cons S S' T i w Ss s h ih =>
    intro j hj
    cases j with
    | zero =>
      refine ⟨S, i, S', rfl, rfl, ?_, s⟩
      rw [h.ht]; rfl
    | succ j =>
      obtain ⟨A, i', B, e1, e2, e3, r⟩ := ih j (by simpa using hj)
      exact ⟨A, i', B, by simpa using e1, by simpa using e2, by simpa using e3, r⟩
end
section
variable {k d : D} {n : Nat} {G : List D → List D → List D → Prop} {L : Nat → List D → D → Nat → Prop}
theorem Sys3.to (Y : Sys3 k d n G L) {c s t : List D} {i : Nat} {x : D} (hG : G c s t) (hs : s[i]? = some x) (hn : isNonB x = false) : ∃ S', Sr (thePlay k d) n G (stD3 c s t) i S' := by
  obtain ⟨ci, ti, c', s', t', w, e1, e2, e3, e4, e5, e6, _⟩ := Y.step c s t i x hG hs hn
  obtain ⟨_, sl, _⟩ := Y.len _ _ _ hG
  exact ⟨_, ⟨c, s, t, x, ci, ti, c', s', t', w, rfl, hG, by rw [← sl]; exact (List.getElem?_eq_some_iff.mp hs).1, hs, hn, e1, e2, rfl, e3, e4, e5, e6⟩⟩
abbrev Gd (G : List D → List D → List D → Prop) (S : D) : Prop := ∃ c s t, S = stD3 c s t ∧ G c s t
theorem Sr.good {P S S' : D} {i : Nat} (h : Sr P n G S i S') : Gd G S' := by
  obtain ⟨c, s, t, x, ci, ti, c', s', t', w, _, _, _, _, _, _, _, rfl, _, _, g, _⟩ := h.e
  exact ⟨_, _, _, rfl, g⟩
theorem Pth3.good {P S T : D} {w : List Nat} {Ss : List D} (h : Pth3 (Sr P n G) S w Ss T) (g : Gd G S) : Gd G T := by
  induction h with
  | nil => exact g
  | cons s _ ih => exact ih s.good
theorem Pth3.goods {P S T : D} {w : List Nat} {Ss : List D} (h : Pth3 (Sr P n G) S w Ss T) (g : Gd G S) : ∀ A ∈ Ss, Gd G A := by
  induction h with
  | nil => intro A hA; rw [List.mem_singleton.mp hA]; exact g
  | cons s _ ih =>
    intro A hA
    rcases List.mem_cons.mp hA with rfl | hA
    · exact g
    · exact ih s.good A hA
theorem Sr.det {P S S1 S2 : D} {i : Nat} (h1 : Sr P n G S i S1) (h2 : Sr P n G S i S2) : S1 = S2 := by
  obtain ⟨_, _, _, _, _, _, _, _, _, _, _, _, _, _, _, _, _, _, e1, _⟩ := h1.e
  obtain ⟨_, _, _, _, _, _, _, _, _, _, _, _, _, _, _, _, _, _, e2, _⟩ := h2.e
  have a := e1 ⟨[], 0, 0, 0, 0⟩
  rw [e2 ⟨[], 0, 0, 0, 0⟩] at a
  cases a; rfl
theorem Pth3.det {P S T1 T2 : D} {w : List Nat} {S1 S2 : List D} (h1 : Pth3 (Sr P n G) S w S1 T1) (h2 : Pth3 (Sr P n G) S w S2 T2) : T1 = T2 := by
  induction h1 generalizing S2 with
  | nil => cases h2; rfl
  | cons s h ih =>
    cases h2 with
    | cons s2 h2 =>
      cases s.det s2
      exact ih h2
/-- no hand, or one that is over -/
def Bad (n : Nat) (s : List D) (x : D) : Prop := inR 0 ((n : Int) - 1) x = false ∨ ∃ i : Nat, x = dI i ∧ i < n ∧ s[i]? = some .non
def enumX (xs : List D) (j : Nat) : List D := (xs.zipIdx j).map fun p => .tup [.int (p.2 : Nat), p.1]
theorem enumX_cons (x : D) (xs : List D) (j : Nat) : enumX (x :: xs) j = .tup [.int (j : Nat), x] :: enumX xs (j + 1) := by simp [enumX, List.zipIdx_cons]
noncomputable abbrev bodyA : FS := (sSeq (sIf (cOr (cNot (cT (cFn 2 f_is_hand (cC (cV 0) (cC (cV 5) cN))))) (cT (cOp isND (cOp ixD (cOp ixD (cV 2) (cD (.int 1))) (cV 5)) (cD .non)))) (sRaise "NoWeaving" "index" (cV 4)) sNx) (sSeq (sAsg (cFn 3 f_standing_behind (cC (cV 0) (cC (cV 2) (cC (cV 5) cN)))) (gN 2)) (sApp 3 (cV 2))))
theorem along3 (Y : Sys3 k d n G L) {W : En} {S T : D} {w : List Nat} {Ss : List D} (h : Pth3 (Sr (thePlay k d) n G) S w Ss T) : ∀ (rest : List D) (j : Nat) (pre : List D) (x4 x5 : En), pre.length + w.length ≤ 1000 →
    ∃ y4 y5, ∀ g, loopD (gT 2 (gsC (gN 4) (gsC (gN 5) gsN))) bodyA (enumX (w.map dI ++ rest) j) [.dt (thePlay k d), W, .dt S, .own pre, x4, x5] g = loopD (gT 2 (gsC (gN 4) (gsC (gN 5) gsN))) bodyA (enumX rest (j + w.length)) [.dt (thePlay k d), W, .dt T, .own (pre ++ Ss.tail), y4, y5] g := by
  induction h with
  | nil => exact fun rest j pre x4 x5 _ => ⟨x4, x5, fun g => by simp⟩
  | @cons S S' T i w Ss s h ih =>
    intro rest j pre x4 x5 hl
    simp only [List.length_cons] at hl
    obtain ⟨c, st, t, x, ci, ti, c', s', t', wd, rfl, hG, hi, hs, hn, _, _, rfl, e1, _, _, _⟩ := s.e
    obtain ⟨y4, y5, e⟩ := ih rest (j + 1) (pre ++ [stD3 (c.set i c') (st.set i s') (t.set i t')]) (.dt (.int (j : Nat))) (.dt (dI i)) (by simp; omega)
    refine ⟨y4, y5, fun g => ?_⟩
    have e2 : pre ++ [stD3 (c.set i c') (st.set i s') (t.set i t')] ++ Ss.tail = pre ++ Ss := by
      conv => rhs; rw [h.ht]
      simp
    rw [e2] at e
    rw [List.map_cons, List.cons_append, enumX_cons, List.tail_cons, List.length_cons, show j + (w.length + 1) = j + 1 + w.length by omega, ← e g]
    refine loop_nx (ρ1 := [.dt (thePlay k d), W, .dt (stD3 c st t), .own pre, .dt (.int (j : Nat)), .dt (dI i)]) rfl ?_ g
    have hb : inR 0 ((n : Int) - 1) (dI i) = true := by simp [inR]; omega
    have eh := is_hand_any (P := thePlay k d) (d := dI i) Y.many rfl
    rw [hb] at eh
    have c0 : EX (cOr (cNot (cT (cFn 2 f_is_hand (cC (cV 0) (cC (cV 5) cN))))) (cT (cOp isND (cOp ixD (cOp ixD (cV 2) (cD (.int 1))) (cV 5)) (cD .non))) [.dt (thePlay k d), W, .dt (stD3 c st t), .own pre, .dt (.int (j : Nat)), .dt (dI i)]) false :=
      ext_or0 (ext_not (b := true) (ext (ex_fn (ex_c (ex_v rfl) (ex_c (ex_v rfl) ex_n)) eh))) (ext (ex_op (ex_op (ex_op (ex_v rfl) ex_d rfl) (ex_v rfl) (ix_nat hs)) ex_d (by rw [isND_non, hn])))
    exact exs_seq (exs_if0 c0 exs_nx) (exs_seq (exs_asg (ex_fn (ex_c (ex_v rfl) (ex_c (ex_v rfl) (ex_c (ex_v rfl) ex_n))) e1) rfl) (exs_app rfl (by omega) (ex_v rfl)))
theorem bad_cond (Y : Sys3 k d n G L) {c s t : List D} {x : D} {ρ : List En} {a b e : Nat} (ha : ρ[a]? = some (.dt (thePlay k d))) (hb : ρ[b]? = some (.dt (stD3 c s t))) (he : ρ[e]? = some (.dt x)) (hx : fine x = true) (h : Bad n s x) :
    EX (cOr (cNot (cT (cFn 2 f_is_hand (cC (cV a) (cC (cV e) cN))))) (cT (cOp isND (cOp ixD (cOp ixD (cV b) (cD (.int 1))) (cV e)) (cD .non))) ρ) true := by
  have eh := is_hand_any (P := thePlay k d) (d := x) Y.many hx
  rcases h with h | ⟨i, rfl, hi, hs⟩
  · rw [h] at eh
    exact ext_or1 (ext_not (b := false) (ext (ex_fn (ex_c (ex_v ha) (ex_c (ex_v he) ex_n)) eh)))
  · have hr : inR 0 ((n : Int) - 1) (dI i) = true := by simp [inR]; omega
    rw [hr] at eh
    exact ext_or0 (ext_not (b := true) (ext (ex_fn (ex_c (ex_v ha) (ex_c (ex_v he) ex_n)) eh))) (ext (ex_op (ex_op (ex_op (ex_v hb) ex_d rfl) (ex_v he) (ix_nat hs)) ex_d rfl))
/-- a list or tuple of things -/
def IsX (W : D) (xs : List D) : Prop := W = .tup xs ∨ W = .lst xs
theorem isT_X {W : D} {xs : List D} (h : IsX W xs) : isTTD "list" "tuple" W = some (.bl true) := by
  rcases h with rfl | rfl <;> simp [isTTD, isTyD, isTyB]
theorem enum_X {W : D} {xs : List D} (h : IsX W xs) : enumD [W] = some (enumX xs 0) := by
  rcases h with rfl | rfl <;> rfl
theorem along_ok (Y : Sys3 k d n G L) {W S T : D} {w : List Nat} {Ss : List D} (hW : IsX W (w.map dI)) (ef : EX (f_first_standing [thePlay k d]) S) (h : Pth3 (Sr (thePlay k d) n G) S w Ss T) (hl : w.length ≤ 950) : EX (f_standings_along [thePlay k d, W]) (.lst Ss) := by
  obtain ⟨y4, y5, e⟩ := along3 Y (W := .dt W) h [] 0 [S] .un .un (by simp; omega)
  refine exfX (N := 6) ?_
  refine exs_seq (exs_if0 (ext_not (b := true) (ext (ex_1 (ex_v rfl) (isT_X hW)))) exs_nx) ?_
  refine exs_seq (exs_asg (ex_fn (ex_c (ex_v rfl) ex_n) ef) rfl) ?_
  refine exs_seq (exs_ownL (ex_c (ex_v rfl) ex_n)) ?_
  rw [List.append_nil] at e
  refine exs_seq (exs_for (exi_e (ex_c (ex_v rfl) ex_n) (enum_X hW)) fun g => (e g).trans rfl) ?_
  refine exs_frz rfl (exs_ret ?_)
  have : [S] ++ Ss.tail = Ss := h.ht.symm
  rw [this]
  exact ex_v rfl
theorem along_bad (Y : Sys3 k d n G L) {W S T x : D} {w : List Nat} {Ss rest : List D} {c s t : List D} (hW : IsX W (w.map dI ++ x :: rest)) (ef : EX (f_first_standing [thePlay k d]) S) (h : Pth3 (Sr (thePlay k d) n G) S w Ss T) (hl : w.length ≤ 950) (eT : T = stD3 c s t) (hx : fine x = true) (hb : Bad n s x) :
    XF (f_standings_along [thePlay k d, W]) "NoWeaving" "index" (.int (w.length : Nat)) := by
  subst eT
  obtain ⟨y4, y5, e⟩ := along3 Y (W := .dt W) h (x :: rest) 0 [S] .un .un (by simp; omega)
  refine xf_def (N := 6) ?_
  refine xf_seq (exs_if0 (ext_not (b := true) (ext (ex_1 (ex_v rfl) (isT_X hW)))) exs_nx) ?_
  refine xf_seq (exs_asg (ex_fn (ex_c (ex_v rfl) ex_n) ef) rfl) ?_
  refine xf_seq (exs_ownL (ex_c (ex_v rfl) ex_n)) ?_
  refine xf_seq1 (xf_for (exi_e (ex_c (ex_v rfl) ex_n) (enum_X hW)) fun g => (e g).trans ?_)
  rw [enumX_cons, Nat.zero_add]
  exact xfl_here (ρ1 := [.dt (thePlay k d), .dt W, .dt (stD3 c s t), .own ([S] ++ Ss.tail), .dt (.int (w.length : Nat)), .dt x]) rfl (xf_seq1 (xf_if1 (bad_cond Y rfl rfl rfl hx hb) (xf_raise (ex_v rfl)))) g
theorem along_odd {P W : D} (h : isTTD "list" "tuple" W = some (.bl false)) : XF (f_standings_along [P, W]) "NoWeaving" "index" (.int (-1)) :=
  xf_def (N := 6) (xf_seq1 (xf_if1 (ext_not (b := false) (ext (ex_1 (ex_v rfl) h))) (xf_raise (ex_1 ex_d rfl))))
/-- each row is a weaving, or not from some place on -/
theorem split_row (Y : Sys3 k d n G L) : ∀ (xs : List D) (S : D), Gd G S → (∀ x ∈ xs, fine x = true) →
    (∃ w Ss T, xs = w.map dI ∧ Pth3 (Sr (thePlay k d) n G) S w Ss T) ∨ ∃ w Ss c s t x rest, xs = w.map dI ++ x :: rest ∧ Pth3 (Sr (thePlay k d) n G) S w Ss (stD3 c s t) ∧ G c s t ∧ fine x = true ∧ Bad n s x
  | [], S, _, _ => .inl ⟨[], [S], S, rfl, .nil⟩
  | x :: xs, S, g, hf => by
    obtain ⟨c, s, t, rfl, hG⟩ := g
    obtain ⟨_, sl, _⟩ := Y.len _ _ _ hG
    by_cases hb : Bad n s x
    · exact .inr ⟨[], [_], c, s, t, x, xs, rfl, .nil, hG, hf x (by simp), hb⟩
    · have h1 : inR 0 ((n : Int) - 1) x = true := by
        cases q : inR 0 ((n : Int) - 1) x with
        | true => rfl
        | false => exact absurd (.inl q) hb
      obtain ⟨i, rfl, i0, i1⟩ := inR_int h1
      obtain ⟨m, rfl⟩ : ∃ m : Nat, i = (m : Int) := ⟨i.toNat, by omega⟩
      have hm : m < s.length := by omega
      have hs : s[m]? = some s[m] := List.getElem?_eq_getElem hm
      have hn : isNonB s[m] = false := by
        cases q : isNonB s[m] with
        | false => rfl
        | true => exact absurd (.inr ⟨m, rfl, by omega, by rw [hs, isNonB_of q]⟩) hb
      obtain ⟨S', r⟩ := Y.to hG hs hn
      rcases split_row Y xs S' r.good fun y hy => hf y (by simp [hy]) with ⟨w, Ss, T, rfl, h⟩ | ⟨w, Ss, c2, s2, t2, y, rest, rfl, h, hG2, hy, hb2⟩
      · exact .inl ⟨m :: w, _, T, rfl, .cons r h⟩
      · exact .inr ⟨m :: w, _, c2, s2, t2, y, rest, rfl, .cons r h, hG2, hy, hb2⟩
/-! ## run, events -/
theorem run_ok (Y : Sys3 k d n G L) {W S T : D} {w : List Nat} {Ss : List D} (hW : IsX W (w.map dI)) (ef : EX (f_first_standing [thePlay k d]) S) (h : Pth3 (Sr (thePlay k d) n G) S w Ss T) (hl : w.length ≤ 950) : EX (f_run [thePlay k d, W]) T := by
  obtain ⟨pre, e⟩ := h.last
  refine exfX (N := 2) (exs_ret (ex_op (ex_fnX (ex_c (ex_v rfl) (ex_c (ex_v rfl) ex_n)) (along_ok Y hW ef h hl)) (ex_1 ex_d rfl) ?_))
  rw [e]
  exact ix_lastL
theorem run_x {P W v : D} (h : XF (f_standings_along [P, W]) "NoWeaving" "index" v) : XF (f_run [P, W]) "NoWeaving" "index" v :=
  xf_def (N := 2) (xf_ret (xf_op1 (xf_fnX (ex_c (ex_v rfl) (ex_c (ex_v rfl) ex_n)) h)))
theorem events_x {P W v : D} (h : XF (f_standings_along [P, W]) "NoWeaving" "index" v) : XF (f_events [P, W]) "NoWeaving" "index" v :=
  xf_def (N := 5) (xf_seq1 (xf_asg (xf_fnX (ex_c (ex_v rfl) (ex_c (ex_v rfl) ex_n)) h)))
theorem run_out_x {P W v : D} (h : XF (f_standings_along [P, W]) "NoWeaving" "index" v) : XF (f_run_out [P, W]) "NoWeaving" "index" v :=
  xf_def (N := 5) (xf_seq1 (xf_asg (xf_fnX (ex_c (ex_v rfl) (ex_c (ex_v rfl) ex_n)) (run_x h))))
/-- what an event tells -/
def evD (w : D) (i : Nat) : D := match w with
  | .tup [.str x] => if x = ("put" : Str) then .tup [dI i, .str "put", dI i] else .tup [dI i, .str "see", .non]
  | .tup [_, j] => .tup [dI i, .str "look", j]
  | _ => .non
theorem eq_lit {a b : Str} (ha : a.cps.all (· < 0x110000) = true) (hb : b.cps.all (· < 0x110000) = true) {q : Bool} (h : (a == b) = q) : eqD (.str a) (.str b) = some (.bl q) := by rw [eqD_str (okS ha) (okS hb), h]
theorem put_put : eqD (.str "put") (.str "put") = some (.bl true) := eq_lit (by decide +kernel) (by decide +kernel) (by decide +kernel)
theorem see_put : eqD (.str "see") (.str "put") = some (.bl false) := eq_lit (by decide +kernel) (by decide +kernel) (by decide +kernel)
theorem see_see : eqD (.str "see") (.str "see") = some (.bl true) := eq_lit (by decide +kernel) (by decide +kernel) (by decide +kernel)
theorem put_see : eqD (.str "put") (.str "see") = some (.bl false) := eq_lit (by decide +kernel) (by decide +kernel) (by decide +kernel)
theorem look_put : eqD (.str "look") (.str "put") = some (.bl false) := eq_lit (by decide +kernel) (by decide +kernel) (by decide +kernel)
theorem look_see : eqD (.str "look") (.str "see") = some (.bl false) := eq_lit (by decide +kernel) (by decide +kernel) (by decide +kernel)
theorem put_look : eqD (.str "put") (.str "look") = some (.bl false) := eq_lit (by decide +kernel) (by decide +kernel) (by decide +kernel)
theorem see_look : eqD (.str "see") (.str "look") = some (.bl false) := eq_lit (by decide +kernel) (by decide +kernel) (by decide +kernel)
theorem look_look : eqD (.str "look") (.str "look") = some (.bl true) := eq_lit (by decide +kernel) (by decide +kernel) (by decide +kernel)
theorem event_eq {P S S' : D} {i : Nat} (h : Sr P n G S i S') : ∃ w, (w = .tup [.str "put"] ∨ w = .tup [.str "see"] ∨ ∃ j : Nat, w = .tup [.str "look", .int (j : Nat)]) ∧ EX (f_event [P, S, dI i]) (evD w i) := by
  obtain ⟨c, s, t, x, ci, ti, c', s', t', w, rfl, hG, hi, hs, hn, _, _, _, _, ew, _, hw⟩ := h.e
  have pre : ∀ {f : Fl}, EX ((sSeq (sIf (cT (cOp eqD (cOp ixD (cV 3) (cD (.int 0))) (cD (.str "put")))) (sRet (cTup (cC (cV 2) (cC (cD (.str "put")) (cC (cV 2) cN))))) sNx) (sSeq (sIf (cT (cOp eqD (cOp ixD (cV 3) (cD (.int 0))) (cD (.str "see")))) (sRet (cTup (cC (cV 2) (cC (cD (.str "see")) (cC (cD .non) cN))))) sNx) (sRet (cTup (cC (cV 2) (cC (cD (.str "look")) (cC (cOp ixD (cV 3) (cD (.int 1))) cN))))))) [.dt P, .dt (stD3 c s t), .dt (dI i), .dt w]) f → EX (b_event [.dt P, .dt (stD3 c s t), .dt (dI i), .un]) f := fun {f} h =>
    exs_seq (exs_asg (ex_fn (ex_c (ex_v rfl) (ex_c (ex_op (ex_op (ex_v rfl) ex_d rfl) (ex_v rfl) (ix_nat hs)) (ex_c (ex_v rfl) ex_n))) ew) rfl) h
  refine ⟨w, ?_, ?_⟩
  · rcases hw with ⟨rfl, _⟩ | ⟨_, ⟨j, rfl⟩ | rfl⟩
    · exact .inl rfl
    · exact .inr (.inr ⟨j, rfl⟩)
    · exact .inr (.inl rfl)
  · rcases hw with ⟨rfl, _⟩ | ⟨_, ⟨j, rfl⟩ | rfl⟩
    · exact exf (N := 4) (pre (exs_rt (exs_if1 (ext (ex_op (ex_op (ex_v rfl) ex_d rfl) ex_d put_put)) (exs_ret (ex_tup (ex_c (ex_v rfl) (ex_c ex_d (ex_c (ex_v rfl) ex_n))))))))
    · exact exf (N := 4) (pre (exs_seq (exs_if0 (ext (ex_op (ex_op (ex_v rfl) ex_d rfl) ex_d look_put)) exs_nx) (exs_seq (exs_if0 (ext (ex_op (ex_op (ex_v rfl) ex_d rfl) ex_d look_see)) exs_nx) (exs_ret (ex_tup (ex_c (ex_v rfl) (ex_c ex_d (ex_c (ex_op (ex_v rfl) ex_d rfl) ex_n))))))))
    · exact exf (N := 4) (pre (exs_seq (exs_if0 (ext (ex_op (ex_op (ex_v rfl) ex_d rfl) ex_d see_put)) exs_nx) (exs_rt (exs_if1 (ext (ex_op (ex_op (ex_v rfl) ex_d rfl) ex_d see_see)) (exs_ret (ex_tup (ex_c (ex_v rfl) (ex_c ex_d (ex_c ex_d ex_n)))))))))
end
end Kk03
set_option Elab.async false
set_option linter.all false
set_option maxRecDepth 100000
set_option maxHeartbeats 2000000
namespace Kk03
open PySem L2 FD
theorem ex_det {α : Type} {m : Gh → M α} {a b : α} (h1 : EX m a) (h2 : EX m b) : a = b := by
  have := h1 ⟨[], 0, 0, 0, 0⟩
  rw [h2 ⟨[], 0, 0, 0, 0⟩] at this
  cases this; rfl
theorem cut_take {xs : List D} {i : Nat} : cutD xs none (some (i : Int)) = xs.take i := by
  have a : HT.sIx xs.length 0 none = 0 := rfl
  have b : HT.sIx xs.length xs.length (some (i : Int)) = min i xs.length := by
    rw [HT.sIx_nat]
  unfold cutD
  rw [a, b]
  simp only [List.drop_zero, Nat.sub_zero]
  rw [List.take_eq_take_iff]
  omega
theorem cut_drop {xs : List D} {i : Nat} : cutD xs (some (i : Int)) none = xs.drop i := by
  have a : HT.sIx xs.length 0 (some (i : Int)) = min i xs.length := by
    rw [HT.sIx_nat]
  have b : HT.sIx xs.length xs.length none = xs.length := rfl
  unfold cutD
  rw [a, b]
  by_cases h : i ≤ xs.length
  · rw [Nat.min_eq_left h, List.take_of_length_le (by simp)]
  · rw [Nat.min_eq_right (by omega)]
    rw [List.drop_eq_nil_of_le (show xs.length ≤ i by omega)]
    simp
theorem ne_plain {n : Nat} {a : D} (ha : plain n a = true) (hn : n ≤ 64) : neD a a = some (.bl false) := by
  unfold neD
  rw [eqB_plain ha ha hn hn, eqP_refl ha]; rfl
theorem eq_plain {n : Nat} {a : D} (ha : plain n a = true) (hn : n ≤ 64) : eqD a a = some (.bl true) := by
  rw [eqD_plain ha ha hn hn, eqP_refl ha]
theorem same_plain {n : Nat} {d : D} (hn : n ≤ 45) (h : plain n d = true) : EX (f_law_same [d, d]) (.bl true) := fun g => law_same_refl hn h g
theorem ints_plain {w : List Nat} (h : w.length ≤ 500) : plain 2 (.tup (w.map dI)) = true := by
  rw [plain_tup]
  refine ⟨by simpa using h, fun d hd => ?_⟩
  obtain ⟨i, _, rfl⟩ := List.mem_map.mp hd
  rfl
section
variable {k d : D} {n : Nat} {G : List D → List D → List D → Prop} {L : Nat → List D → D → Nat → Prop}
theorem Sys3.rows (Y : Sys3 k d n G L) {c s t : List D} (h : G c s t) : Kk03.plain 8 (.tup c) = true ∧ Kk03.plain 8 (.tup s) = true ∧ Kk03.plain 8 (.tup t) = true ∧ (∀ x ∈ c, Kk03.plain 7 x = true) := by
  obtain ⟨_, h2⟩ := plain_tup.mp (Y.plain _ _ _ h)
  have hc := h2 (.tup c) (by simp)
  exact ⟨hc, h2 _ (by simp), h2 _ (by simp), (plain_tup.mp hc).2⟩
theorem Sys3.pl (Y : Sys3 k d n G L) {S : D} (h : Gd G S) : Kk03.plain 9 S = true := by
  obtain ⟨c, s, t, rfl, g⟩ := h
  exact Y.plain _ _ _ g
/-! ## the events, by the law -/
theorem event_right (Y : Sys3 k d n G L) {S S' : D} {i : Nat} (h : Sr (thePlay k d) n G S i S') : ∃ e, EX (f_event [thePlay k d, S, dI i]) e ∧ EX (f_law_event_right [thePlay k d, S, S', dI i, e]) (.bl true) := by
  obtain ⟨c, s, t, x, ci, ti, c', s', t', w, rfl, hG, hi, hs, hn, hc, ht, rfl, _, ew, hG', hw⟩ := h.e
  obtain ⟨cl, sl, tl⟩ := Y.len _ _ _ hG
  have n5 := Y.n5
  obtain ⟨pc, ps, pt, pcs⟩ := Y.rows hG
  have enx := next_gen (cells := c) (tolds := t) Y.many hi hs hn ew
  have ev : EX (f_event [thePlay k d, stD3 c s t, dI i]) (evD w i) := by
    obtain ⟨w2, _, e2⟩ := event_eq h
    obtain ⟨c0, s0, t0, x0, ci0, ti0, c0', s0', t0', w0, q0, hG0, hi0, hs0, hn0, hc0, ht0, q1, _, ew0, hG0', hw0⟩ := h.e
    obtain ⟨rfl, rfl, rfl⟩ := stD3_inj q0
    rw [hs] at hs0; cases hs0
    have := ex_det ew ew0
    subst this
    have pre : ∀ {f : Fl}, EX ((sSeq (sIf (cT (cOp eqD (cOp ixD (cV 3) (cD (.int 0))) (cD (.str "put")))) (sRet (cTup (cC (cV 2) (cC (cD (.str "put")) (cC (cV 2) cN))))) sNx) (sSeq (sIf (cT (cOp eqD (cOp ixD (cV 3) (cD (.int 0))) (cD (.str "see")))) (sRet (cTup (cC (cV 2) (cC (cD (.str "see")) (cC (cD .non) cN))))) sNx) (sRet (cTup (cC (cV 2) (cC (cD (.str "look")) (cC (cOp ixD (cV 3) (cD (.int 1))) cN))))))) [.dt (thePlay k d), .dt (stD3 c s t), .dt (dI i), .dt w]) f → EX (b_event [.dt (thePlay k d), .dt (stD3 c s t), .dt (dI i), .un]) f := fun {f} h =>
      exs_seq (exs_asg (ex_fn (ex_c (ex_v rfl) (ex_c (ex_op (ex_op (ex_v rfl) ex_d rfl) (ex_v rfl) (ix_nat hs)) (ex_c (ex_v rfl) ex_n))) ew) rfl) h
    rcases hw with ⟨rfl, _⟩ | ⟨_, ⟨j, rfl⟩ | rfl⟩
    · exact exf (N := 4) (pre (exs_rt (exs_if1 (ext (ex_op (ex_op (ex_v rfl) ex_d rfl) ex_d put_put)) (exs_ret (ex_tup (ex_c (ex_v rfl) (ex_c ex_d (ex_c (ex_v rfl) ex_n))))))))
    · exact exf (N := 4) (pre (exs_seq (exs_if0 (ext (ex_op (ex_op (ex_v rfl) ex_d rfl) ex_d look_put)) exs_nx) (exs_seq (exs_if0 (ext (ex_op (ex_op (ex_v rfl) ex_d rfl) ex_d look_see)) exs_nx) (exs_ret (ex_tup (ex_c (ex_v rfl) (ex_c ex_d (ex_c (ex_op (ex_v rfl) ex_d rfl) ex_n))))))))
    · exact exf (N := 4) (pre (exs_seq (exs_if0 (ext (ex_op (ex_op (ex_v rfl) ex_d rfl) ex_d see_put)) exs_nx) (exs_rt (exs_if1 (ext (ex_op (ex_op (ex_v rfl) ex_d rfl) ex_d see_see)) (exs_ret (ex_tup (ex_c (ex_v rfl) (ex_c ex_d (ex_c ex_d ex_n)))))))))
  refine ⟨_, ev, ?_⟩
  have okw : ∀ z : String, (Str.ofString z).cps.all (· < 0x110000) = true → okStr (Str.ofString z) = true := fun z h => okS h
  have cells_same : c' = ci → eqD (.tup c) (.tup (c.set i c')) = some (.bl true) := fun e => by
    rw [e, set_same hc]; exact eq_plain pc (by decide)
  rcases hw with ⟨rfl, et⟩ | ⟨ec, ⟨j, rfl⟩ | rfl⟩
  · have p3 : Kk03.plain 3 (.tup [dI i, .str "put", dI i]) = true := by
      rw [plain_tup]
      refine ⟨by simp, fun y hy => ?_⟩
      simp only [List.mem_cons, List.not_mem_nil, or_false] at hy
      rcases hy with rfl | rfl | rfl
      · rfl
      · exact okS (by decide +kernel)
      · rfl
    refine exf (N := 9) (exs_seq (exs_asg (ex_fn (ex_c (ex_v rfl) (ex_c (ex_v rfl) (ex_c (ex_v rfl) ex_n))) enx) rfl) (exs_seq (exs_asg (ex_v rfl) rfl) (exs_seq (exs_if0 (ext (ex_op (ex_op (ex_v rfl) ex_d rfl) ex_d put_look)) exs_nx) (exs_seq (exs_if0 (ext (ex_op (ex_op (ex_v rfl) ex_d rfl) ex_d put_see)) exs_nx)
      (exs_seq (exs_if0 (ext_not (b := true) (ext (ex_fn (ex_c (ex_v rfl) (ex_c (ex_tup (ex_c (ex_v rfl) (ex_c (ex_op (ex_v rfl) ex_d rfl) (ex_c (ex_v rfl) ex_n)))) ex_n)) (same_plain (by decide) p3)))) exs_nx) ?_)))))
    refine exs_rt (exs_if1 (ext (ex_op (ex_op (ex_v rfl) ex_d rfl) ex_d put_put)) ?_)
    refine exs_seq (exs_asg (x := .lst []) (ex_lc (exi_r (n := c.length) (ex_call (ex_c (ex_op (ex_v rfl) ex_d rfl) ex_n) rfl) (by omega)) (by
      have := exc_fil2 (gs := gN 8) (ft := cAnd (cT (cOp neD (cV 8) (cV 3))) (cT (cOp neD (cOp ixD (cOp ixD (cV 1) (cD (.int 0))) (cV 8)) (cOp ixD (cOp ixD (cV 2) (cD (.int 0))) (cV 8))))) (fe := cV 8) (p := fun _ => false) (F := id) (ρ := blkE [.dt (thePlay k d), .dt (stD3 c s t), .dt (stD3 (c.set i c') (s.set i s') (t.set i t')), .dt (dI i), .dt (evD (.tup [.str "put"]) i), .dt (.tup [.str "put"]), .dt (dI i), .un, .un] [8]) (ds := rngD 0 c.length) fun y hy => ?_
      · rw [List.filter_eq_nil_iff.mpr (fun _ _ => by simp)] at this
        exact this
      · obtain ⟨m, rfl, hm⟩ := mem_rngI hy
        refine ⟨_, rfl, ?_, fun h => by cases h⟩
        by_cases e : m = i
        · subst e
          exact ext_and0 (ext (ex_op (ex_v rfl) (ex_v rfl) (by rw [neD_int]; simp)))
        · have hy : c[m]? = some c[m] := List.getElem?_eq_getElem hm
          have hy2 : (c.set i c')[m]? = some c[m] := by rw [List.getElem?_set_ne (Ne.symm e)]; exact hy
          refine ext_and1 (ext (ex_op (ex_v rfl) (ex_v rfl) (by rw [neD_int]; congr 2; simp; omega))) (ext (ex_op (ex_op (ex_op (ex_v rfl) ex_d rfl) (ex_v rfl) (ix_nat hy)) (ex_op (ex_op (ex_v rfl) ex_d rfl) (ex_v rfl) (ix_nat hy2)) (ne_plain (pcs _ (List.getElem_mem hm)) (by decide))))) (by simp)) rfl) ?_
    refine exs_ret (ex_and1 (ex_op (ex_call (ex_c (ex_v rfl) ex_n) rfl) ex_d (eqD_int _ _)) (ex_op (ex_op (ex_v rfl) ex_d rfl) (ex_op (ex_v rfl) ex_d rfl) ?_))
    rw [et, set_same ht]
    exact eq_plain pt (by decide)
  · have p3 : Kk03.plain 3 (.tup [dI i, .str "look", .int (j : Nat)]) = true := by
      rw [plain_tup]
      refine ⟨by simp, fun y hy => ?_⟩
      simp only [List.mem_cons, List.not_mem_nil, or_false] at hy
      rcases hy with rfl | rfl | rfl
      · rfl
      · exact okS (by decide +kernel)
      · rfl
    exact exf (N := 9) (exs_seq (exs_asg (ex_fn (ex_c (ex_v rfl) (ex_c (ex_v rfl) (ex_c (ex_v rfl) ex_n))) enx) rfl) (exs_seq (exs_asg (ex_v rfl) rfl) (exs_seq (exs_if1 (ext (ex_op (ex_op (ex_v rfl) ex_d rfl) ex_d look_look)) (exs_asg (ex_op (ex_v rfl) ex_d rfl) rfl)) (exs_seq (exs_if0 (ext (ex_op (ex_op (ex_v rfl) ex_d rfl) ex_d look_see)) exs_nx)
      (exs_seq (exs_if0 (ext_not (b := true) (ext (ex_fn (ex_c (ex_v rfl) (ex_c (ex_tup (ex_c (ex_v rfl) (ex_c (ex_op (ex_v rfl) ex_d rfl) (ex_c (ex_v rfl) ex_n)))) ex_n)) (same_plain (by decide) p3)))) exs_nx) (exs_seq (exs_if0 (ext (ex_op (ex_op (ex_v rfl) ex_d rfl) ex_d look_put)) exs_nx) (exs_ret (ex_op (ex_op (ex_v rfl) ex_d rfl) (ex_op (ex_v rfl) ex_d rfl) (cells_same ec)))))))))
  · have p3 : Kk03.plain 3 (.tup [dI i, .str "see", .non]) = true := by
      rw [plain_tup]
      refine ⟨by simp, fun y hy => ?_⟩
      simp only [List.mem_cons, List.not_mem_nil, or_false] at hy
      rcases hy with rfl | rfl | rfl
      · rfl
      · exact okS (by decide +kernel)
      · rfl
    exact exf (N := 9) (exs_seq (exs_asg (ex_fn (ex_c (ex_v rfl) (ex_c (ex_v rfl) (ex_c (ex_v rfl) ex_n))) enx) rfl) (exs_seq (exs_asg (ex_v rfl) rfl) (exs_seq (exs_if0 (ext (ex_op (ex_op (ex_v rfl) ex_d rfl) ex_d see_look)) exs_nx) (exs_seq (exs_if1 (ext (ex_op (ex_op (ex_v rfl) ex_d rfl) ex_d see_see)) (exs_asg ex_d rfl))
      (exs_seq (exs_if0 (ext_not (b := true) (ext (ex_fn (ex_c (ex_v rfl) (ex_c (ex_tup (ex_c (ex_v rfl) (ex_c (ex_op (ex_v rfl) ex_d rfl) (ex_c (ex_v rfl) ex_n)))) ex_n)) (same_plain (by decide) p3)))) exs_nx) (exs_seq (exs_if0 (ext (ex_op (ex_op (ex_v rfl) ex_d rfl) ex_d see_put)) exs_nx) (exs_ret (ex_op (ex_op (ex_v rfl) ex_d rfl) (ex_op (ex_v rfl) ex_d rfl) (cells_same ec)))))))))
open Classical in
noncomputable def evF (P : D) : D → D
  | .tup [S, x] => if h : ∃ e, EX (f_event [P, S, x]) e then Classical.choose h else .non
  | _ => .non
open Classical in
theorem evF_of {P S x : D} (h : ∃ e, EX (f_event [P, S, x]) e) : EX (f_event [P, S, x]) (evF P (.tup [S, x])) := by
  show EX _ (if h : ∃ e, EX (f_event [P, S, x]) e then Classical.choose h else .non)
  rw [dif_pos h]
  exact Classical.choose_spec h
/-- the events of a weaving, and the law's look at each -/
theorem events_ok (Y : Sys3 k d n G L) {S T : D} {w : List Nat} {Ss : List D} (ef : EX (f_first_standing [thePlay k d]) S) (h : Pth3 (Sr (thePlay k d) n G) S w Ss T) (hl : w.length ≤ 400) :
    ∃ evs, EX (f_events [thePlay k d, .lst (w.map dI)]) (.tup evs) ∧ evs.length = w.length ∧ ∀ j, j < w.length → ∃ A i B e, Ss[j]? = some A ∧ w[j]? = some i ∧ Ss[j + 1]? = some B ∧ evs[j]? = some e ∧ EX (f_law_event_right [thePlay k d, A, B, dI i, e]) (.bl true) := by
  have sl := h.len
  have al := along_ok Y (W := .lst (w.map dI)) (.inr rfl) ef h (by omega)
  refine ⟨((Ss.zip (w.map dI)).map fun p => D.tup [p.1, p.2]).map (evF (thePlay k d)), ?_, by simp; omega, fun j hj => ?_⟩
  · refine exfX (N := 5) (exs_seq (exs_asg (ex_fnX (ex_c (ex_v rfl) (ex_c (ex_v rfl) ex_n)) al) rfl) (exs_ret (ex_call (ex_c (ex_lc (exi_z (ex_c (ex_v rfl) (ex_c (ex_v rfl) ex_n)) rfl) (exc_map (F := evF (thePlay k d)) fun y hy => ?_) (by simp; omega)) ex_n) rfl)))
    obtain ⟨j, hj⟩ := List.getElem?_of_mem hy
    obtain ⟨A, x, e1, e2, rfl⟩ := zip_at hj
    rw [List.getElem?_map, Option.map_eq_some_iff] at e2
    obtain ⟨i, e2, rfl⟩ := e2
    obtain ⟨A', i', B, f1, f2, _, r⟩ := h.at j (List.getElem?_eq_some_iff.mp e2).1
    rw [e1] at f1; cases f1
    rw [e2] at f2; cases f2
    obtain ⟨e, ev, _⟩ := event_right Y r
    exact ⟨_, rfl, ex_fn (ex_c (ex_v rfl) (ex_c (ex_v rfl) (ex_c (ex_v rfl) ex_n))) (evF_of ⟨e, ev⟩)⟩
  · obtain ⟨A, i, B, f1, f2, f3, r⟩ := h.at j hj
    obtain ⟨e, ev, er⟩ := event_right Y r
    refine ⟨A, i, B, e, f1, f2, f3, ?_, er⟩
    have z : (Ss.zip (w.map dI))[j]? = some (A, dI i) := by
      rw [List.getElem?_zip_eq_some]
      exact ⟨f1, by rw [List.getElem?_map, f2]; rfl⟩
    rw [List.getElem?_map, List.getElem?_map, z]
    show some (evF (thePlay k d) (.tup [A, dI i])) = some e
    rw [ex_det (evF_of ⟨e, ev⟩) ev]
/-! ## who is over -/
def overL (s : List D) : List D := (rngD 0 s.length).filter fun x => !goes s x
theorem over_eq {c s t : List D} (hl : s.length ≤ 500) : EX (f_law_over [stD3 c s t]) (.lst (overL s)) := by
  have ol : (overL s).length ≤ 1000 := by
    unfold overL
    have := List.length_filter_le (fun x => !goes s x) (rngD 0 s.length)
    have : (rngD 0 s.length).length = s.length := by simp [rngD]
    omega
  refine exf (N := 2) (exs_ret ?_)
  have := exc_fil2 (gs := gN 1) (ft := cT (cOp isND (cOp ixD (cOp ixD (cV 0) (cD (.int 1))) (cV 1)) (cD .non))) (fe := cV 1) (p := fun x => !goes s x) (F := id) (ρ := blkE [.dt (stD3 c s t), .un] [1]) (ds := rngD 0 s.length) fun y hy => by
    obtain ⟨m, rfl, hm⟩ := mem_rngI hy
    have hs : s[m]? = some s[m] := List.getElem?_eq_getElem hm
    refine ⟨_, rfl, ext (ex_op (ex_op (ex_op (ex_v rfl) ex_d rfl) (ex_v rfl) (ix_nat hs)) ex_d ?_), fun _ => ex_v rfl⟩
    rw [isND_non, goes_at hs, Bool.not_not]
  rw [List.map_id] at this
  exact ex_lc (exi_r (n := s.length) (ex_call (ex_c (ex_op (ex_v rfl) ex_d rfl) ex_n) rfl) (by omega)) this ol
theorem over_ints (s : List D) : ∃ os : List Int, overL s = os.map .int ∧ ∀ i : Nat, (os.contains ((i : Nat) : Int) = true ↔ ∃ x, s[i]? = some x ∧ isNonB x = true) := by
  obtain ⟨os, e⟩ := ints_of (xs := overL s) fun x hx => by
    obtain ⟨m, rfl, _⟩ := mem_rngI (List.mem_filter.mp hx).1
    exact ⟨_, rfl⟩
  refine ⟨os, e, fun i => ?_⟩
  have key : ((i : Nat) : Int) ∈ os ↔ dI i ∈ overL s := by
    rw [e]
    simp
  rw [List.contains_iff_mem, key]
  unfold overL
  rw [List.mem_filter]
  constructor
  · rintro ⟨h1, h2⟩
    obtain ⟨m, em, hm⟩ := mem_rngI h1
    have : i = m := by have := D.int.inj em; omega
    subst this
    have hs : s[i]? = some s[i] := List.getElem?_eq_getElem hm
    rw [goes_at hs, Bool.not_not] at h2
    exact ⟨_, hs, h2⟩
  · rintro ⟨x, hs, hx⟩
    have hm := (List.getElem?_eq_some_iff.mp hs).1
    refine ⟨?_, by rw [goes_at hs, hx]; rfl⟩
    unfold rngD
    exact List.mem_map.mpr ⟨i, List.mem_range.mpr hm, by congr 1; omega⟩
theorem notin_over {s : List D} {i : Nat} {x : D} (h : s[i]? = some x) : notInD (dI i) (.lst (overL s)) = some (.bl (!isNonB x)) := by
  obtain ⟨os, e, hc⟩ := over_ints s
  rw [e, notInD_intsL]
  congr 3
  have := hc i
  cases q : isNonB x with
  | true => exact this.mpr ⟨x, h, q⟩
  | false =>
    cases r : os.contains ((i : Nat) : Int) with
    | false => rfl
    | true =>
      obtain ⟨y, h2, h3⟩ := this.mp r
      rw [h] at h2; cases h2
      rw [q] at h3; cases h3
theorem in_over {s : List D} {i : Nat} {x : D} (h : s[i]? = some x) : inD (dI i) (.lst (overL s)) = some (.bl (isNonB x)) := by
  have h1 := notin_over h
  unfold notInD at h1
  unfold inD
  cases e : inB (dI i) (.lst (overL s)) with
  | none => rw [e] at h1; cases h1
  | some b =>
    rw [e] at h1
    simp only [Option.map_some, Option.some.injEq, D.bl.injEq] at h1 ⊢
    cases b <;> cases hx : isNonB x <;> simp_all
end
end Kk03
set_option Elab.async false
set_option linter.all false
set_option maxRecDepth 100000
set_option maxHeartbeats 2000000
namespace Kk03
open PySem L2 FD
theorem exs_ownC {ρ : List En} {i : Nat} {a : FA} {xs ys : List D} (ha : EX (a ρ) xs) (h : listD xs = some (.lst ys)) : EX (sOwnC i a ρ) (.nx (ρ.set i (.own ys))) := fun g => by
  simp only [sOwnC, ha g, M.bd, h]
section
variable {k d : D} {n : Nat} {G : List D → List D → List D → Prop} {L : Nat → List D → D → Nat → Prop}
/-! ## run_out -/
theorem able_head {s : List D} {i : Nat} {x : D} (hb : ∀ m, m < i → s[m]? = some .non) (hs : s[i]? = some x) (hn : isNonB x = false) : ∃ r, ableL s = dI i :: r := by
  have hl := (List.getElem?_eq_some_iff.mp hs).1
  unfold ableL
  refine ⟨((rngD 0 s.length).drop (i + 1)).filter (goes s), List.filter_eq_cons_iff.mpr ⟨(rngD 0 s.length).take i, (rngD 0 s.length).drop (i + 1), ?_, ?_, ?_, rfl⟩⟩
  · have hr : i < (rngD 0 s.length).length := by rw [rng_len]; exact hl
    have e : (rngD 0 s.length)[i] = dI i := by simp [rngD]
    have := List.take_append_drop i (rngD 0 s.length)
    rw [List.drop_eq_getElem_cons hr, e] at this
    exact this.symm
  · intro y hy
    obtain ⟨j, hj⟩ := List.getElem?_of_mem hy
    rw [List.getElem?_take] at hj
    split at hj
    · rename_i lt
      unfold rngD at hj
      rw [List.getElem?_map, List.getElem?_range (by omega)] at hj
      cases hj
      show ¬ goes s (.int (0 + (j : Int))) = true
      rw [show (0 : Int) + (j : Int) = ((j : Nat) : Int) by omega, goes_at (hb j lt)]
      simp [isNonB]
    · cases hj
  · rw [goes_at hs, hn]; rfl
theorem able_nil {s : List D} (hb : ∀ m, m < s.length → s[m]? = some .non) : ableL s = [] := by
  unfold ableL
  rw [List.filter_eq_nil_iff]
  intro y hy
  obtain ⟨m, rfl, hm⟩ := mem_rngI hy
  rw [goes_at (hb m hm)]
  simp [isNonB]
inductive Out (R : D → Nat → D → Prop) : D → List Nat → D → Prop
  | nil {c s t : List D} : ableL s = [] → Out R (stD3 c s t) [] (stD3 c s t)
  | cons {c s t : List D} {i : Nat} {S' U : D} {more : List Nat} : (∃ r, ableL s = dI i :: r) → R (stD3 c s t) i S' → Out R S' more U → Out R (stD3 c s t) (i :: more) U
noncomputable abbrev outC : FT := cTU (cV 4)
noncomputable abbrev outB : FS := (sSeq (sApp 3 (cOp ixD (cV 4) (cD (.int 0)))) (sSeq (sAsg (cFn 3 f_standing_behind (cC (cV 0) (cC (cV 2) (cC (cOp ixD (cV 4) (cD (.int 0))) cN)))) (gN 2)) (sAsg (cFn 2 f_can_step (cC (cV 0) (cC (cV 2) cN))) (gN 4))))
theorem out_loop (Y : Sys3 k d n G L) {W : En} : ∀ (M : Nat) (c s t : List D) (i v : Nat), i ≤ n → v + (n - i) * 121 = M → G c s t → (∀ m, m < i → s[m]? = some .non) → (∀ x, s[i]? = some x → L i c x v) →
    ∀ (N : Nat) (pre : List D), M < N → pre.length + M ≤ 1000 → ∃ more U, Out (Sr (thePlay k d) n G) (stD3 c s t) more U ∧ more.length ≤ M ∧ EX (whileN outC outB N [.dt (thePlay k d), W, .dt (stD3 c s t), .own pre, .dt (.tup (ableL s))]) (.nx [.dt (thePlay k d), W, .dt U, .own (pre ++ more.map dI), .dt (.tup [])]) := by
  intro M
  induction M using Nat.strongRecOn with
  | ind M ih =>
    intro c s t i v hi hM hG hb hL N pre hN hp
    obtain ⟨cl, sl, tl⟩ := Y.len _ _ _ hG
    have n5 := Y.n5
    obtain ⟨N, rfl⟩ : ∃ N', N = N' + 1 := ⟨N - 1, by omega⟩
    by_cases hin : i = n
    · have ea := able_nil (s := s) fun m hm => hb m (by omega)
      refine ⟨[], _, .nil ea, by simp, fun g => ?_⟩
      rw [ea, List.map_nil, List.append_nil]
      rfl
    · have hs : s[i]? = some (s[i]'(by omega)) := List.getElem?_eq_getElem _
      generalize s[i]'(by omega) = x at hs
      cases hn : isNonB x with
      | true =>
        have hx := isNonB_of hn
        subst hx
        have h0 : (n - i) * 121 = (n - (i + 1)) * 121 + 121 := by
          obtain ⟨q, hq⟩ : ∃ q, n - i = q + 1 := ⟨n - i - 1, by omega⟩
          rw [hq, show n - (i + 1) = q by omega, Nat.succ_mul]
        obtain ⟨more, U, o, l, e⟩ := ih (120 + (n - (i + 1)) * 121) (by omega) c s t (i + 1) 120 (by omega) rfl hG (fun m hm => by
          by_cases e : m = i
          · rw [e]; exact hs
          · exact hb m (by omega)) (fun x hx => Y.begin _ _ _ _ _ hG hx) (N + 1) pre (by omega) (by omega)
        exact ⟨more, U, o, by omega, e⟩
      | false =>
        obtain ⟨r, ea⟩ := able_head hb hs hn
        obtain ⟨ci, ti, c', s', t', w, e1, e2, e3, e4, e5, e6, e7⟩ := Y.step c s t i x hG hs hn
        obtain ⟨v1, hv⟩ := e7 v (hL x hs)
        have il : i < n := by omega
        have sr : Sr (thePlay k d) n G (stD3 c s t) i (stD3 (c.set i c') (s.set i s') (t.set i t')) := ⟨c, s, t, x, ci, ti, c', s', t', w, rfl, hG, il, hs, hn, e1, e2, rfl, e3, e4, e5, e6⟩
        obtain ⟨more, U, o, l, e⟩ := ih (M - 1) (by omega) (c.set i c') (s.set i s') (t.set i t') i (v - 1) hi (by omega) e5 (fun m hm => by
          rw [List.getElem?_set_ne (by omega)]; exact hb m hm) (fun y hy => by
          rw [List.getElem?_set_self (by omega)] at hy
          cases hy
          exact hv) N (pre ++ [dI i]) (by omega) (by simp; omega)
        refine ⟨i :: more, U, .cons ⟨r, ea⟩ sr o, by simp; omega, fun g => ?_⟩
        have b : EX (outB [.dt (thePlay k d), W, .dt (stD3 c s t), .own pre, .dt (.tup (ableL s))]) (.nx [.dt (thePlay k d), W, .dt (stD3 (c.set i c') (s.set i s') (t.set i t')), .own (pre ++ [dI i]), .dt (.tup (ableL (s.set i s')))]) := by
          have hd : ixD (.tup (ableL s)) (.int 0) = some (dI i) := by rw [ea]; exact ix_nat (i := 0) rfl
          refine exs_seq (exs_app rfl (by omega) (ex_op (ex_v rfl) ex_d hd)) ?_
          refine exs_seq (exs_asg (ex_fn (ex_c (ex_v rfl) (ex_c (ex_v rfl) (ex_c (ex_op (ex_v rfl) ex_d hd) ex_n))) e3) rfl) ?_
          exact exs_asg (ex_fn (ex_c (ex_v rfl) (ex_c (ex_v rfl) ex_n)) (can_step_eq (by rw [List.length_set]; omega) _ _ _)) rfl
        have cg : outC [.dt (thePlay k d), W, .dt (stD3 c s t), .own pre, .dt (.tup (ableL s))] g = some (.ok true g) := by
          rw [ea]; rfl
        unfold whileN
        rw [cg]
        simp only [b g]
        rw [e g]
        simp
theorem run_out_ok (Y : Sys3 k d n G L) {W S T : D} {w : List Nat} {Ss : List D} (hW : IsX W (w.map dI)) (ef : EX (f_first_standing [thePlay k d]) S) (gS : Gd G S) (h : Pth3 (Sr (thePlay k d) n G) S w Ss T) (hl : w.length ≤ 200) :
    ∃ more U, EX (f_run_out [thePlay k d, W]) (.tup ((w ++ more).map dI)) ∧ Out (Sr (thePlay k d) n G) T more U ∧ more.length ≤ 725 := by
  obtain ⟨c, s, t, rfl, hG⟩ := h.good gS
  obtain ⟨cl, sl, tl⟩ := Y.len _ _ _ hG
  have n5 := Y.n5
  have m5 : (n - 0) * 121 ≤ 605 := by
    have := Nat.mul_le_mul_right 121 (show n - 0 ≤ 5 by omega)
    omega
  obtain ⟨more, U, o, l, e⟩ := out_loop Y (W := .dt W) _ c s t 0 120 (by omega) rfl hG (fun m hm => by omega) (fun x hx => Y.begin _ _ _ _ _ hG hx) 1000 (w.map dI) (by omega) (by simp; omega)
  refine ⟨more, U, ?_, o, by omega⟩
  have hlist : listD [W] = some (.lst (w.map dI)) := by rcases hW with rfl | rfl <;> rfl
  refine exfX (N := 5) (exs_seq (exs_asg (ex_fnX (ex_c (ex_v rfl) (ex_c (ex_v rfl) ex_n)) (run_ok Y hW ef h (by omega))) rfl) ?_)
  refine exs_seq (ρ1 := [.dt (thePlay k d), .dt W, .dt (stD3 c s t), .own (w.map dI), .un]) (exs_ownC (ex_c (ex_v rfl) ex_n) hlist) ?_
  refine exs_seq (exs_asg (ex_fn (ex_c (ex_v rfl) (ex_c (ex_v rfl) ex_n)) (can_step_eq (by omega) _ _ _)) rfl) ?_
  refine exs_seq e (exs_frz rfl (exs_ret (ex_call (ex_c (ex_v rfl) ex_n) ?_)))
  rw [List.map_append]; rfl
/-- the law's look at it -/
noncomputable abbrev orB : FS := (sSeq (sAsg (cFn 2 f_can_step (cC (cV 0) (cC (cV 4) cN))) (gN 6)) (sSeq (sIf (cOr (cT (cOp eqD (cCall lenD (cC (cV 6) cN)) (cD (.int 0)))) (cT (cOp neD (cV 5) (cOp ixD (cV 6) (cD (.int 0)))))) (sRet (cD (.bl false))) sNx) (sAsg (cFn 3 f_step (cC (cV 0) (cC (cV 4) (cC (cV 5) cN)))) (gN 4))))
theorem step_of (Y : Sys3 k d n G L) {S S' : D} {i : Nat} (h : Sr (thePlay k d) n G S i S') : EX (f_step [thePlay k d, S, dI i]) S' := by
  obtain ⟨c, s, t, x, ci, ti, c', s', t', w, rfl, hG, hi, hs, hn, _, _, _, e, _⟩ := h.e
  exact step_gen Y.many hi hs hn e
theorem or_loop (Y : Sys3 k d n G L) {a b : En} {x1 : En} {T U : D} {more : List Nat} (o : Out (Sr (thePlay k d) n G) T more U) (gT : Gd G T) : ∀ (x5 x6 : En), ∃ y5 y6, EX (loopD (gN 5) orB (more.map dI) [.dt (thePlay k d), x1, a, b, .dt T, x5, x6]) (.nx [.dt (thePlay k d), x1, a, b, .dt U, y5, y6]) ∧ ∃ c s t, U = stD3 c s t ∧ ableL s = [] ∧ G c s t := by
  induction o with
  | @nil c s t ha =>
    intro x5 x6
    obtain ⟨c', s', t', e, hG⟩ := gT
    obtain ⟨rfl, rfl, rfl⟩ := stD3_inj e
    exact ⟨x5, x6, exl_nil, _, _, _, rfl, ha, hG⟩
  | @cons c s t i S' U more ha r o ih =>
    intro x5 x6
    obtain ⟨c', s', t', e, hG⟩ := gT
    obtain ⟨rfl, rfl, rfl⟩ := stD3_inj e
    obtain ⟨cl, sl, tl⟩ := Y.len _ _ _ hG
    have n5 := Y.n5
    obtain ⟨y5, y6, e1, h2⟩ := ih r.good (.dt (dI i)) (.dt (.tup (ableL s)))
    refine ⟨y5, y6, exl_nx (ρ1 := [.dt (thePlay k d), x1, a, b, .dt (stD3 c s t), .dt (dI i), x6]) rfl ?_ e1, h2⟩
    obtain ⟨rr, ha⟩ := ha
    refine exs_seq (exs_asg (ex_fn (ex_c (ex_v rfl) (ex_c (ex_v rfl) ex_n)) (can_step_eq (by omega) _ _ _)) rfl) ?_
    refine exs_seq (exs_if0 (ext_or0 (ext (ex_op (ex_call (ex_c (ex_v rfl) ex_n) rfl) ex_d ?_)) (ext (ex_op (ex_v rfl) (ex_op (ex_v rfl) ex_d (z := dI i) (by rw [ha]; exact ix_nat (i := 0) rfl)) ?_))) exs_nx) (exs_asg (ex_fn (ex_c (ex_v rfl) (ex_c (ex_v rfl) (ex_c (ex_v rfl) ex_n))) (step_of Y r)) rfl)
    · rw [ha, eqD_int]
      congr 2
    · rw [neD_int]; simp
theorem out_right (Y : Sys3 k d n G L) {S T U : D} {w more : List Nat} {Ss : List D} {x1 : D} (ef : EX (f_first_standing [thePlay k d]) S) (gS : Gd G S) (h : Pth3 (Sr (thePlay k d) n G) S w Ss T) (hl : w.length ≤ 200) (o : Out (Sr (thePlay k d) n G) T more U) (hm : more.length ≤ 725) :
    EX (f_law_out_right [thePlay k d, x1, .lst (w.map dI), .tup ((w ++ more).map dI)]) (.bl true) := by
  obtain ⟨y5, y6, e, c, s, t, rfl, ha, hG⟩ := or_loop Y (x1 := .dt x1) (a := .dt (.lst (w.map dI))) (b := .dt (.tup ((w ++ more).map dI))) o (h.good gS) .un .un
  obtain ⟨cl, sl, tl⟩ := Y.len _ _ _ hG
  have n5 := Y.n5
  have et : (((w ++ more).map dI).take (w.map dI).length) = w.map dI := by rw [List.map_append, List.take_left]
  have ed : (((w ++ more).map dI).drop (w.map dI).length) = more.map dI := by rw [List.map_append, List.drop_left]
  refine exf (N := 7) ?_
  refine exs_seq (exs_if0 (ext_or0 (ext_not (b := true) (ext (ex_1 (ex_v rfl) rfl))) (ext (ex_op (ex_sl (ex_v rfl) exo_n (exo_s (ex_call (ex_c (ex_v rfl) ex_n) rfl)) (z := .tup (w.map dI)) ?_) (ex_call (ex_c (ex_v rfl) ex_n) rfl) (ne_plain (ints_plain (by omega)) (by decide))))) exs_nx) ?_
  · show some (D.tup (cutD ((w ++ more).map dI) none (some (((w.map dI).length : Nat) : Int)))) = _
    rw [cut_take, et]
  refine exs_seq (exs_asg (ex_fn (ex_c (ex_v rfl) (ex_c (ex_v rfl) ex_n)) (run_ok Y (.inr rfl) ef h (by omega))) rfl) ?_
  refine exs_seq (exs_for (exi_s (x := .tup (more.map dI)) (ex_sl (ex_v rfl) (exo_s (ex_call (ex_c (ex_v rfl) ex_n) rfl)) exo_n ?_) rfl) e) ?_
  · show some (D.tup (cutD ((w ++ more).map dI) (some (((w.map dI).length : Nat) : Int)) none)) = _
    rw [cut_drop, ed]
  refine exs_ret (ex_op (ex_call (ex_c (ex_fn (ex_c (ex_v rfl) (ex_c (ex_v rfl) ex_n)) (can_step_eq (by omega) _ _ _)) ex_n) rfl) ex_d ?_)
  rw [ha]; rfl
/-! ## the first that is bad, by the law -/
noncomputable abbrev fbB : FS := (sSeq (sIf (cOr (cNot (cT (cFn 3 f_law_is_within (cC (cOp ixD (cV 2) (cV 4)) (cC (cD (.int 0)) (cC (cOp subD (cV 1) (cD (.int 1))) cN)))))) (cT (cOp inD (cOp ixD (cV 2) (cV 4)) (cFn 1 f_law_over (cC (cV 3) cN))))) (sRet (cV 4)) sNx) (sAsg (cFn 3 f_step (cC (cV 0) (cC (cV 3) (cC (cOp ixD (cV 2) (cV 4)) cN)))) (gN 3)))
theorem fb_along (Y : Sys3 k d n G L) {W : D} {xs : List D} (hW : ∀ (j : Nat) (x : D), xs[j]? = some x → ixD W (dI j) = some x) {S T : D} {w : List Nat} {Ss : List D} (h : Pth3 (Sr (thePlay k d) n G) S w Ss T) :
    ∀ (j m : Nat) (x4 : En), (∀ q i, w[q]? = some i → xs[j + q]? = some (dI i)) → ∃ y4, ∀ g, loopD (gN 4) fbB (rngD (j : Int) (w.length + m)) [.dt (thePlay k d), .dt (.int (n : Nat)), .dt W, .dt S, x4] g = loopD (gN 4) fbB (rngD ((j + w.length : Nat) : Int) m) [.dt (thePlay k d), .dt (.int (n : Nat)), .dt W, .dt T, y4] g := by
  induction h with
  | nil => exact fun j m x4 _ => ⟨x4, fun g => by simp⟩
  | @cons S S' T i w Ss r h ih =>
    intro j m x4 hx
    obtain ⟨y4, e⟩ := ih (j + 1) m (.dt (dI j)) fun q i hq => by
      rw [show j + 1 + q = j + (q + 1) by omega]
      exact hx (q + 1) i (by simpa using hq)
    refine ⟨y4, fun g => ?_⟩
    rw [List.length_cons, show w.length + 1 + m = (w.length + m) + 1 by omega, rngD_cons, show j + (w.length + 1) = j + 1 + w.length by omega, ← e g]
    have e0 := hW _ _ (hx 0 i rfl)
    rw [Nat.add_zero] at e0
    obtain ⟨c, s, t, x, ci, ti, c', s', t', wd, rfl, hG, hi, hs, hn, _⟩ := r.e
    obtain ⟨cl, sl, tl⟩ := Y.len _ _ _ hG
    have n5 := Y.n5
    have e1 : ((j : Int) + 1) = ((j + 1 : Nat) : Int) := by omega
    rw [e1]
    refine loop_nx (ρ1 := [.dt (thePlay k d), .dt (.int (n : Nat)), .dt W, .dt (stD3 c s t), .dt (dI j)]) rfl ?_ g
    have hb : inR 0 ((n : Int) - 1) (dI i) = true := by simp [inR]; omega
    have lw : EX (f_law_is_within [dI i, .int 0, .int ((n : Int) - 1)]) (.bl true) := fun g => by rw [law_is_within_eq 0 _ rfl g, hb]
    refine exs_seq (exs_if0 (ext_or0 (ext_not (b := true) (ext (ex_fn (ex_c (ex_op (ex_v rfl) (ex_v rfl) e0) (ex_c ex_d (ex_c (ex_op (ex_v rfl) ex_d rfl) ex_n))) lw))) (ext (ex_op (ex_op (ex_v rfl) (ex_v rfl) e0) (ex_fn (ex_c (ex_v rfl) ex_n) (over_eq (by omega))) ?_))) exs_nx) (exs_asg (ex_fn (ex_c (ex_v rfl) (ex_c (ex_v rfl) (ex_c (ex_op (ex_v rfl) (ex_v rfl) e0) ex_n))) (step_of Y r)) rfl)
    rw [in_over hs, hn]
theorem isX_len {W : D} {xs : List D} (h : IsX W xs) : lenD [W] = some (.int (xs.length : Nat)) := by rcases h with rfl | rfl <;> rfl
theorem isX_ix {W : D} {xs : List D} (h : IsX W xs) : ∀ (j : Nat) (x : D), xs[j]? = some x → ixD W (dI j) = some x := fun j x hx => by
  rcases h with rfl | rfl
  · exact ix_nat hx
  · exact ixl_nat hx
theorem isX_not {W : D} {xs : List D} (h : IsX W xs) {ρ : List En} (hi : ρ[2]? = some (.dt W)) : EX (cAnd (cNot (cT (cIs "list" (cV 2)))) (cNot (cT (cIs "tuple" (cV 2)))) ρ) false := by
  rcases h with rfl | rfl
  · exact ext_and1 (ext_not (b := false) (ext (ex_1 (ex_v hi) rfl))) (ext_not (b := true) (ext (ex_1 (ex_v hi) rfl)))
  · exact ext_and0 (ext_not (b := true) (ext (ex_1 (ex_v hi) rfl)))
theorem fb_ok (Y : Sys3 k d n G L) {W S T : D} {w : List Nat} {Ss : List D} (hW : IsX W (w.map dI)) (ef : EX (f_first_standing [thePlay k d]) S) (h : Pth3 (Sr (thePlay k d) n G) S w Ss T) (hl : w.length ≤ 900) : EX (f_law_first_bad [thePlay k d, .int (n : Nat), W]) .non := by
  obtain ⟨y4, e⟩ := fb_along Y (isX_ix hW) h 0 0 .un fun q i hq => by rw [Nat.zero_add, List.getElem?_map, hq]; rfl
  have ln := isX_len hW
  rw [List.length_map] at ln
  refine exf (N := 5) (exs_seq (exs_if0 (isX_not hW rfl) exs_nx) (exs_seq (exs_asg (ex_fn (ex_c (ex_v rfl) ex_n) ef) rfl) (exs_seq (exs_for (exi_r (n := w.length) (ex_call (ex_c (ex_v rfl) ex_n) ln) (by omega)) fun g => (e g).trans rfl) (exs_ret ex_d))))
theorem fb_bad (Y : Sys3 k d n G L) {W S x : D} {w : List Nat} {Ss rest c s t : List D} (hW : IsX W (w.map dI ++ x :: rest)) (ef : EX (f_first_standing [thePlay k d]) S) (h : Pth3 (Sr (thePlay k d) n G) S w Ss (stD3 c s t)) (hG : G c s t) (hl : (w.map dI ++ x :: rest).length ≤ 900) (hx : fine x = true) (hb : Bad n s x) :
    EX (f_law_first_bad [thePlay k d, .int (n : Nat), W]) (.int (w.length : Nat)) := by
  have ln := isX_len hW
  have ll : (w.map dI ++ x :: rest).length = w.length + (rest.length + 1) := by simp
  rw [ll] at ln hl
  obtain ⟨y4, e⟩ := fb_along Y (isX_ix hW) h 0 (rest.length + 1) .un fun q i hq => by
    have hq2 := (List.getElem?_eq_some_iff.mp hq).1
    rw [Nat.zero_add, List.getElem?_append_left (by simpa using hq2), List.getElem?_map, hq]; rfl
  obtain ⟨cl, sl, tl⟩ := Y.len _ _ _ hG
  have n5 := Y.n5
  refine exf (N := 5) (exs_seq (exs_if0 (isX_not hW rfl) exs_nx) (exs_seq (exs_asg (ex_fn (ex_c (ex_v rfl) ex_n) ef) rfl) (exs_rt (exs_for (exi_r (n := w.length + (rest.length + 1)) (ex_call (ex_c (ex_v rfl) ex_n) ln) (by omega)) fun g => (e g).trans ?_))))
  rw [rngD_cons, Nat.zero_add]
  have e0 := isX_ix hW w.length x (by rw [List.getElem?_append_right (by simp)]; simp)
  have lw : EX (f_law_is_within [x, .int 0, .int ((n : Int) - 1)]) (.bl (inR 0 ((n : Int) - 1) x)) := fun g => law_is_within_eq 0 _ hx g
  refine exl_rt (ρ1 := [.dt (thePlay k d), .dt (.int (n : Nat)), .dt W, .dt (stD3 c s t), .dt (dI w.length)]) rfl (exs_rt (exs_if1 ?_ (exs_ret (ex_v rfl)))) g
  rcases hb with h1 | ⟨i, rfl, hi, hs⟩
  · rw [h1] at lw
    exact ext_or1 (ext_not (b := false) (ext (ex_fn (ex_c (ex_op (ex_v rfl) (ex_v rfl) e0) (ex_c ex_d (ex_c (ex_op (ex_v rfl) ex_d rfl) ex_n))) lw)))
  · have hr : inR 0 ((n : Int) - 1) (dI i) = true := by simp [inR]; omega
    rw [hr] at lw
    refine ext_or0 (ext_not (b := true) (ext (ex_fn (ex_c (ex_op (ex_v rfl) (ex_v rfl) e0) (ex_c ex_d (ex_c (ex_op (ex_v rfl) ex_d rfl) ex_n))) lw))) (ext (ex_op (ex_op (ex_v rfl) (ex_v rfl) e0) (ex_fn (ex_c (ex_v rfl) ex_n) (over_eq (by omega))) ?_))
    rw [in_over hs]; rfl
/-! ## what is told of a bent weaving -/
theorem told_x {P W v : D} (which : Int) (h : XF (f_standings_along [P, W]) "NoWeaving" "index" v) : EX (f_law_told [.int which, P, W]) (.tup [.str "NoWeaving", v]) := by
  refine exf (N := 4) (try1_ex ?_ rfl)
  have two : ∀ {Fn : List D → Gh → M D}, XF (Fn [P, W]) "NoWeaving" "index" v → ∀ {ρ : List En}, ρ[1]? = some (.dt P) → ρ[2]? = some (.dt W) → XF (sRet (cTup (cC (cD (.str "told")) (cC (cFnX 2 Fn (cC (cV 1) (cC (cV 2) cN))) cN))) ρ) "NoWeaving" "index" v := fun {Fn} hF {ρ} h1 h2 => xf_ret (xf_tup (xf_c2 ex_d (xf_c1 (xf_fnX (ex_c (ex_v h1) (ex_c (ex_v h2) ex_n)) hF))))
  by_cases h0 : which = 0
  · subst h0
    exact xf_seq1 (xf_if1 (ext (ex_op (ex_v rfl) ex_d (eqD_int _ _))) (two (run_x h) rfl rfl))
  · refine xf_seq (exs_if0 (ext (ex_op (ex_v rfl) ex_d (by rw [eqD_int]; simp [h0]))) exs_nx) ?_
    by_cases h1 : which = 1
    · subst h1
      exact xf_seq1 (xf_if1 (ext (ex_op (ex_v rfl) ex_d (eqD_int _ _))) (two (events_x h) rfl rfl))
    · exact xf_seq (exs_if0 (ext (ex_op (ex_v rfl) ex_d (by rw [eqD_int]; simp [h1]))) exs_nx) (two (run_out_x h) rfl rfl)
theorem told_ok {P W a b c : D} (which : Int) (h1 : EX (f_run [P, W]) a) (h2 : EX (f_events [P, W]) b) (h3 : EX (f_run_out [P, W]) c) : ∃ x, EX (f_law_told [.int which, P, W]) (.tup [.str "told", x]) := by
  have two : ∀ {Fn : List D → Gh → M D} {r : D}, EX (Fn [P, W]) r → ∀ {ρ : List En}, ρ[1]? = some (.dt P) → ρ[2]? = some (.dt W) → EX (sRet (cTup (cC (cD (.str "told")) (cC (cFnX 2 Fn (cC (cV 1) (cC (cV 2) cN))) cN))) ρ) (.rt (.tup [.str "told", r])) := fun {Fn r} hF {ρ} h1 h2 => exs_ret (ex_tup (ex_c ex_d (ex_c (ex_fnX (ex_c (ex_v h1) (ex_c (ex_v h2) ex_n)) hF) ex_n)))
  by_cases h0 : which = 0
  · subst h0
    exact ⟨a, exf (N := 4) (try1_ok (exs_rt (exs_if1 (ext (ex_op (ex_v rfl) ex_d (eqD_int _ _))) (two h1 rfl rfl))))⟩
  · have c0 : ∀ {ρ : List En}, ρ[0]? = some (.dt (.int which)) → EX (cT (cOp eqD (cV 0) (cD (.int 0))) ρ) false := fun hp => ext (ex_op (ex_v hp) ex_d (by rw [eqD_int]; simp [h0]))
    by_cases e1 : which = 1
    · subst e1
      exact ⟨b, exf (N := 4) (try1_ok (exs_seq (exs_if0 (c0 rfl) exs_nx) (exs_rt (exs_if1 (ext (ex_op (ex_v rfl) ex_d (eqD_int _ _))) (two h2 rfl rfl)))))⟩
    · exact ⟨c, exf (N := 4) (try1_ok (exs_seq (exs_if0 (c0 rfl) exs_nx) (exs_seq (exs_if0 (ext (ex_op (ex_v rfl) ex_d (by rw [eqD_int]; simp [e1]))) exs_nx) (two h3 rfl rfl))))⟩
end
end Kk03
set_option Elab.async false
set_option linter.all false
set_option maxRecDepth 100000
set_option maxHeartbeats 2000000
namespace Kk03
open PySem L2 FD
/-! # what is drawn -/
theorem ex_oix {ρ : List En} {i : Nat} {b : FE} {xs : List D} {z : Int} {d : D} (hi : ρ[i]? = some (.own xs)) (hb : EX (b ρ) (.int z)) (h : atI xs z = some d) : EX (cOIx i b ρ) d := fun g => by
  simp only [cOIx, hi, hb g, M.bd, h]; rfl
theorem at_last {xs : List D} {d : D} : atI (xs ++ [d]) (-1) = some d := ix_lastL
theorem t_pickT {xs : List D} (h0 : 0 < xs.length) (h1 : xs.length ≤ 1000) : TM (f_law_pick [.hnd, .tup xs]) (fun d => d ∈ xs) := by
  refine tf_fn (N := 2) (ts_ret (P := fun d => d ∈ xs) (te_op (P := fun d => d = .tup xs) (te_v rfl rfl) (te_take (m := (xs.length : Nat)) (te_call (fa_c (P := fun d => d = .tup xs) (te_v rfl rfl) fa_n) ?_) (by omega) (by omega)) ?_) fun x hx => ⟨x, rfl, hx⟩)
  · intro ys hy
    obtain ⟨y, rfl, rfl⟩ := fit1 hy
    exact ⟨_, rfl, rfl⟩
  · rintro x y rfl ⟨v, rfl, h0, h1⟩
    have hv : v.toNat < xs.length := by omega
    refine ⟨xs[v.toNat], ?_, List.getElem_mem hv⟩
    rw [ixD_tup h0, List.getElem?_eq_getElem hv]
section
variable {k d : D} {n : Nat} {G : List D → List D → List D → Prop} {L : Nat → List D → D → Nat → Prop}
abbrev envW (P m mo : D) (Ss fd : List D) (x6 x7 x8 : En) : List En := [.dt .hnd, .dt P, .dt m, .dt mo, .own Ss, .own fd, x6, x7, x8]
theorem t_walked (Y : Sys3 k d n G L) {S : D} {most : Int} (m0 : 0 ≤ most) (m1 : most ≤ 60) (ef : EX (f_first_standing [thePlay k d]) S) (gS : Gd G S) :
    TM (f_law_walked [.hnd, thePlay k d, .int (n : Nat), .int most]) (fun x => ∃ w Ss T, x = .tup [.lst (w.map dI), .lst Ss] ∧ Pth3 (Sr (thePlay k d) n G) S w Ss T ∧ w.length ≤ 60) := by
  refine tf_fn (N := 9) ?_
  refine ts_ex (ρ1 := [.dt .hnd, .dt (thePlay k d), .dt (.int (n : Nat)), .dt (.int most), .own [S], .un, .un, .un, .un]) (exs_ownL (ex_c (ex_fn (ex_c (ex_v rfl) ex_n) ef) ex_n)) ?_
  refine ts_ex (ρ1 := envW (thePlay k d) (.int (n : Nat)) (.int most) [S] [] .un .un .un) exs_own ?_
  refine ts_seq (I := fun ρ1 => ∃ w Ss T x6 x7 x8, ρ1 = envW (thePlay k d) (.int (n : Nat)) (.int most) Ss (w.map dI) x6 x7 x8 ∧ Pth3 (Sr (thePlay k d) n G) S w Ss T ∧ w.length ≤ 60) (ts_for (ds := rngD 0 most.toNat) (ti_rng m0 (by omega) (te_v rfl rfl)) ?_) ?_
  · refine (t_loopBN (N := 60) (I := fun q ρ1 => ∃ w Ss T x6 x7 x8, ρ1 = envW (thePlay k d) (.int (n : Nat)) (.int most) Ss (w.map dI) x6 x7 x8 ∧ Pth3 (Sr (thePlay k d) n G) S w Ss T ∧ w.length ≤ q) ?_ ?_ _ 0 _ (by rw [rng_len]; omega) ⟨[], [S], S, _, _, _, rfl, .nil, by simp⟩).imp ?_
    · rintro q _ ⟨w, Ss, T, x6, x7, x8, rfl, h, hl⟩
      exact ⟨w, Ss, T, _, _, _, rfl, h, by omega⟩
    · rintro e q _ hq ⟨w, Ss, T, x6, x7, x8, rfl, h, hl⟩
      refine ⟨_, rfl, ?_⟩
      obtain ⟨pre, rfl⟩ := h.last
      have pl := h.len
      obtain ⟨c, s, t, rfl, hG⟩ := h.good gS
      obtain ⟨cl, sl, tl⟩ := Y.len _ _ _ hG
      have n5 := Y.n5
      refine ts_ex (ρ1 := envW (thePlay k d) (.int (n : Nat)) (.int most) (pre ++ [stD3 c s t]) (w.map dI) (.dt e) (.dt (.tup (ableL s))) x8) (exs_asg (ex_fn (ex_c (ex_v rfl) (ex_c (ex_oix rfl (ex_1 ex_d rfl) at_last) ex_n)) (can_step_eq (by omega) _ _ _)) rfl) ?_
      have al := able_len s
      refine ts_brk (k := (((ableL s).length : Nat) : Int) == 0) (ext (ex_op (ex_call (ex_c (ex_v rfl) ex_n) rfl) ex_d (eqD_int _ 0))) (fun _ => ⟨_, .inr rfl, w, _, _, _, _, _, rfl, h, by omega⟩) fun hb => ?_
      have hp : 0 < (ableL s).length := by
        rcases Nat.eq_zero_or_pos (ableL s).length with z | z
        · rw [z] at hb; simp at hb
        · exact z
      refine ts_seq (I := fun ρ1 => ∃ x, ρ1 = envW (thePlay k d) (.int (n : Nat)) (.int most) (pre ++ [stD3 c s t]) (w.map dI) (.dt e) (.dt (.tup (ableL s))) (.dt x) ∧ x ∈ ableL s) (ts_asg (te_fn (fa_c (P := fun d => d = .hnd) (te_v rfl rfl) (fa_c (P := fun d => d = .tup (ableL s)) (te_v rfl rfl) fa_n)) fun xs h => ?_) fun x hx => ⟨_, rfl, _, rfl, x, rfl, hx⟩) ?_
      · obtain ⟨_, _, rfl, rfl, rfl⟩ := fit2 h
        exact ⟨rfl, t_pickT hp (by omega)⟩
      rintro _ ⟨x, rfl, hx⟩
      obtain ⟨i, y, rfl, hs, hn⟩ := mem_able hx
      obtain ⟨S', r⟩ := Y.to hG hs hn
      refine tm_ex (a := .nx (envW (thePlay k d) (.int (n : Nat)) (.int most) (pre ++ [stD3 c s t] ++ [S']) (w.map dI ++ [dI i]) (.dt e) (.dt (.tup (ableL s))) (.dt (dI i)))) ⟨_, .inl rfl, w ++ [i], _, _, _, _, _, by rw [List.map_append]; rfl, h.snoc r, by simp; omega⟩ ?_
      refine exs_seq (ρ1 := envW (thePlay k d) (.int (n : Nat)) (.int most) (pre ++ [stD3 c s t]) (w.map dI ++ [dI i]) (.dt e) (.dt (.tup (ableL s))) (.dt (dI i))) (exs_app rfl (by simp; omega) (ex_v rfl)) ?_
      exact exs_app rfl (by omega) (ex_fn (ex_c (ex_v rfl) (ex_c (ex_oix rfl (ex_1 ex_d rfl) at_last) (ex_c (ex_v rfl) ex_n))) (step_of Y r))
    · rintro f ⟨ρ2, rfl, w, Ss, T, x6, x7, x8, rfl, h, hl⟩
      exact ⟨_, rfl, w, Ss, T, x6, x7, x8, rfl, h, by rw [rng_len] at hl; omega⟩
  rintro _ ⟨w, Ss, T, x6, x7, x8, rfl, h, hl⟩
  exact tm_ex ⟨_, rfl, w, Ss, T, rfl, h, hl⟩ (exs_frz rfl (exs_frz rfl (exs_ret (ex_tup (ex_c (ex_v rfl) (ex_c (ex_v rfl) ex_n))))))
/-- a bent weaving: a list of whatever, or no list or tuple -/
def Bent (x : D) : Prop := (∃ xs, x = .lst xs ∧ xs.length ≤ 80 ∧ ∀ y ∈ xs, fine y = true) ∨ (isTTD "list" "tuple" x = some (.bl false) ∧ isTyD "list" x = some (.bl false) ∧ isTyD "tuple" x = some (.bl false))
theorem add_ll {xs ys : List D} (h : xs.length + ys.length ≤ 1000) : addD (.lst xs) (.lst ys) = some (.lst (xs ++ ys)) := if_pos h
theorem mul_l1 {x : D} {m : Int} (h0 : 0 ≤ m) (h1 : m ≤ 1000) : mulD (.lst [x]) (.int m) = some (.lst (List.replicate m.toNat x)) := by
  show (if _ then _ else _) = _
  rw [if_pos ⟨by have : (2 : Int) ^ 63 = 9223372036854775808 := by decide +kernel
                 omega, by have : (2 : Int) ^ 63 = 9223372036854775808 := by decide +kernel
                           omega, by simp; omega⟩, flat_rep]
theorem sl_take {xs : List D} {i : Nat} : slD (.lst xs) none (some (i : Int)) = some (.lst (xs.take i)) := by
  show some (D.lst (cutD xs none (some (i : Int)))) = _
  rw [cut_take]
theorem sl_drop {xs : List D} {i : Nat} : slD (.lst xs) (some (i : Int)) none = some (.lst (xs.drop i)) := by
  show some (D.lst (cutD xs (some (i : Int)) none)) = _
  rw [cut_drop]
theorem t_bent {w : List Nat} (n1 : 1 ≤ n) (n5 : n ≤ 5) (hl : w.length ≤ 60) : TM (f_law_bent [.hnd, .int (n : Nat), .lst (w.map dI)]) Bent := by
  have dfine : ∀ y ∈ w.map dI, fine y = true := fun y hy => by
    obtain ⟨i, _, rfl⟩ := List.mem_map.mp hy
    rfl
  have ftake : ∀ (i : Nat), ∀ y ∈ (w.map dI).take i, fine y = true := fun i y hy => dfine y (List.mem_of_mem_take hy)
  have fdrop : ∀ (i : Nat), ∀ y ∈ (w.map dI).drop i, fine y = true := fun i y hy => dfine y (List.mem_of_mem_drop hy)
  have ltake : ∀ i : Nat, ((w.map dI).take i).length ≤ 60 := fun i => by simp; omega
  have ldrop : ∀ i : Nat, ((w.map dI).drop i).length ≤ 60 := fun i => by simp; omega
  have lboth : ∀ i : Nat, ((w.map dI).take i).length + ((w.map dI).drop i).length ≤ 60 := fun i => by simp; omega
  refine tf_fn (N := 5) ?_
  refine ts_seq (I := fun ρ1 => ∃ a : Nat, ρ1 = [.dt .hnd, .dt (.int (n : Nat)), .dt (.lst (w.map dI)), .dt (.int (a : Nat)), .un] ∧ a ≤ w.length) (ts_asg (te_take (m := ((w.length : Nat) : Int) + 1) (tm_ex (a := .int (((w.length : Nat) : Int) + 1)) rfl (ex_op (ex_call (ex_c (ex_v rfl) ex_n) rfl) ex_d (by rw [addD_int, List.length_map]))) (by omega) (by omega)) ?_) ?_
  · rintro x ⟨v, rfl, v0, v1⟩
    exact ⟨_, rfl, _, rfl, v.toNat, by rw [Int.toNat_of_nonneg v0]; rfl, by omega⟩
  rintro _ ⟨a, rfl, ha⟩
  refine ts_seq (I := fun ρ1 => ∃ v : Int, ρ1 = [.dt .hnd, .dt (.int (n : Nat)), .dt (.lst (w.map dI)), .dt (.int (a : Nat)), .dt (.int v)] ∧ 0 ≤ v ∧ v < 6) (ts_asg te_takeK ?_) ?_
  · rintro x ⟨v, rfl, v0, v1⟩
    exact ⟨_, rfl, _, rfl, v, rfl, v0, v1⟩
  rintro _ ⟨v, rfl, v0, v1⟩
  refine ts_ifret (B := fun x => x = (v == 0)) (tt_int fun g => by simp) (fun hb => ?_) fun hb => ?_
  · refine ts_ret (P := Bent) (te_pick (n := 4) (me_c (te_d (.inr ⟨rfl, rfl, rfl⟩)) (me_c (te_d (.inr ⟨rfl, rfl, rfl⟩)) (me_c (te_d (.inr ⟨rfl, rfl, rfl⟩)) (me_c (te_d (.inr ⟨rfl, rfl, rfl⟩)) (me_c (te_d (.inr ⟨rfl, rfl, rfl⟩)) me_n)))))) fun x hx => ⟨x, rfl, hx⟩
  refine ts_ifret (B := fun x => x = decide (v < 3)) (tt_int fun g => by simp) (fun hb => ?_) fun hb => ?_
  · refine ts_ret (P := Bent) (te_op (P := fun x => ∃ y, x = .lst ((w.map dI).take a ++ [y]) ∧ fine y = true) (R := fun x => x = .lst ((w.map dI).drop a)) (te_op (P := fun x => x = .lst ((w.map dI).take a)) (R := fun x => ∃ y, x = .lst [y] ∧ fine y = true) (tm_ex rfl (ex_sl (ex_v rfl) exo_n (exo_s (ex_v rfl)) sl_take)) (te_lst (R := Menu 1 Fine) (me_c (te_pick (n := 5) (me_c (te_v rfl rfl) (me_c (tm_ex (a := .int (-1)) (show Fine (.int (-1)) from rfl) (ex_1 ex_d rfl)) (me_c (te_d rfl) (me_c (te_d rfl) (me_c (te_d (okS (by decide +kernel))) (me_c (te_fn (fa_c (P := fun d => d = .hnd) (te_v rfl rfl) fa_n) fun xs h => ?_) me_n))))))) me_n) ?_) ?_) (tm_ex rfl (ex_sl (ex_v rfl) (exo_s (ex_v rfl)) exo_n sl_drop)) ?_) fun x hx => ⟨x, rfl, hx⟩
    · obtain ⟨x, rfl, rfl⟩ := fit1 h
      exact ⟨rfl, t_odd⟩
    · rintro xs ⟨h1, h2⟩
      match xs, h1 with
      | [y], _ => exact ⟨by simp, y, rfl, h2 y (by simp)⟩
    · rintro x z rfl ⟨y, rfl, hy⟩
      exact ⟨_, add_ll (by have := ltake a; simp; omega), y, rfl, hy⟩
    · rintro x z ⟨y, rfl, hy⟩ rfl
      have l1 := ltake a
      have l2 := ldrop a
      refine ⟨_, add_ll (by rw [List.length_append]; simp only [List.length_singleton]; omega), .inl ⟨_, rfl, by have := lboth a; rw [List.length_append, List.length_append]; simp only [List.length_singleton]; omega, fun u hu => ?_⟩⟩
      rcases List.mem_append.mp hu with hu | hu
      · rcases List.mem_append.mp hu with hu | hu
        · exact ftake a u hu
        · rw [List.mem_singleton.mp hu]; exact hy
      · exact fdrop a u hu
  refine ts_ifret (B := fun x => x = (v == 3)) (tt_int fun g => by simp) (fun hb => ?_) fun hb => ?_
  · have e1 : (((a : Nat) : Int) + 1) = ((a + 1 : Nat) : Int) := by omega
    refine tm_ex ⟨_, rfl, .inl ⟨(w.map dI).take a ++ (w.map dI).drop (a + 1), rfl, ?_, fun u hu => ?_⟩⟩ (exs_ret (ex_op (ex_sl (ex_v rfl) exo_n (exo_s (ex_v rfl)) sl_take) (ex_sl (ex_v rfl) (exo_s (ex_op (ex_v rfl) ex_d (addD_int _ _))) exo_n (by rw [e1]; exact sl_drop)) (add_ll ?_)))
    · have l1 := ltake a
      have : ((w.map dI).drop (a + 1)).length ≤ ((w.map dI).drop a).length := by simp; omega
      have := lboth a
      rw [List.length_append]
      omega
    · rcases List.mem_append.mp hu with hu | hu
      · exact ftake a u hu
      · exact fdrop (a + 1) u hu
    · have l1 := ltake a
      have l2 := ldrop (a + 1)
      omega
  refine ts_ret (P := Bent) (te_op (P := fun x => ∃ (m : Nat) (i : Int), x = .lst ((w.map dI).take a ++ List.replicate m (.int i)) ∧ m ≤ 9) (R := fun x => x = .lst ((w.map dI).drop a)) (te_op (P := fun x => x = .lst ((w.map dI).take a)) (R := fun x => ∃ (m : Nat) (i : Int), x = .lst (List.replicate m (.int i)) ∧ m ≤ 9) (tm_ex rfl (ex_sl (ex_v rfl) exo_n (exo_s (ex_v rfl)) sl_take))
    (te_op (P := fun x => ∃ i : Int, x = .lst [.int i]) (R := fun x => ∃ m : Int, x = .int m ∧ 1 ≤ m ∧ m ≤ 9) (te_lst (R := Menu 1 (fun x => ∃ i : Int, x = .int i)) (me_c ((te_take (m := ((n : Nat) : Int)) (te_v rfl rfl) (by omega) (by omega)).imp ?_) me_n) ?_) (te_op (P := fun x => x = .int 1) (te_d rfl) te_takeK ?_) ?_) ?_) (tm_ex rfl (ex_sl (ex_v rfl) (exo_s (ex_v rfl)) exo_n sl_drop)) ?_) fun x hx => ⟨x, rfl, hx⟩
  · rintro x ⟨v, rfl, _⟩
    exact ⟨v, rfl⟩
  · rintro xs ⟨h1, h2⟩
    match xs, h1 with
    | [y], _ =>
      obtain ⟨i, rfl⟩ := h2 y (by simp)
      exact ⟨by simp, i, rfl⟩
  · rintro x y rfl ⟨v, rfl, h0, h1⟩
    exact ⟨_, rfl, 1 + v, rfl, by omega, by omega⟩
  · rintro x y ⟨i, rfl⟩ ⟨m, rfl, h0, h1⟩
    exact ⟨_, mul_l1 (by omega) (by omega), m.toNat, i, rfl, by omega⟩
  · rintro x y rfl ⟨m, i, rfl, hm⟩
    exact ⟨_, add_ll (by have := ltake a; rw [List.length_replicate]; omega), m, i, rfl, hm⟩
  · rintro x y ⟨m, i, rfl, hm⟩ rfl
    have l1 := ltake a
    have l2 := ldrop a
    refine ⟨_, add_ll (by rw [List.length_append, List.length_replicate]; omega), .inl ⟨_, rfl, by have := lboth a; rw [List.length_append, List.length_append, List.length_replicate]; omega, fun u hu => ?_⟩⟩
    rcases List.mem_append.mp hu with hu | hu
    · rcases List.mem_append.mp hu with hu | hu
      · exact ftake a u hu
      · rw [(List.mem_replicate.mp hu).2]; rfl
    · exact fdrop a u hu
end
end Kk03
set_option Elab.async false
set_option linter.all false
set_option maxRecDepth 100000
set_option maxHeartbeats 2000000
namespace Kk03
open PySem L2 FD
section
variable {k d : D} {n : Nat} {G : List D → List D → List D → Prop} {L : Nat → List D → D → Nat → Prop}
abbrev env3 (k d m W Ss : D) (x4 x5 x6 x11 x12 x13 x14 x15 : En) : List En := [.un, .dt .hnd, .dt (thePlay k d), .dt m, x4, x5, x6, .dt k, .dt d, .dt W, .dt Ss, x11, x12, x13, x14, x15]
theorem told_told : neD (.str "told") (.str "told") = some (.bl false) := by
  rw [neD_str (okS (by decide +kernel)) (okS (by decide +kernel))]; simp
noncomputable abbrev inB3 : FS := (sSeq (sAsg (cFn 3 f_law_told (cC (cV 13) (cC (cV 2) (cC (cV 11) cN)))) (gN 14)) (sIf (cOr (cAnd (cT (cOp isND (cV 12) (cD .non))) (cT (cOp neD (cOp ixD (cV 14) (cD (.int 0))) (cD (.str "told"))))) (cAnd (cT (cOp notND (cV 12) (cD .non))) (cNot (cT (cFn 2 f_law_same (cC (cV 14) (cC (cTup (cC (cD (.str "NoWeaving")) (cC (cV 12) cN))) cN))))))) (sRet (cD (.bl false))) sNx))
/-- of a bent weaving: the law's judge and the three calls say alike -/
theorem bent_says (Y : Sys3 k d n G L) {S B W Ss : D} {x4 x5 x6 : En} (ef : EX (f_first_standing [thePlay k d]) S) (gS : Gd G S) (hB : Bent B) :
    ∃ bad, EX (f_law_first_bad [thePlay k d, .int (n : Nat), B]) bad ∧ ∀ (which : Int) (x13 x14 x15 : En), ∃ y14, EX (inB3 (env3 k d (.int (n : Nat)) W Ss x4 x5 x6 (.dt B) (.dt bad) (.dt (.int which)) x14 x15)) (.nx (env3 k d (.int (n : Nat)) W Ss x4 x5 x6 (.dt B) (.dt bad) (.dt (.int which)) y14 x15)) := by
  have bad_case : ∀ v : Int, EX (f_law_first_bad [thePlay k d, .int (n : Nat), B]) (.int v) → XF (f_standings_along [thePlay k d, B]) "NoWeaving" "index" (.int v) → ∃ bad, EX (f_law_first_bad [thePlay k d, .int (n : Nat), B]) bad ∧ ∀ (which : Int) (x13 x14 x15 : En), ∃ y14, EX (inB3 (env3 k d (.int (n : Nat)) W Ss x4 x5 x6 (.dt B) (.dt bad) (.dt (.int which)) x14 x15)) (.nx (env3 k d (.int (n : Nat)) W Ss x4 x5 x6 (.dt B) (.dt bad) (.dt (.int which)) y14 x15)) := fun v h1 h2 => by
    have p3 : Kk03.plain 3 (.tup [.str "NoWeaving", .int v]) = true := by
      rw [plain_tup]
      refine ⟨by simp, fun y hy => ?_⟩
      simp only [List.mem_cons, List.not_mem_nil, or_false] at hy
      rcases hy with rfl | rfl
      · exact okS (by decide +kernel)
      · rfl
    refine ⟨_, h1, fun which x13 x14 x15 => ⟨_, exs_seq (exs_asg (ex_fn (ex_c (ex_v rfl) (ex_c (ex_v rfl) (ex_c (ex_v rfl) ex_n))) (told_x which h2)) rfl) (exs_if0 (ext_or0 (ext_and0 (ext (ex_op (ex_v rfl) ex_d rfl))) (ext_and1 (ext (ex_op (ex_v rfl) ex_d rfl)) (ext_not (b := true) (ext (ex_fn (ex_c (ex_v rfl) (ex_c (ex_tup (ex_c ex_d (ex_c (ex_v rfl) ex_n))) ex_n)) (same_plain (by decide) p3)))))) exs_nx)⟩⟩
  rcases hB with ⟨xs, rfl, hl, hf⟩ | ⟨h1, h2, h3⟩
  · rcases split_row Y xs S gS hf with ⟨w, Rs, T, rfl, h⟩ | ⟨w, Rs, c, s, t, x, rest, rfl, h, hG, hx, hb⟩
    · rw [List.length_map] at hl
      obtain ⟨more, U, er, _, _⟩ := run_out_ok Y (W := .lst (w.map dI)) (.inr rfl) ef gS h (by omega)
      obtain ⟨evs, ee, _, _⟩ := events_ok Y ef h (by omega)
      refine ⟨_, fb_ok Y (.inr rfl) ef h (by omega), fun which x13 x14 x15 => ?_⟩
      obtain ⟨z, et⟩ := told_ok which (run_ok Y (.inr rfl) ef h (by omega)) ee er
      exact ⟨_, exs_seq (exs_asg (ex_fn (ex_c (ex_v rfl) (ex_c (ex_v rfl) (ex_c (ex_v rfl) ex_n))) et) rfl) (exs_if0 (ext_or0 (ext_and1 (ext (ex_op (ex_v rfl) ex_d rfl)) (ext (ex_op (ex_op (ex_v rfl) ex_d rfl) ex_d told_told))) (ext_and0 (ext (ex_op (ex_v rfl) ex_d rfl)))) exs_nx)⟩
    · have wl : w.length ≤ 80 := by simp at hl; omega
      exact bad_case _ (fb_bad Y (.inr rfl) ef h hG (by omega) hx hb) (along_bad Y (.inr rfl) ef h (by omega) rfl hx hb)
  · refine bad_case (-1) (exf (N := 5) (exs_rt (exs_if1 (ext_and1 (ext_not (b := false) (ext (ex_1 (ex_v rfl) h2))) (ext_not (b := false) (ext (ex_1 (ex_v rfl) h3)))) (exs_ret (ex_1 ex_d rfl))))) (along_odd h1)
noncomputable abbrev evB3 : FS := (sSeq (sIf (cNot (cT (cFn 5 f_law_event_right (cC (cV 2) (cC (cOp ixD (cV 10) (cV 5)) (cC (cOp ixD (cV 10) (cOp addD (cV 5) (cD (.int 1)))) (cC (cOp ixD (cV 9) (cV 5)) (cC (cOp ixD (cV 4) (cV 5)) cN)))))))) (sRet (cD (.bl false))) sNx) (sIf (cNot (cT (cFn 2 f_law_same (cC (cFn 2 f_can_step (cC (cV 2) (cC (cOp ixD (cV 10) (cV 5)) cN))) (cC (cCall tupleD (cC (cLc (iR1 (cC (cV 3) cN)) [15] (gN 15) (cT (cOp notInD (cV 15) (cFn 1 f_law_over (cC (cOp ixD (cV 10) (cV 5)) cN)))) (cV 15)) cN)) cN))))) (sRet (cD (.bl false))) sNx))
theorem main_tm3 : TM (b_law (.un :: .dt .hnd :: List.replicate 14 .un)) (fun f => ∃ d, f = .rt d ∧ d = .bl true) := by
  refine ts_seq (I := fun ρ1 => ∃ k d, ρ1 = [.un, .dt .hnd, .un, .un, .un, .un, .un, .dt k, .dt d, .un, .un, .un, .un, .un, .un, .un] ∧ GP k d) (ts_asg (P := fun x => ∃ k d, x = .tup [k, d] ∧ GP k d) (te_fn (fa_c (P := fun d => d = .hnd) (te_v rfl rfl) fa_n) fun xs h => ?_) ?_) ?_
  · obtain ⟨x, rfl, rfl⟩ := fit1 h
    exact ⟨rfl, some_ok⟩
  · rintro x ⟨k, d, rfl, h⟩
    exact ⟨_, rfl, _, rfl, k, d, rfl, h⟩
  rintro _ ⟨k, d, rfl, gp⟩
  obtain ⟨n, G, L, Y⟩ := gp_sys3 gp
  have n1 := Y.n1
  have n5 := Y.n5
  obtain ⟨c0, s0, t0, ef, hG0⟩ := Y.first
  have gS : Gd G (stD3 c0 s0 t0) := ⟨_, _, _, rfl, hG0⟩
  generalize stD3 c0 s0 t0 = S at ef gS
  refine ts_ex (ρ1 := [.un, .dt .hnd, .dt (thePlay k d), .un, .un, .un, .un, .dt k, .dt d, .un, .un, .un, .un, .un, .un, .un]) (exs_asg (ex_fn (ex_c (ex_v rfl) (ex_c (ex_v rfl) ex_n)) fun g => gp.play g) rfl) ?_
  refine ts_ex (ρ1 := [.un, .dt .hnd, .dt (thePlay k d), .dt (.int (n : Nat)), .un, .un, .un, .dt k, .dt d, .un, .un, .un, .un, .un, .un, .un]) (exs_asg (ex_fn (ex_c (ex_v rfl) (ex_c (ex_v rfl) ex_n)) Y.lmany) rfl) ?_
  refine ts_seq (I := fun ρ1 => ∃ w Ss T, ρ1 = env3 k d (.int (n : Nat)) (.lst (w.map dI)) (.lst Ss) .un .un .un .un .un .un .un .un ∧ Pth3 (Sr (thePlay k d) n G) S w Ss T ∧ w.length ≤ 60) (ts_asg (P := fun x => ∃ w Ss T, x = .tup [.lst (w.map dI), .lst Ss] ∧ Pth3 (Sr (thePlay k d) n G) S w Ss T ∧ w.length ≤ 60) (te_fn (fa_c (P := fun d => d = .hnd) (te_v rfl rfl) (fa_c (P := fun x => x = thePlay k d) (te_v rfl rfl) (fa_c (P := fun x => x = .int (n : Nat)) (te_v rfl rfl) (fa_c (P := fun x => ∃ j : Int, x = .int j ∧ 0 ≤ j ∧ j ≤ 60) (te_pick (n := 3) (me_c (te_d ⟨_, rfl, by decide, by decide⟩) (me_c (te_d ⟨_, rfl, by decide, by decide⟩) (me_c (te_d ⟨_, rfl, by decide, by decide⟩) (me_c (te_d ⟨_, rfl, by decide, by decide⟩) me_n))))) fa_n)))) fun xs h => ?_) ?_) ?_
  · match xs, h with
    | [_, _, _, _], ⟨rfl, rfl, rfl, ⟨j, rfl, j0, j1⟩, _⟩ => exact ⟨rfl, t_walked Y j0 j1 ef gS⟩
  · rintro x ⟨w, Ss, T, rfl, h⟩
    exact ⟨_, rfl, _, rfl, w, Ss, T, rfl, h⟩
  rintro _ ⟨w, Ss, T, rfl, h, hl⟩
  have sl := h.len
  obtain ⟨evs, ee, el, eh⟩ := events_ok Y ef h (by omega)
  refine ts_ex (ρ1 := env3 k d (.int (n : Nat)) (.lst (w.map dI)) (.lst Ss) (.dt (.tup evs)) .un .un .un .un .un .un .un) (exs_asg (ex_fn (ex_c (ex_v rfl) (ex_c (ex_v rfl) ex_n)) ee) rfl) ?_
  refine ts_ex (ρ1 := env3 k d (.int (n : Nat)) (.lst (w.map dI)) (.lst Ss) (.dt (.tup evs)) .un .un .un .un .un .un .un) (exs_if0 (ext_or0 (ext_not (b := true) (ext (ex_1 (ex_v rfl) rfl))) (ext (ex_op (ex_call (ex_c (ex_v rfl) ex_n) rfl) (ex_call (ex_c (ex_v rfl) ex_n) rfl) (by rw [neD_int, el, List.length_map]; simp)))) exs_nx) ?_
  -- each event, and who can step
  have e7 : ∃ x5, EX (sFor (iR1 (cC (cCall lenD (cC (cV 9) cN)) cN)) (gN 5) evB3 (env3 k d (.int (n : Nat)) (.lst (w.map dI)) (.lst Ss) (.dt (.tup evs)) .un .un .un .un .un .un .un)) (.nx (env3 k d (.int (n : Nat)) (.lst (w.map dI)) (.lst Ss) (.dt (.tup evs)) x5 .un .un .un .un .un .un)) := by
    obtain ⟨ρ2, e, x5, rfl⟩ := exl_inv (gs := gN 5) (fb := evB3) (I := fun ρ => ∃ x5, ρ = env3 k d (.int (n : Nat)) (.lst (w.map dI)) (.lst Ss) (.dt (.tup evs)) x5 .un .un .un .un .un .un) (es := rngD 0 w.length) (fun y hy ρ hρ => by
      obtain ⟨x5, rfl⟩ := hρ
      obtain ⟨m, rfl, hm⟩ := mem_rngI hy
      obtain ⟨A, i, B, e, f1, f2, f3, f4, fr⟩ := eh m hm
      obtain ⟨c, s, t, rfl, hG⟩ := h.goods gS A (List.mem_of_getElem? f1)
      obtain ⟨cl, sl2, tl⟩ := Y.len _ _ _ hG
      have w9 : (w.map dI)[m]? = some (dI i) := by rw [List.getElem?_map, f2]; rfl
      refine ⟨_, _, rfl, exs_seq (exs_if0 (ext_not (b := true) (ext (ex_fn (ex_c (ex_v rfl) (ex_c (ex_op (ex_v rfl) (ex_v rfl) (ixl_nat f1)) (ex_c (ex_op (ex_v rfl) (ex_op (ex_v rfl) ex_d (addD_int _ _)) (ixl_nat f3)) (ex_c (ex_op (ex_v rfl) (ex_v rfl) (ixl_nat w9)) (ex_c (ex_op (ex_v rfl) (ex_v rfl) (ix_nat f4)) ex_n))))) fr))) exs_nx) (exs_if0 (ext_not (b := true) (ext (ex_fn (ex_c (ex_fn (ex_c (ex_v rfl) (ex_c (ex_op (ex_v rfl) (ex_v rfl) (ixl_nat f1)) ex_n)) (can_step_eq (by omega) _ _ _)) (ex_c (ex_call (xs := [.lst (ableL s)]) (ex_c ?_ ex_n) rfl) ex_n)) (same_plain (by decide) (able_plain (by omega)))))) exs_nx), _, rfl⟩
      have al := able_len s
      have := exc_fil2 (gs := gN 15) (ft := cT (cOp notInD (cV 15) (cFn 1 f_law_over (cC (cOp ixD (cV 10) (cV 5)) cN)))) (fe := cV 15) (p := goes s) (F := id) (ρ := blkE (env3 k d (.int (n : Nat)) (.lst (w.map dI)) (.lst Ss) (.dt (.tup evs)) (.dt (.int ((m : Nat) : Int))) .un .un .un .un .un .un) [15]) (ds := rngD 0 s.length) fun z hz => by
        obtain ⟨q, rfl, hq⟩ := mem_rngI hz
        have hs : s[q]? = some s[q] := List.getElem?_eq_getElem hq
        refine ⟨_, rfl, ext (ex_op (ex_v rfl) (ex_fn (ex_c (ex_op (ex_v rfl) (ex_v rfl) (ixl_nat f1)) ex_n) (over_eq (by omega))) ?_), fun _ => ex_v rfl⟩
        rw [notin_over hs, goes_at hs]
      rw [List.map_id] at this
      exact ex_lc (exi_r (n := s.length) (by rw [sl2]; exact ex_v rfl) (by omega)) this (by show (ableL s).length ≤ 1000; omega)) _ ⟨.un, rfl⟩
    exact ⟨x5, exs_for (exi_r (n := w.length) (ex_call (ex_c (ex_v rfl) ex_n) (by show some _ = _; rw [List.length_map])) (by omega)) e⟩
  obtain ⟨x5, e7⟩ := e7
  refine ts_ex e7 ?_
  -- a beginning
  refine ts_seq (I := fun ρ1 => ∃ a : Nat, ρ1 = env3 k d (.int (n : Nat)) (.lst (w.map dI)) (.lst Ss) (.dt (.tup evs)) x5 (.dt (.int (a : Nat))) .un .un .un .un .un ∧ a ≤ w.length) (ts_asg (te_take (m := ((w.length : Nat) : Int) + 1) (tm_ex (a := .int (((w.length : Nat) : Int) + 1)) rfl (ex_op (ex_call (ex_c (ex_v rfl) ex_n) rfl) ex_d (by rw [addD_int, List.length_map]))) (by omega) (by omega)) ?_) ?_
  · rintro x ⟨v, rfl, v0, v1⟩
    exact ⟨_, rfl, _, rfl, v.toNat, by rw [Int.toNat_of_nonneg v0]; rfl, by omega⟩
  rintro _ ⟨a, rfl, ha⟩
  obtain ⟨pre, hpre⟩ := h.last
  obtain ⟨T', g1, h'⟩ := h.take a ha
  have pT := Y.pl (h.good gS)
  have pT' := Y.pl (h.goods gS T' (List.mem_of_getElem? g1))
  have tk : (w.map dI).take a = (w.take a).map dI := by rw [List.map_take]
  refine ts_ex (exs_if0 (ext_or0 (ext_not (b := true) (ext (ex_fn (ex_c (ex_fn (ex_c (ex_v rfl) (ex_c (ex_v rfl) ex_n)) (run_ok Y (.inr rfl) ef h (by omega))) (ex_c (ex_op (ex_v rfl) (ex_1 ex_d rfl) (by rw [hpre]; exact ix_lastL)) ex_n)) (same_plain (by decide) pT)))) (ext_not (b := true) (ext (ex_fn (ex_c (ex_fn (ex_c (ex_v rfl) (ex_c (ex_call (ex_c (ex_sl (ex_v rfl) exo_n (exo_s (ex_v rfl)) sl_take) ex_n) rfl) ex_n)) (run_ok Y (.inl (by rw [tk])) ef h' (by simp; omega))) (ex_c (ex_op (ex_v rfl) (ex_v rfl) (ixl_nat g1)) ex_n)) (same_plain (by decide) pT'))))) exs_nx) ?_
  -- run out
  obtain ⟨more, U, er, o, ml⟩ := run_out_ok Y (W := .tup (w.map dI)) (.inl rfl) ef gS h (by omega)
  refine ts_ex (exs_if0 (ext_not (b := true) (ext (ex_fn (ex_c (ex_v rfl) (ex_c (ex_v rfl) (ex_c (ex_v rfl) (ex_c (ex_fn (ex_c (ex_v rfl) (ex_c (ex_call (ex_c (ex_v rfl) ex_n) rfl) ex_n)) er) ex_n)))) (out_right Y ef gS h (by omega) o ml)))) exs_nx) ?_
  -- bent ones
  refine ts_seq (I := fun ρ1 => ∃ x5 x11 x12 x13 x14, ρ1 = env3 k d (.int (n : Nat)) (.lst (w.map dI)) (.lst Ss) (.dt (.tup evs)) x5 (.dt (.int (a : Nat))) x11 x12 x13 x14 .un) (ts_for (ds := rngD 0 3) (ti_rng (j := 3) (by decide) (by decide) (te_d rfl)) ?_) ?_
  · refine (t_loop (I := fun _ ρ1 => ∃ x5 x11 x12 x13 x14, ρ1 = env3 k d (.int (n : Nat)) (.lst (w.map dI)) (.lst Ss) (.dt (.tup evs)) x5 (.dt (.int (a : Nat))) x11 x12 x13 x14 .un) ?_ _ 0 _ ⟨_, _, _, _, _, rfl⟩).imp ?_
    · rintro e m _ ⟨x5, x11, x12, x13, x14, rfl⟩
      refine ⟨_, rfl, ?_⟩
      refine ts_seq (I := fun ρ1 => ∃ B, ρ1 = env3 k d (.int (n : Nat)) (.lst (w.map dI)) (.lst Ss) (.dt (.tup evs)) (.dt e) (.dt (.int (a : Nat))) (.dt B) x12 x13 x14 .un ∧ Bent B) (ts_asg (P := Bent) (te_fn (fa_c (P := fun d => d = .hnd) (te_v rfl rfl) (fa_c (P := fun d => d = .int (n : Nat)) (te_v rfl rfl) (fa_c (P := fun d => d = .lst (w.map dI)) (te_v rfl rfl) fa_n))) fun xs h => ?_) fun x hx => ⟨_, rfl, _, rfl, x, rfl, hx⟩) ?_
      · obtain ⟨_, _, _, rfl, rfl, rfl, rfl⟩ := fit3 h
        exact ⟨rfl, t_bent n1 n5 hl⟩
      rintro _ ⟨B, rfl, hB⟩
      obtain ⟨bad, eb, hin⟩ := bent_says Y (W := .lst (w.map dI)) (Ss := .lst Ss) (x4 := .dt (.tup evs)) (x5 := .dt e) (x6 := .dt (.int (a : Nat))) ef gS hB
      refine ts_ex (ρ1 := env3 k d (.int (n : Nat)) (.lst (w.map dI)) (.lst Ss) (.dt (.tup evs)) (.dt e) (.dt (.int (a : Nat))) (.dt B) (.dt bad) x13 x14 .un) (exs_asg (ex_fn (ex_c (ex_v rfl) (ex_c (ex_v rfl) (ex_c (ex_v rfl) ex_n))) eb) rfl) ?_
      obtain ⟨ρ2, e2, y13, y14, rfl⟩ := exl_inv (gs := gN 13) (fb := inB3) (I := fun ρ => ∃ y13 y14, ρ = env3 k d (.int (n : Nat)) (.lst (w.map dI)) (.lst Ss) (.dt (.tup evs)) (.dt e) (.dt (.int (a : Nat))) (.dt B) (.dt bad) y13 y14 .un) (es := rngD 0 3) (fun y hy ρ hρ => by
        obtain ⟨y13, y14, rfl⟩ := hρ
        obtain ⟨q, rfl, hq⟩ := mem_rngI hy
        obtain ⟨z14, e3⟩ := hin ((q : Nat) : Int) y13 y14 .un
        exact ⟨_, _, rfl, e3, _, _, rfl⟩) _ ⟨x13, x14, rfl⟩
      exact tm_ex ⟨_, rfl, _, _, _, _, _, rfl⟩ (exs_for (exi_r (n := 3) ex_d (by decide)) e2)
    · rintro f ⟨ρ2, rfl, h⟩
      exact ⟨ρ2, rfl, h⟩
  rintro _ ⟨x5, x11, x12, x13, x14, rfl⟩
  exact tm_ex ⟨_, rfl, rfl⟩ (exs_ret ex_d)
theorem main (ns : List Int) (h : ns.length ≤ 63) : ∃ g, b_law (.un :: .dt .hnd :: List.replicate 14 .un) ⟨ns, 0, 0, 1, 0⟩ = some (.ok (.rt (.bl true)) g) := by
  obtain ⟨_, g, e, ⟨_, rfl, rfl⟩, _⟩ := main_tm3 ⟨ns, 0, 0, 1, 0⟩ ⟨(show (0 : Int) ≤ 0 by decide), (show (0 : Int) ≤ 1 by decide), (show (1 : Int) < 2147483647 by decide)⟩
  exact ⟨g, e⟩
end
end Kk03
set_option Elab.async false
set_option linter.all false
set_option maxRecDepth 100000
set_option maxHeartbeats 0
namespace Kk03
open PySem PySem.Spec PyProof.Rows L2 FD
theorem facts {P : Program} {w : World} {K : PySem.W.Frag} {h : Heap} {mg : Str → Option Value} {f : Addr} (X : K.In h) (G : h.Ns mainGlobals mg) (hfa : mg ("law" : Str) = some (.ref f)) (c : He.SaysD fas fns K) (e : ex K = true) :
    ∃ fd : FuncData, (∀ (s : Shared) (v : Value), BindsTo s fd ⟨[v], []⟩ [("script", v)]) ∧ ∀ base : Heap, K.In base → base.Ns mainGlobals mg → FnOk P w K mg base CX0 48 f fd ["script"] (spLaw K) := by
  obtain ⟨fd, F_law⟩ := c.def_ 73 (d := D_law) rfl
  have e0 := hfa.symm.trans (He.glo_ok X G (c.fact 95 (f := .glo "law") rfl))
  cases e0
  have bl := FunD.bindsA (ps := ["script"]) F_law (fun _ _ _ _ _ _ us hl => match us, hl with | [_], _ => rfl)
  refine ⟨fd, fun s v => bl s [v] rfl, fun base _ _ => ?_⟩
  obtain ⟨fd_BadPlay, F_BadPlay⟩ := c.def_ 0 (d := D_BadPlay_init) rfl
  have b_BadPlay : Binds K fd_BadPlay ["self", "part"] [] := FunD.bindsN F_BadPlay (fun _ _ _ _ _ _ us hl => match us, hl with | [_, _], _ => rfl)
  obtain ⟨fd_NoWeaving, F_NoWeaving⟩ := c.def_ 1 (d := D_NoWeaving_init) rfl
  have b_NoWeaving : Binds K fd_NoWeaving ["self", "index"] [] := FunD.bindsN F_NoWeaving (fun _ _ _ _ _ _ us hl => match us, hl with | [_, _], _ => rfl)
  obtain ⟨fd_NoHand, F_NoHand⟩ := c.def_ 2 (d := D_NoHand_init) rfl
  have b_NoHand : Binds K fd_NoHand ["self"] [] := FunD.bindsN F_NoHand (fun _ _ _ _ _ _ us hl => match us, hl with | [_], _ => rfl)
  obtain ⟨fd_NoStep, F_NoStep⟩ := c.def_ 3 (d := D_NoStep_init) rfl
  have b_NoStep : Binds K fd_NoStep ["self"] [] := FunD.bindsN F_NoStep (fun _ _ _ _ _ _ us hl => match us, hl with | [_], _ => rfl)
  have hmP : mg "Play" = some (.ref (He.ga K "Play")) := He.glo_ok X G (c.fact 22 (f := .glo "Play") rfl)
  have clP : Cls K (He.ga K "Play") := He.cls_ok (c.fact 23 (f := .cls "Play") rfl)
  have T : Txt P w K mg base := {
      b_all := He.free_ok X G (c.fact 0 (f := .free "all") rfl)
      b_bool := He.free_ok X G (c.fact 1 (f := .free "bool") rfl)
      b_enumerate := He.free_ok X G (c.fact 2 (f := .free "enumerate") rfl)
      b_int := He.free_ok X G (c.fact 3 (f := .free "int") rfl)
      b_isinstance := He.free_ok X G (c.fact 4 (f := .free "isinstance") rfl)
      b_len := He.free_ok X G (c.fact 5 (f := .free "len") rfl)
      b_list := He.free_ok X G (c.fact 6 (f := .free "list") rfl)
      b_max := He.free_ok X G (c.fact 7 (f := .free "max") rfl)
      b_min := He.free_ok X G (c.fact 8 (f := .free "min") rfl)
      b_range := He.free_ok X G (c.fact 9 (f := .free "range") rfl)
      b_set := He.free_ok X G (c.fact 10 (f := .free "set") rfl)
      b_sorted := He.free_ok X G (c.fact 11 (f := .free "sorted") rfl)
      b_str := He.free_ok X G (c.fact 12 (f := .free "str") rfl)
      b_tuple := He.free_ok X G (c.fact 13 (f := .free "tuple") rfl)
      b_type := He.free_ok X G (c.fact 14 (f := .free "type") rfl)
      b_zip := He.free_ok X G (c.fact 15 (f := .free "zip") rfl)
      c_FIRST_CELL := cgB_ok (dvs := [(.int 0), (.int 0), .non]) X G (ex_at 0 e) (fun C S => (.cons (.int _) (.cons (.int _) (.cons .non .nil))))
      c_KINDS := ctB_ok (zs := ["sweep", "twice", "borrow", "levels", "names", "near", "chain"]) X G (ex_at 1 e)
      c_LOT_LIMIT := ciOk X G (c.fact 16 (f := .int "LOT_LIMIT" 20) rfl)
      c_MANNERS := ctB_ok (zs := ["sweep", "twice", "borrow"]) X G (ex_at 2 e)
      c_MOST_DEEDS := ciOk X G (c.fact 17 (f := .int "MOST_DEEDS" 6) rfl)
      c_MOST_HANDS := ciOk X G (c.fact 18 (f := .int "MOST_HANDS" 5) rfl)
      c_MOST_ROUNDS := ciOk X G (c.fact 19 (f := .int "MOST_ROUNDS" 6) rfl)
      c_NEAR_MOST := ciOk X G (c.fact 20 (f := .int "NEAR_MOST" 1000) rfl)
      c_NUMBER_LIMIT := ciOk X G (c.fact 21 (f := .int "NUMBER_LIMIT" 1000) rfl)
      x_BadPlay := excB_ok X G (ex_at 3 e) (fun TC => exc_init (fun_of (st := s_BadPlay_exc) F_BadPlay) TC (excB_no (ex_at 3 e)) sc_BadPlay_exc rfl rfl rfl (by decide) (by decide)) b_BadPlay
      x_NoWeaving := excB_ok X G (ex_at 4 e) (fun TC => exc_init (fun_of (st := s_NoWeaving_exc) F_NoWeaving) TC (excB_no (ex_at 4 e)) sc_NoWeaving_exc rfl rfl rfl (by decide) (by decide)) b_NoWeaving
      x_NoHand := excB0_ok X G (ex_at 5 e) (exc_init0 (fun_of (st := s_NoHand_exc) F_NoHand) sc_NoHand_exc rfl) b_NoHand
      x_NoStep := excB0_ok X G (ex_at 6 e) (exc_init0 (fun_of (st := s_NoStep_exc) F_NoStep) sc_NoStep_exc rfl) b_NoStep
      play := fun C h => (by cases hmP.symm.trans h; exact clsIB_ok clP (ex_at 7 e))
      play_kind := fun C h => (by cases hmP.symm.trans h; exact He.noat_ok (c.fact 24 (f := .noat "Play" "kind") rfl))
      play_inputs := fun C h => (by cases hmP.symm.trans h; exact He.noat_ok (c.fact 25 (f := .noat "Play" "inputs") rfl))
    }
  obtain ⟨fd_can_step, F_can_step⟩ := c.def_ 4 (d := D_can_step) rfl
  have A_can_step : DefAt K mg "can_step" s_can_step ["play", "standing"] := ⟨_, fd_can_step, fun_of F_can_step, He.glo_ok X G (c.fact 26 (f := .glo "can_step") rfl), FunD.bindsN F_can_step (fun _ _ _ _ _ _ us hl => match us, hl with | [_, _], _ => rfl)⟩
  have d_can_step := d_can_step (w := w) (base := base) T A_can_step 
  obtain ⟨fd_many_hands, F_many_hands⟩ := c.def_ 5 (d := D_many_hands) rfl
  have A_many_hands : DefAt K mg "many_hands" s_many_hands ["play"] := ⟨_, fd_many_hands, fun_of F_many_hands, He.glo_ok X G (c.fact 27 (f := .glo "many_hands") rfl), FunD.bindsN F_many_hands (fun _ _ _ _ _ _ us hl => match us, hl with | [_], _ => rfl)⟩
  have d_many_hands := d_many_hands (w := w) (base := base) T A_many_hands 
  obtain ⟨fd_first_in_levels, F_first_in_levels⟩ := c.def_ 6 (d := D_first_in_levels) rfl
  have A_first_in_levels : DefAt K mg "first_in_levels" s_first_in_levels ["play"] := ⟨_, fd_first_in_levels, fun_of F_first_in_levels, He.glo_ok X G (c.fact 28 (f := .glo "first_in_levels") rfl), FunD.bindsN F_first_in_levels (fun _ _ _ _ _ _ us hl => match us, hl with | [_], _ => rfl)⟩
  have d_first_in_levels := d_first_in_levels (w := w) (base := base) T A_first_in_levels 
  obtain ⟨fd_state_ahead, F_state_ahead⟩ := c.def_ 7 (d := D_state_ahead) rfl
  have A_state_ahead : DefAt K mg "state_ahead" s_state_ahead ["script", "done"] := ⟨_, fd_state_ahead, fun_of F_state_ahead, He.glo_ok X G (c.fact 29 (f := .glo "state_ahead") rfl), FunD.bindsN F_state_ahead (fun _ _ _ _ _ _ us hl => match us, hl with | [_, _], _ => rfl)⟩
  have d_state_ahead := d_state_ahead (w := w) (base := base) T A_state_ahead 
  obtain ⟨fd_first_in_manner, F_first_in_manner⟩ := c.def_ 8 (d := D_first_in_manner) rfl
  have A_first_in_manner : DefAt K mg "first_in_manner" s_first_in_manner ["play", "hand"] := ⟨_, fd_first_in_manner, fun_of F_first_in_manner, He.glo_ok X G (c.fact 30 (f := .glo "first_in_manner") rfl), FunD.bindsN F_first_in_manner (fun _ _ _ _ _ _ us hl => match us, hl with | [_, _], _ => rfl)⟩
  have d_first_in_manner := d_first_in_manner (w := w) (base := base) T A_first_in_manner d_state_ahead
  obtain ⟨fd_first_in_seeing, F_first_in_seeing⟩ := c.def_ 9 (d := D_first_in_seeing) rfl
  have A_first_in_seeing : DefAt K mg "first_in_seeing" s_first_in_seeing ["play", "hand"] := ⟨_, fd_first_in_seeing, fun_of F_first_in_seeing, He.glo_ok X G (c.fact 31 (f := .glo "first_in_seeing") rfl), FunD.bindsN F_first_in_seeing (fun _ _ _ _ _ _ us hl => match us, hl with | [_, _], _ => rfl)⟩
  have d_first_in_seeing := d_first_in_seeing (w := w) (base := base) T A_first_in_seeing 
  obtain ⟨fd_first_of_hand, F_first_of_hand⟩ := c.def_ 10 (d := D_first_of_hand) rfl
  have A_first_of_hand : DefAt K mg "first_of_hand" s_first_of_hand ["play", "hand"] := ⟨_, fd_first_of_hand, fun_of F_first_of_hand, He.glo_ok X G (c.fact 32 (f := .glo "first_of_hand") rfl), FunD.bindsN F_first_of_hand (fun _ _ _ _ _ _ us hl => match us, hl with | [_, _], _ => rfl)⟩
  have d_first_of_hand := d_first_of_hand (w := w) (base := base) T A_first_of_hand d_first_in_manner d_first_in_levels d_first_in_seeing
  obtain ⟨fd_first_standing, F_first_standing⟩ := c.def_ 11 (d := D_first_standing) rfl
  have A_first_standing : DefAt K mg "first_standing" s_first_standing ["play"] := ⟨_, fd_first_standing, fun_of F_first_standing, He.glo_ok X G (c.fact 33 (f := .glo "first_standing") rfl), FunD.bindsN F_first_standing (fun _ _ _ _ _ _ us hl => match us, hl with | [_], _ => rfl)⟩
  have d_first_standing := d_first_standing (w := w) (base := base) T A_first_standing d_many_hands d_first_of_hand
  obtain ⟨fd_is_whole, F_is_whole⟩ := c.def_ 12 (d := D_is_whole) rfl
  have A_is_whole : DefAt K mg "is_whole" s_is_whole ["thing"] := ⟨_, fd_is_whole, fun_of F_is_whole, He.glo_ok X G (c.fact 34 (f := .glo "is_whole") rfl), FunD.bindsN F_is_whole (fun _ _ _ _ _ _ us hl => match us, hl with | [_], _ => rfl)⟩
  have d_is_whole := d_is_whole (w := w) (base := base) T A_is_whole 
  obtain ⟨fd_is_whole_within, F_is_whole_within⟩ := c.def_ 13 (d := D_is_whole_within) rfl
  have A_is_whole_within : DefAt K mg "is_whole_within" s_is_whole_within ["least", "most", "thing"] := ⟨_, fd_is_whole_within, fun_of F_is_whole_within, He.glo_ok X G (c.fact 35 (f := .glo "is_whole_within") rfl), FunD.bindsN F_is_whole_within (fun _ _ _ _ _ _ us hl => match us, hl with | [_, _, _], _ => rfl)⟩
  have d_is_whole_within := d_is_whole_within (w := w) (base := base) T A_is_whole_within d_is_whole
  obtain ⟨fd_is_number_below, F_is_number_below⟩ := c.def_ 14 (d := D_is_number_below) rfl
  have A_is_number_below : DefAt K mg "is_number_below" s_is_number_below ["limit", "thing"] := ⟨_, fd_is_number_below, fun_of F_is_number_below, He.glo_ok X G (c.fact 36 (f := .glo "is_number_below") rfl), FunD.bindsN F_is_number_below (fun _ _ _ _ _ _ us hl => match us, hl with | [_, _], _ => rfl)⟩
  have d_is_number_below := d_is_number_below (w := w) (base := base) T A_is_number_below d_is_whole_within
  obtain ⟨fd_is_hand, F_is_hand⟩ := c.def_ 15 (d := D_is_hand) rfl
  have A_is_hand : DefAt K mg "is_hand" s_is_hand ["play", "thing"] := ⟨_, fd_is_hand, fun_of F_is_hand, He.glo_ok X G (c.fact 37 (f := .glo "is_hand") rfl), FunD.bindsN F_is_hand (fun _ _ _ _ _ _ us hl => match us, hl with | [_, _], _ => rfl)⟩
  have d_is_hand := d_is_hand (w := w) (base := base) T A_is_hand d_many_hands d_is_number_below
  obtain ⟨fd_those_below, F_those_below⟩ := c.def_ 16 (d := D_those_below) rfl
  have A_those_below : DefAt K mg "those_below" s_those_below ["level", "cells"] := ⟨_, fd_those_below, fun_of F_those_below, He.glo_ok X G (c.fact 38 (f := .glo "those_below") rfl), FunD.bindsN F_those_below (fun _ _ _ _ _ _ us hl => match us, hl with | [_, _], _ => rfl)⟩
  have d_those_below := d_those_below (w := w) (base := base) T A_those_below 
  obtain ⟨fd_step_in_levels, F_step_in_levels⟩ := c.def_ 17 (d := D_step_in_levels) rfl
  have A_step_in_levels : DefAt K mg "step_in_levels" s_step_in_levels ["play", "cells", "state", "hand"] := ⟨_, fd_step_in_levels, fun_of F_step_in_levels, He.glo_ok X G (c.fact 39 (f := .glo "step_in_levels") rfl), FunD.bindsN F_step_in_levels (fun _ _ _ _ _ _ us hl => match us, hl with | [_, _, _, _], _ => rfl)⟩
  have d_step_in_levels := d_step_in_levels (w := w) (base := base) T A_step_in_levels d_those_below
  obtain ⟨fd_puts_next, F_puts_next⟩ := c.def_ 18 (d := D_puts_next) rfl
  have A_puts_next : DefAt K mg "puts_next" s_puts_next ["play", "hand", "state"] := ⟨_, fd_puts_next, fun_of F_puts_next, He.glo_ok X G (c.fact 40 (f := .glo "puts_next") rfl), FunD.bindsN F_puts_next (fun _ _ _ _ _ _ us hl => match us, hl with | [_, _, _], _ => rfl)⟩
  have d_puts_next := d_puts_next (w := w) (base := base) T A_puts_next 
  obtain ⟨fd_behind_put, F_behind_put⟩ := c.def_ 19 (d := D_behind_put) rfl
  have A_behind_put : DefAt K mg "behind_put" s_behind_put ["script", "cell", "state"] := ⟨_, fd_behind_put, fun_of F_behind_put, He.glo_ok X G (c.fact 41 (f := .glo "behind_put") rfl), FunD.bindsN F_behind_put (fun _ _ _ _ _ _ us hl => match us, hl with | [_, _, _], _ => rfl)⟩
  have d_behind_put := d_behind_put (w := w) (base := base) T A_behind_put d_state_ahead
  obtain ⟨fd_behind_picture, F_behind_picture⟩ := c.def_ 20 (d := D_behind_picture) rfl
  have A_behind_picture : DefAt K mg "behind_picture" s_behind_picture ["script", "done", "picture"] := ⟨_, fd_behind_picture, fun_of F_behind_picture, He.glo_ok X G (c.fact 42 (f := .glo "behind_picture") rfl), FunD.bindsN F_behind_picture (fun _ _ _ _ _ _ us hl => match us, hl with | [_, _, _], _ => rfl)⟩
  have d_behind_picture := d_behind_picture (w := w) (base := base) T A_behind_picture d_state_ahead
  obtain ⟨fd_numbers_of, F_numbers_of⟩ := c.def_ 21 (d := D_numbers_of) rfl
  have A_numbers_of : DefAt K mg "numbers_of" s_numbers_of ["cells"] := ⟨_, fd_numbers_of, fun_of F_numbers_of, He.glo_ok X G (c.fact 43 (f := .glo "numbers_of") rfl), FunD.bindsN F_numbers_of (fun _ _ _ _ _ _ us hl => match us, hl with | [_], _ => rfl)⟩
  have d_numbers_of := d_numbers_of (w := w) (base := base) T A_numbers_of 
  obtain ⟨fd_borrowed, F_borrowed⟩ := c.def_ 22 (d := D_borrowed) rfl
  have A_borrowed : DefAt K mg "borrowed" s_borrowed ["first", "now"] := ⟨_, fd_borrowed, fun_of F_borrowed, He.glo_ok X G (c.fact 44 (f := .glo "borrowed") rfl), FunD.bindsN F_borrowed (fun _ _ _ _ _ _ us hl => match us, hl with | [_, _], _ => rfl)⟩
  have d_borrowed := d_borrowed (w := w) (base := base) T A_borrowed 
  obtain ⟨fd_picture_of_sweep, F_picture_of_sweep⟩ := c.def_ 23 (d := D_picture_of_sweep) rfl
  have A_picture_of_sweep : DefAt K mg "picture_of_sweep" s_picture_of_sweep ["kind", "first", "last", "now"] := ⟨_, fd_picture_of_sweep, fun_of F_picture_of_sweep, He.glo_ok X G (c.fact 45 (f := .glo "picture_of_sweep") rfl), FunD.bindsN F_picture_of_sweep (fun _ _ _ _ _ _ us hl => match us, hl with | [_, _, _, _], _ => rfl)⟩
  have d_picture_of_sweep := d_picture_of_sweep (w := w) (base := base) T A_picture_of_sweep d_numbers_of d_borrowed
  obtain ⟨fd_behind_look, F_behind_look⟩ := c.def_ 24 (d := D_behind_look) rfl
  have A_behind_look : DefAt K mg "behind_look" s_behind_look ["play", "cells", "state", "hand"] := ⟨_, fd_behind_look, fun_of F_behind_look, He.glo_ok X G (c.fact 46 (f := .glo "behind_look") rfl), FunD.bindsN F_behind_look (fun _ _ _ _ _ _ us hl => match us, hl with | [_, _, _, _], _ => rfl)⟩
  have d_behind_look := d_behind_look (w := w) (base := base) T A_behind_look d_picture_of_sweep d_behind_picture d_numbers_of
  obtain ⟨fd_step_in_manner, F_step_in_manner⟩ := c.def_ 25 (d := D_step_in_manner) rfl
  have A_step_in_manner : DefAt K mg "step_in_manner" s_step_in_manner ["play", "cells", "state", "hand"] := ⟨_, fd_step_in_manner, fun_of F_step_in_manner, He.glo_ok X G (c.fact 47 (f := .glo "step_in_manner") rfl), FunD.bindsN F_step_in_manner (fun _ _ _ _ _ _ us hl => match us, hl with | [_, _, _, _], _ => rfl)⟩
  have d_step_in_manner := d_step_in_manner (w := w) (base := base) T A_step_in_manner d_puts_next d_behind_put d_behind_look
  obtain ⟨fd_free_number, F_free_number⟩ := c.def_ 26 (d := D_free_number) rfl
  have A_free_number : DefAt K mg "free_number" s_free_number ["rank", "taken"] := ⟨_, fd_free_number, fun_of F_free_number, He.glo_ok X G (c.fact 48 (f := .glo "free_number") rfl), FunD.bindsN F_free_number (fun _ _ _ _ _ _ us hl => match us, hl with | [_, _], _ => rfl)⟩
  have d_free_number := d_free_number (w := w) (base := base) T A_free_number 
  obtain ⟨fd_step_in_names, F_step_in_names⟩ := c.def_ 27 (d := D_step_in_names) rfl
  have A_step_in_names : DefAt K mg "step_in_names" s_step_in_names ["play", "cells", "state", "hand"] := ⟨_, fd_step_in_names, fun_of F_step_in_names, He.glo_ok X G (c.fact 49 (f := .glo "step_in_names") rfl), FunD.bindsN F_step_in_names (fun _ _ _ _ _ _ us hl => match us, hl with | [_, _, _, _], _ => rfl)⟩
  have d_step_in_names := d_step_in_names (w := w) (base := base) T A_step_in_names d_free_number
  obtain ⟨fd_step_in_near, F_step_in_near⟩ := c.def_ 28 (d := D_step_in_near) rfl
  have A_step_in_near : DefAt K mg "step_in_near" s_step_in_near ["play", "cells", "state", "hand"] := ⟨_, fd_step_in_near, fun_of F_step_in_near, He.glo_ok X G (c.fact 50 (f := .glo "step_in_near") rfl), FunD.bindsN F_step_in_near (fun _ _ _ _ _ _ us hl => match us, hl with | [_, _, _, _], _ => rfl)⟩
  have d_step_in_near := d_step_in_near (w := w) (base := base) T A_step_in_near 
  obtain ⟨fd_step_in_chain, F_step_in_chain⟩ := c.def_ 29 (d := D_step_in_chain) rfl
  have A_step_in_chain : DefAt K mg "step_in_chain" s_step_in_chain ["play", "cells", "state", "hand"] := ⟨_, fd_step_in_chain, fun_of F_step_in_chain, He.glo_ok X G (c.fact 51 (f := .glo "step_in_chain") rfl), FunD.bindsN F_step_in_chain (fun _ _ _ _ _ _ us hl => match us, hl with | [_, _, _, _], _ => rfl)⟩
  have d_step_in_chain := d_step_in_chain (w := w) (base := base) T A_step_in_chain 
  obtain ⟨fd_step_in_seeing, F_step_in_seeing⟩ := c.def_ 30 (d := D_step_in_seeing) rfl
  have A_step_in_seeing : DefAt K mg "step_in_seeing" s_step_in_seeing ["play", "cells", "state", "hand"] := ⟨_, fd_step_in_seeing, fun_of F_step_in_seeing, He.glo_ok X G (c.fact 52 (f := .glo "step_in_seeing") rfl), FunD.bindsN F_step_in_seeing (fun _ _ _ _ _ _ us hl => match us, hl with | [_, _, _, _], _ => rfl)⟩
  have d_step_in_seeing := d_step_in_seeing (w := w) (base := base) T A_step_in_seeing d_step_in_names d_step_in_near d_step_in_chain
  obtain ⟨fd_step_of_hand, F_step_of_hand⟩ := c.def_ 31 (d := D_step_of_hand) rfl
  have A_step_of_hand : DefAt K mg "step_of_hand" s_step_of_hand ["play", "cells", "state", "hand"] := ⟨_, fd_step_of_hand, fun_of F_step_of_hand, He.glo_ok X G (c.fact 53 (f := .glo "step_of_hand") rfl), FunD.bindsN F_step_of_hand (fun _ _ _ _ _ _ us hl => match us, hl with | [_, _, _, _], _ => rfl)⟩
  have d_step_of_hand := d_step_of_hand (w := w) (base := base) T A_step_of_hand d_step_in_manner d_step_in_levels d_step_in_seeing
  obtain ⟨fd_put_at, F_put_at⟩ := c.def_ 32 (d := D_put_at) rfl
  have A_put_at : DefAt K mg "put_at" s_put_at ["row", "hand", "item"] := ⟨_, fd_put_at, fun_of F_put_at, He.glo_ok X G (c.fact 54 (f := .glo "put_at") rfl), FunD.bindsN F_put_at (fun _ _ _ _ _ _ us hl => match us, hl with | [_, _, _], _ => rfl)⟩
  have d_put_at := d_put_at (w := w) (base := base) T A_put_at 
  obtain ⟨fd_standing_behind, F_standing_behind⟩ := c.def_ 33 (d := D_standing_behind) rfl
  have A_standing_behind : DefAt K mg "standing_behind" s_standing_behind ["play", "standing", "hand"] := ⟨_, fd_standing_behind, fun_of F_standing_behind, He.glo_ok X G (c.fact 55 (f := .glo "standing_behind") rfl), FunD.bindsN F_standing_behind (fun _ _ _ _ _ _ us hl => match us, hl with | [_, _, _], _ => rfl)⟩
  have d_standing_behind := d_standing_behind (w := w) (base := base) T A_standing_behind d_step_of_hand d_put_at
  obtain ⟨fd_standings_along, F_standings_along⟩ := c.def_ 34 (d := D_standings_along) rfl
  have A_standings_along : DefAt K mg "standings_along" s_standings_along ["play", "weaving"] := ⟨_, fd_standings_along, fun_of F_standings_along, He.glo_ok X G (c.fact 56 (f := .glo "standings_along") rfl), FunD.bindsN F_standings_along (fun _ _ _ _ _ _ us hl => match us, hl with | [_, _], _ => rfl)⟩
  have d_standings_along := d_standings_along (w := w) (base := base) T A_standings_along d_first_standing d_is_hand d_standing_behind
  obtain ⟨fd_run, F_run⟩ := c.def_ 35 (d := D_run) rfl
  have A_run : DefAt K mg "run" s_run ["play", "weaving"] := ⟨_, fd_run, fun_of F_run, He.glo_ok X G (c.fact 57 (f := .glo "run") rfl), FunD.bindsN F_run (fun _ _ _ _ _ _ us hl => match us, hl with | [_, _], _ => rfl)⟩
  have d_run := d_run (w := w) (base := base) T A_run d_standings_along
  obtain ⟨fd_word_in_levels, F_word_in_levels⟩ := c.def_ 36 (d := D_word_in_levels) rfl
  have A_word_in_levels : DefAt K mg "word_in_levels" s_word_in_levels ["state"] := ⟨_, fd_word_in_levels, fun_of F_word_in_levels, He.glo_ok X G (c.fact 58 (f := .glo "word_in_levels") rfl), FunD.bindsN F_word_in_levels (fun _ _ _ _ _ _ us hl => match us, hl with | [_], _ => rfl)⟩
  have d_word_in_levels := d_word_in_levels (w := w) (base := base) T A_word_in_levels 
  obtain ⟨fd_word_in_manner, F_word_in_manner⟩ := c.def_ 37 (d := D_word_in_manner) rfl
  have A_word_in_manner : DefAt K mg "word_in_manner" s_word_in_manner ["play", "state", "hand"] := ⟨_, fd_word_in_manner, fun_of F_word_in_manner, He.glo_ok X G (c.fact 59 (f := .glo "word_in_manner") rfl), FunD.bindsN F_word_in_manner (fun _ _ _ _ _ _ us hl => match us, hl with | [_, _, _], _ => rfl)⟩
  have d_word_in_manner := d_word_in_manner (w := w) (base := base) T A_word_in_manner d_puts_next
  obtain ⟨fd_word_in_seeing, F_word_in_seeing⟩ := c.def_ 38 (d := D_word_in_seeing) rfl
  have A_word_in_seeing : DefAt K mg "word_in_seeing" s_word_in_seeing ["state"] := ⟨_, fd_word_in_seeing, fun_of F_word_in_seeing, He.glo_ok X G (c.fact 60 (f := .glo "word_in_seeing") rfl), FunD.bindsN F_word_in_seeing (fun _ _ _ _ _ _ us hl => match us, hl with | [_], _ => rfl)⟩
  have d_word_in_seeing := d_word_in_seeing (w := w) (base := base) T A_word_in_seeing 
  obtain ⟨fd_word_of_step, F_word_of_step⟩ := c.def_ 39 (d := D_word_of_step) rfl
  have A_word_of_step : DefAt K mg "word_of_step" s_word_of_step ["play", "state", "hand"] := ⟨_, fd_word_of_step, fun_of F_word_of_step, He.glo_ok X G (c.fact 61 (f := .glo "word_of_step") rfl), FunD.bindsN F_word_of_step (fun _ _ _ _ _ _ us hl => match us, hl with | [_, _, _], _ => rfl)⟩
  have d_word_of_step := d_word_of_step (w := w) (base := base) T A_word_of_step d_word_in_manner d_word_in_levels d_word_in_seeing
  obtain ⟨fd_event, F_event⟩ := c.def_ 40 (d := D_event) rfl
  have A_event : DefAt K mg "event" s_event ["play", "standing", "hand"] := ⟨_, fd_event, fun_of F_event, He.glo_ok X G (c.fact 62 (f := .glo "event") rfl), FunD.bindsN F_event (fun _ _ _ _ _ _ us hl => match us, hl with | [_, _, _], _ => rfl)⟩
  have d_event := d_event (w := w) (base := base) T A_event d_word_of_step
  obtain ⟨fd_events, F_events⟩ := c.def_ 41 (d := D_events) rfl
  have A_events : DefAt K mg "events" s_events ["play", "weaving"] := ⟨_, fd_events, fun_of F_events, He.glo_ok X G (c.fact 63 (f := .glo "events") rfl), FunD.bindsN F_events (fun _ _ _ _ _ _ us hl => match us, hl with | [_, _], _ => rfl)⟩
  have d_events := d_events (w := w) (base := base) T A_events d_standings_along d_event
  obtain ⟨fd_run_out, F_run_out⟩ := c.def_ 42 (d := D_run_out) rfl
  have A_run_out : DefAt K mg "run_out" s_run_out ["play", "weaving"] := ⟨_, fd_run_out, fun_of F_run_out, He.glo_ok X G (c.fact 64 (f := .glo "run_out") rfl), FunD.bindsN F_run_out (fun _ _ _ _ _ _ us hl => match us, hl with | [_, _], _ => rfl)⟩
  have d_run_out := d_run_out (w := w) (base := base) T A_run_out d_run d_can_step d_standing_behind
  obtain ⟨fd_law_take, F_law_take⟩ := c.def_ 43 (d := D_law_take) rfl
  have A_law_take : DefAt K mg "_law_take" s_law_take ["hand", "many"] := ⟨_, fd_law_take, fun_of F_law_take, He.glo_ok X G (c.fact 65 (f := .glo "_law_take") rfl), FunD.bindsN F_law_take (fun _ _ _ _ _ _ us hl => match us, hl with | [_, _], _ => rfl)⟩
  have d_law_take := d_law_take (w := w) (base := base) T A_law_take 
  obtain ⟨fd_law_pick, F_law_pick⟩ := c.def_ 44 (d := D_law_pick) rfl
  have A_law_pick : DefAt K mg "_law_pick" s_law_pick ["hand", "things"] := ⟨_, fd_law_pick, fun_of F_law_pick, He.glo_ok X G (c.fact 66 (f := .glo "_law_pick") rfl), FunD.bindsN F_law_pick (fun _ _ _ _ _ _ us hl => match us, hl with | [_, _], _ => rfl)⟩
  have d_law_pick := d_law_pick (w := w) (base := base) T A_law_pick d_law_take
  obtain ⟨fd_law_is_integer, F_law_is_integer⟩ := c.def_ 45 (d := D_law_is_integer) rfl
  have A_law_is_integer : DefAt K mg "_law_is_integer" s_law_is_integer ["thing"] := ⟨_, fd_law_is_integer, fun_of F_law_is_integer, He.glo_ok X G (c.fact 67 (f := .glo "_law_is_integer") rfl), FunD.bindsN F_law_is_integer (fun _ _ _ _ _ _ us hl => match us, hl with | [_], _ => rfl)⟩
  have d_law_is_integer := d_law_is_integer (w := w) (base := base) T A_law_is_integer 
  obtain ⟨fd_law_same, F_law_same⟩ := c.def_ 46 (d := D_law_same) rfl
  have A_law_same : DefAt K mg "_law_same" s_law_same ["actual", "due"] := ⟨_, fd_law_same, fun_of F_law_same, He.glo_ok X G (c.fact 68 (f := .glo "_law_same") rfl), FunD.bindsN F_law_same (fun _ _ _ _ _ _ us hl => match us, hl with | [_, _], _ => rfl)⟩
  have d_law_same := d_law_same (w := w) (base := base) T A_law_same d_law_is_integer
  obtain ⟨fd_law_script, F_law_script⟩ := c.def_ 47 (d := D_law_script) rfl
  have A_law_script : DefAt K mg "_law_script" s_law_script ["hand", "most"] := ⟨_, fd_law_script, fun_of F_law_script, He.glo_ok X G (c.fact 69 (f := .glo "_law_script") rfl), FunD.bindsN F_law_script (fun _ _ _ _ _ _ us hl => match us, hl with | [_, _], _ => rfl)⟩
  have d_law_script := d_law_script (w := w) (base := base) T A_law_script d_law_take d_law_pick
  obtain ⟨fd_law_manner, F_law_manner⟩ := c.def_ 48 (d := D_law_manner) rfl
  have A_law_manner : DefAt K mg "_law_manner" s_law_manner ["hand"] := ⟨_, fd_law_manner, fun_of F_law_manner, He.glo_ok X G (c.fact 70 (f := .glo "_law_manner") rfl), FunD.bindsN F_law_manner (fun _ _ _ _ _ _ us hl => match us, hl with | [_], _ => rfl)⟩
  have d_law_manner := d_law_manner (w := w) (base := base) T A_law_manner d_law_pick d_law_script
  obtain ⟨fd_law_some_play, F_law_some_play⟩ := c.def_ 49 (d := D_law_some_play) rfl
  have A_law_some_play : DefAt K mg "_law_some_play" s_law_some_play ["hand"] := ⟨_, fd_law_some_play, fun_of F_law_some_play, He.glo_ok X G (c.fact 71 (f := .glo "_law_some_play") rfl), FunD.bindsN F_law_some_play (fun _ _ _ _ _ _ us hl => match us, hl with | [_], _ => rfl)⟩
  have d_law_some_play := d_law_some_play (w := w) (base := base) T A_law_some_play d_law_take d_law_pick d_law_manner
  obtain ⟨fd_law_many, F_law_many⟩ := c.def_ 50 (d := D_law_many) rfl
  have A_law_many : DefAt K mg "_law_many" s_law_many ["kind", "inputs"] := ⟨_, fd_law_many, fun_of F_law_many, He.glo_ok X G (c.fact 72 (f := .glo "_law_many") rfl), FunD.bindsN F_law_many (fun _ _ _ _ _ _ us hl => match us, hl with | [_, _], _ => rfl)⟩
  have d_law_many := d_law_many (w := w) (base := base) T A_law_many 
  obtain ⟨fd_law_over, F_law_over⟩ := c.def_ 51 (d := D_law_over) rfl
  have A_law_over : DefAt K mg "_law_over" s_law_over ["standing"] := ⟨_, fd_law_over, fun_of F_law_over, He.glo_ok X G (c.fact 73 (f := .glo "_law_over") rfl), FunD.bindsN F_law_over (fun _ _ _ _ _ _ us hl => match us, hl with | [_], _ => rfl)⟩
  have d_law_over := d_law_over (w := w) (base := base) T A_law_over 
  obtain ⟨fd_check_turn, F_check_turn⟩ := c.def_ 52 (d := D_check_turn) rfl
  have A_check_turn : DefAt K mg "check_turn" s_check_turn ["play", "standing", "hand"] := ⟨_, fd_check_turn, fun_of F_check_turn, He.glo_ok X G (c.fact 74 (f := .glo "check_turn") rfl), FunD.bindsN F_check_turn (fun _ _ _ _ _ _ us hl => match us, hl with | [_, _, _], _ => rfl)⟩
  have d_check_turn := d_check_turn (w := w) (base := base) T A_check_turn d_is_hand
  obtain ⟨fd_step, F_step⟩ := c.def_ 53 (d := D_step) rfl
  have A_step : DefAt K mg "step" s_step ["play", "standing", "hand"] := ⟨_, fd_step, fun_of F_step, He.glo_ok X G (c.fact 75 (f := .glo "step") rfl), FunD.bindsN F_step (fun _ _ _ _ _ _ us hl => match us, hl with | [_, _, _], _ => rfl)⟩
  have d_step := d_step (w := w) (base := base) T A_step d_check_turn d_standing_behind
  obtain ⟨fd_law_walked, F_law_walked⟩ := c.def_ 54 (d := D_law_walked) rfl
  have A_law_walked : DefAt K mg "_law_walked" s_law_walked ["hand", "play", "many", "most"] := ⟨_, fd_law_walked, fun_of F_law_walked, He.glo_ok X G (c.fact 76 (f := .glo "_law_walked") rfl), FunD.bindsN F_law_walked (fun _ _ _ _ _ _ us hl => match us, hl with | [_, _, _, _], _ => rfl)⟩
  have d_law_walked := d_law_walked (w := w) (base := base) T A_law_walked d_first_standing d_can_step d_law_pick d_step
  obtain ⟨fd_next_step, F_next_step⟩ := c.def_ 55 (d := D_next_step) rfl
  have A_next_step : DefAt K mg "next_step" s_next_step ["play", "standing", "hand"] := ⟨_, fd_next_step, fun_of F_next_step, He.glo_ok X G (c.fact 77 (f := .glo "next_step") rfl), FunD.bindsN F_next_step (fun _ _ _ _ _ _ us hl => match us, hl with | [_, _, _], _ => rfl)⟩
  have d_next_step := d_next_step (w := w) (base := base) T A_next_step d_check_turn d_word_of_step
  obtain ⟨fd_law_event_right, F_law_event_right⟩ := c.def_ 56 (d := D_law_event_right) rfl
  have A_law_event_right : DefAt K mg "_law_event_right" s_law_event_right ["play", "ahead", "behind", "one", "event_v"] := ⟨_, fd_law_event_right, fun_of F_law_event_right, He.glo_ok X G (c.fact 78 (f := .glo "_law_event_right") rfl), FunD.bindsN F_law_event_right (fun _ _ _ _ _ _ us hl => match us, hl with | [_, _, _, _, _], _ => rfl)⟩
  have d_law_event_right := d_law_event_right (w := w) (base := base) T A_law_event_right d_next_step d_law_same
  obtain ⟨fd_law_told, F_law_told⟩ := c.def_ 57 (d := D_law_told) rfl
  have A_law_told : DefAt K mg "_law_told" s_law_told ["which", "play", "weaving"] := ⟨_, fd_law_told, fun_of F_law_told, He.glo_ok X G (c.fact 79 (f := .glo "_law_told") rfl), FunD.bindsN F_law_told (fun _ _ _ _ _ _ us hl => match us, hl with | [_, _, _], _ => rfl)⟩
  have d_law_told := d_law_told (w := w) (base := base) T A_law_told d_run d_events d_run_out
  obtain ⟨fd_law_is_within, F_law_is_within⟩ := c.def_ 58 (d := D_law_is_within) rfl
  have A_law_is_within : DefAt K mg "_law_is_within" s_law_is_within ["thing", "least", "most"] := ⟨_, fd_law_is_within, fun_of F_law_is_within, He.glo_ok X G (c.fact 80 (f := .glo "_law_is_within") rfl), FunD.bindsN F_law_is_within (fun _ _ _ _ _ _ us hl => match us, hl with | [_, _, _], _ => rfl)⟩
  have d_law_is_within := d_law_is_within (w := w) (base := base) T A_law_is_within d_law_is_integer
  obtain ⟨fd_law_first_bad, F_law_first_bad⟩ := c.def_ 59 (d := D_law_first_bad) rfl
  have A_law_first_bad : DefAt K mg "_law_first_bad" s_law_first_bad ["play", "many", "weaving"] := ⟨_, fd_law_first_bad, fun_of F_law_first_bad, He.glo_ok X G (c.fact 81 (f := .glo "_law_first_bad") rfl), FunD.bindsN F_law_first_bad (fun _ _ _ _ _ _ us hl => match us, hl with | [_, _, _], _ => rfl)⟩
  have d_law_first_bad := d_law_first_bad (w := w) (base := base) T A_law_first_bad d_first_standing d_law_is_within d_law_over d_step
  obtain ⟨fd_is_word_of, F_is_word_of⟩ := c.def_ 60 (d := D_is_word_of) rfl
  have A_is_word_of : DefAt K mg "is_word_of" s_is_word_of ["words", "thing"] := ⟨_, fd_is_word_of, fun_of F_is_word_of, He.glo_ok X G (c.fact 82 (f := .glo "is_word_of") rfl), FunD.bindsN F_is_word_of (fun _ _ _ _ _ _ us hl => match us, hl with | [_, _], _ => rfl)⟩
  have d_is_word_of := d_is_word_of (w := w) (base := base) T A_is_word_of 
  obtain ⟨fd_is_lot_below, F_is_lot_below⟩ := c.def_ 61 (d := D_is_lot_below) rfl
  have A_is_lot_below : DefAt K mg "is_lot_below" s_is_lot_below ["limit", "thing"] := ⟨_, fd_is_lot_below, fun_of F_is_lot_below, He.glo_ok X G (c.fact 83 (f := .glo "is_lot_below") rfl), FunD.bindsN F_is_lot_below (fun _ _ _ _ _ _ us hl => match us, hl with | [_, _], _ => rfl)⟩
  have d_is_lot_below := d_is_lot_below (w := w) (base := base) T A_is_lot_below d_is_number_below
  obtain ⟨fd_is_row_of_hands, F_is_row_of_hands⟩ := c.def_ 62 (d := D_is_row_of_hands) rfl
  have A_is_row_of_hands : DefAt K mg "is_row_of_hands" s_is_row_of_hands ["thing"] := ⟨_, fd_is_row_of_hands, fun_of F_is_row_of_hands, He.glo_ok X G (c.fact 84 (f := .glo "is_row_of_hands") rfl), FunD.bindsN F_is_row_of_hands (fun _ _ _ _ _ _ us hl => match us, hl with | [_], _ => rfl)⟩
  have d_is_row_of_hands := d_is_row_of_hands (w := w) (base := base) T A_is_row_of_hands 
  obtain ⟨fd_is_near, F_is_near⟩ := c.def_ 63 (d := D_is_near) rfl
  have A_is_near : DefAt K mg "is_near" s_is_near ["thing"] := ⟨_, fd_is_near, fun_of F_is_near, He.glo_ok X G (c.fact 85 (f := .glo "is_near") rfl), FunD.bindsN F_is_near (fun _ _ _ _ _ _ us hl => match us, hl with | [_], _ => rfl)⟩
  have d_is_near := d_is_near (w := w) (base := base) T A_is_near d_is_whole_within d_is_row_of_hands
  obtain ⟨fd_is_deed, F_is_deed⟩ := c.def_ 64 (d := D_is_deed) rfl
  have A_is_deed : DefAt K mg "is_deed" s_is_deed ["thing"] := ⟨_, fd_is_deed, fun_of F_is_deed, He.glo_ok X G (c.fact 86 (f := .glo "is_deed") rfl), FunD.bindsN F_is_deed (fun _ _ _ _ _ _ us hl => match us, hl with | [_], _ => rfl)⟩
  have d_is_deed := d_is_deed (w := w) (base := base) T A_is_deed d_is_word_of d_is_number_below
  obtain ⟨fd_is_script, F_is_script⟩ := c.def_ 65 (d := D_is_script) rfl
  have A_is_script : DefAt K mg "is_script" s_is_script ["thing"] := ⟨_, fd_is_script, fun_of F_is_script, He.glo_ok X G (c.fact 87 (f := .glo "is_script") rfl), FunD.bindsN F_is_script (fun _ _ _ _ _ _ us hl => match us, hl with | [_], _ => rfl)⟩
  have d_is_script := d_is_script (w := w) (base := base) T A_is_script d_is_deed
  obtain ⟨fd_is_inputs, F_is_inputs⟩ := c.def_ 66 (d := D_is_inputs) rfl
  have A_is_inputs : DefAt K mg "is_inputs" s_is_inputs ["kind", "thing"] := ⟨_, fd_is_inputs, fun_of F_is_inputs, He.glo_ok X G (c.fact 88 (f := .glo "is_inputs") rfl), FunD.bindsN F_is_inputs (fun _ _ _ _ _ _ us hl => match us, hl with | [_, _], _ => rfl)⟩
  have d_is_inputs := d_is_inputs (w := w) (base := base) T A_is_inputs d_is_near d_is_row_of_hands d_is_script d_is_lot_below d_is_number_below
  obtain ⟨fd_MK, F_MK⟩ := c.def_ 67 (d := D_MK) rfl
  have d_MK := d_MK (w := w) (base := base) T (fun_of (st := s_Play_init) F_MK) hmP (He.mkr_ok (c.fact 89 (f := .mkr "Play") rfl)) (FunD.bindsN F_MK (fun _ _ _ _ _ _ us hl => match us, hl with | [_, _, _], _ => rfl)) d_is_word_of d_is_inputs
  obtain ⟨fd_EQ, F_EQ⟩ := c.def_ 68 (d := D_EQ) rfl
  have mEQ := He.meth_ok (c.fact 90 (f := .meth "Play" "__eq__") rfl)
  have d_EQ := d_EQ (w := w) (base := base) T (fun_of (st := s_Play_eq) F_EQ) hmP (FunD.bindsN F_EQ (fun _ _ _ _ _ _ us hl => match us, hl with | [_, _], _ => rfl)) mEQ.at_ mEQ.fn (of_decide_eq_true (ex_at 8 e)) 
  obtain ⟨fd_law_odd, F_law_odd⟩ := c.def_ 69 (d := D_law_odd) rfl
  have A_law_odd : DefAt K mg "_law_odd" s_law_odd ["hand"] := ⟨_, fd_law_odd, fun_of F_law_odd, He.glo_ok X G (c.fact 91 (f := .glo "_law_odd") rfl), FunD.bindsN F_law_odd (fun _ _ _ _ _ _ us hl => match us, hl with | [_], _ => rfl)⟩
  have d_law_odd := d_law_odd (w := w) (base := base) T A_law_odd d_law_take d_MK
  obtain ⟨fd_law_bent, F_law_bent⟩ := c.def_ 70 (d := D_law_bent) rfl
  have A_law_bent : DefAt K mg "_law_bent" s_law_bent ["hand", "many", "weaving"] := ⟨_, fd_law_bent, fun_of F_law_bent, He.glo_ok X G (c.fact 92 (f := .glo "_law_bent") rfl), FunD.bindsN F_law_bent (fun _ _ _ _ _ _ us hl => match us, hl with | [_, _, _], _ => rfl)⟩
  have d_law_bent := d_law_bent (w := w) (base := base) T A_law_bent d_law_take d_law_pick d_law_odd
  obtain ⟨fd_law_out_right, F_law_out_right⟩ := c.def_ 71 (d := D_law_out_right) rfl
  have A_law_out_right : DefAt K mg "_law_out_right" s_law_out_right ["play", "many", "weaving", "told"] := ⟨_, fd_law_out_right, fun_of F_law_out_right, He.glo_ok X G (c.fact 93 (f := .glo "_law_out_right") rfl), FunD.bindsN F_law_out_right (fun _ _ _ _ _ _ us hl => match us, hl with | [_, _, _, _], _ => rfl)⟩
  have d_law_out_right := d_law_out_right (w := w) (base := base) T A_law_out_right d_run d_can_step d_step
  obtain ⟨fd_hand, F_hand⟩ := c.def_ 72 (d := D_hand) rfl
  exact d_law T (fun_of F_law) (fun_of F_hand) (He.glo_ok X G (c.fact 94 (f := .glo "_law_hand") rfl)) (FunD.bindsN F_hand (fun _ _ _ _ _ _ us hl => match us, hl with | [_], _ => rfl)) (He.free_ok X G (c.fact 6 (f := .free "list") rfl)) d_law_some_play d_law_many d_law_pick d_law_walked d_events d_law_event_right d_law_over d_can_step d_law_same d_law_take d_run d_run_out d_law_out_right d_law_bent d_law_first_bad d_law_told d_MK main
end Kk03
open PySem PySem.W PySem.Calls PyProof.Rows
theorem PySem.Challenge.cw_onepicture_k03_whole_weavings_of_all_kin_holds : PySem.Challenge.rw_onepicture_k03_whole_weavings_of_all_kin.Holds := by
  w_on; o_law
  refine HandSHeadRun.head_any (r := OpenLaw.row PySem.Challenge.rw_onepicture_k03_whole_weavings_of_all_kin) (q := view (OpenLaw.row PySem.Challenge.rw_onepicture_k03_whole_weavings_of_all_kin).prog [90]) (H := Kk03.hk) (ob := Kk03.ob) (M := 4000) (loose := Kk03.ls) (d := HandSHeadRun.topDef (OpenLaw.row PySem.Challenge.rw_onepicture_k03_whole_weavings_of_all_kin).prog 90) (kwd := []) Kk03.ob_eq
    (by kernel_rfl) (fun s => by kernel_rfl) Kk03.run (by kernel_rfl) (by kernel_rfl) (by kernel_rfl) (by rfl) (by first | assumption | decide +kernel) (by decide +kernel) ⟨rfl, rfl, rfl, rfl, rfl, by decide +kernel⟩ ?hw ?hc
  case hw => w_witness2
  case hc =>
    refine L2.walk_ofE (l := PySem.Challenge.rw_onepicture_k03_whole_weavings_of_all_kin) (n := 63) (k := 48) (x := "script") (CX := L2.CX0) rfl (by decide) (by kernel_rfl) ⟨rfl, by decide, by decide⟩ ?F (fun _ _ _ _ z => z)
    intro w mg fa h Y G hmg0
    obtain ⟨K, KX, c, e⟩ := Y
    have hmg : mg ("law" : PySem.Str) = some (.ref fa) := by
      have e : (HandSHeadRun.topDef (OpenLaw.row PySem.Challenge.rw_onepicture_k03_whole_weavings_of_all_kin).prog 90).name = ("law" : PySem.Str) := by kernel_rfl
      rw [← e]
      exact hmg0
    obtain ⟨fd, hb, hF⟩ := Kk03.facts (P := (PySem.Challenge.rw_onepicture_k03_whole_weavings_of_all_kin).prog) (w := w) KX G hmg c e
    exact ⟨K, fd, FD.spLaw K, KX, hb, fun H a ns hl _ hS => ⟨a, ns, rfl, hS, hl, fun _ => rfl⟩, hF⟩
