import PyProof.Rows.All
import Wide.All
import OpenK.AllK
import Wide.FinOn
import KE.GoesMore
import KE.KStateDown
import Lean
import HandS.Defaults
import HandS.ExcField
import HandS.ExcInit
import HandS.ForExc
import HandS.ForMost
import HandS.Head0
import HandS.Head1
import HandS.Head2
import HandS.HeadEnd
import HandS.HeadHook1
import HandS.HeadHook2
import HandS.IsInst
import HandS.OwnEq
import HandS.SetFor
import HandS.Strs
import HandS.Style
import HandS.TupAny
import HandS.TupMul
import HandS.Zip
import PyProof.ReprRoads
import PySem.Challenge.RW_onepicture_k02_whole_manners_step_by_ste
set_option Elab.async false
set_option linter.all false
set_option maxRecDepth 100000
set_option maxHeartbeats 2000000
/-! # Data as trees over the hand layer: each expression's reading by a plain function. -/
namespace FD
open PySem L2

/-- a value as a tree -/
inductive D where
  | non | bl (b : Bool) | int (i : Int) | str (x : Str) | tup (xs : List D) | lst (xs : List D) | emp | obj (c : Str) (ks : List Str) (ds : List D) | hnd | rng (i j : Int)

/-- the drawing hand: the numbers of the script, how many are taken, what is left of a great one, the state, how many draws -/
structure Gh where
  xs : List Int
  i : Int
  c : Int
  r : Int
  n : Int

structure DC where
  K : PySem.W.Frag
  mg : Str → Option Value
  ah : Option Addr

mutual
inductive Dn (C : DC) (H : Hp) : V → D → Prop
  | non : Dn C H .non .non
  | bl (b : Bool) : Dn C H (.bl b) (.bl b)
  | int (i : Int) : Dn C H (.int i) (.int i)
  | str (x : Str) : Dn C H (.str x) (.str x)
  | tup {a : Addr} {vs : List V} {ds : List D} : SqT C.K H a vs → Dns C H vs ds → Dn C H (.ref a) (.tup ds)
  | lst {a : Addr} {vs : List V} {ds : List D} : H a = some (.lst vs) → Dns C H vs ds → Dn C H (.ref a) (.lst ds)
  | emp {a : Addr} : H a = some (.dK []) → Dn C H (.ref a) .emp
  | obj {a A dx : Addr} {c : Str} {fs : List (Str × V)} {ks : List Str} {ds : List D} : C.mg c = some (.ref A) → H a = some (.ins A dx fs) → fs.map (·.1) = ks → Dns C H (fs.map (·.2)) ds → Dn C H (.ref a) (.obj c ks ds)
  | hnd {a : Addr} : C.ah = some a → Dn C H (.ref a) .hnd
  | rng {a : Addr} {i j : Int} : H a = some (.rng i j) → Dn C H (.ref a) (.rng i j)
inductive Dns (C : DC) (H : Hp) : List V → List D → Prop
  | nil : Dns C H [] []
  | cons {v : V} {d : D} {vs : List V} {ds : List D} : Dn C H v d → Dns C H vs ds → Dns C H (v :: vs) (d :: ds)
end

theorem Same.tup {K : PySem.W.Frag} {H H' : Hp} {a : Addr} {xs : List V} (e : Same H H') (h : SqT K H a xs) : SqT K H' a xs := by
  rcases h with (h | ⟨o, h⟩) | h
  · exact .inl (.inl (e _ _ h))
  · exact .inl (.inr ⟨o, e _ _ h⟩)
  · exact .inr h

mutual
theorem Dn.mono {C : DC} {H H' : Hp} (e : Same H H') : ∀ {v : V} {d : D}, Dn C H v d → Dn C H' v d
  | _, _, .non => .non
  | _, _, .bl b => .bl b
  | _, _, .int i => .int i
  | _, _, .str x => .str x
  | _, _, .tup h hs => .tup (Same.tup e h) (Dns.mono e hs)
  | _, _, .lst h hs => .lst (e _ _ h) (Dns.mono e hs)
  | _, _, .emp h => .emp (e _ _ h)
  | _, _, .obj m h k hs => .obj m (e _ _ h) k (Dns.mono e hs)
  | _, _, .hnd h => .hnd h
  | _, _, .rng h => .rng (e _ _ h)
theorem Dns.mono {C : DC} {H H' : Hp} (e : Same H H') : ∀ {vs : List V} {ds : List D}, Dns C H vs ds → Dns C H' vs ds
  | _, _, .nil => .nil
  | _, _, .cons h hs => .cons (Dn.mono e h) (Dns.mono e hs)
end
theorem Dns.length {C : DC} {H : Hp} : ∀ {vs : List V} {ds : List D}, Dns C H vs ds → vs.length = ds.length
  | _, _, .nil => rfl
  | _, _, .cons _ hs => by simp [Dns.length hs]
theorem Dns.append {C : DC} {H : Hp} : ∀ {vs ws : List V} {ds es : List D}, Dns C H vs ds → Dns C H ws es → Dns C H (vs ++ ws) (ds ++ es)
  | _, _, _, _, .nil, k => k
  | _, _, _, _, .cons h hs, k => .cons h (Dns.append hs k)
theorem Dns.get {C : DC} {H : Hp} : ∀ {vs : List V} {ds : List D} {i : Nat} {d : D}, Dns C H vs ds → ds[i]? = some d → ∃ v, vs[i]? = some v ∧ Dn C H v d
  | _, _, _, _, .nil, e => by simp at e
  | _, _, 0, _, .cons h _, e => by simp at e; subst e; exact ⟨_, rfl, h⟩
  | _, _, i + 1, _, .cons _ hs, e => by
    obtain ⟨v, h1, h2⟩ := Dns.get (i := i) hs (by simpa using e)
    exact ⟨v, by simpa using h1, h2⟩
theorem Dns.getV {C : DC} {H : Hp} : ∀ {vs : List V} {ds : List D} {i : Nat} {v : V}, Dns C H vs ds → vs[i]? = some v → ∃ d, ds[i]? = some d ∧ Dn C H v d
  | _, _, _, _, .nil, e => by simp at e
  | _, _, 0, _, .cons h _, e => by simp at e; subst e; exact ⟨_, rfl, h⟩
  | _, _, i + 1, _, .cons _ hs, e => by
    obtain ⟨v, h1, h2⟩ := Dns.getV (i := i) hs (by simpa using e)
    exact ⟨v, by simpa using h1, h2⟩
theorem Dns.drop {C : DC} {H : Hp} : ∀ {vs : List V} {ds : List D} (n : Nat), Dns C H vs ds → Dns C H (vs.drop n) (ds.drop n)
  | _, _, 0, h => h
  | _, _, _ + 1, .nil => .nil
  | _, _, n + 1, .cons _ hs => Dns.drop n hs
theorem Dns.take {C : DC} {H : Hp} : ∀ {vs : List V} {ds : List D} (n : Nat), Dns C H vs ds → Dns C H (vs.take n) (ds.take n)
  | _, _, 0, _ => .nil
  | _, _, _ + 1, .nil => .nil
  | _, _, n + 1, .cons h hs => .cons h (Dns.take n hs)

/-- what a slot holds -/
inductive En where
  | un | dt (d : D) | own (xs : List D)

/-- a def's frame: what is written, where the hand stands, the heap at the entry, what of it stands for good -/
structure Fx where
  c : DC
  HE : Hp
  SE : Hp

def HandAt (c : DC) (g : Gh) (H S : Hp) : Prop := match c.ah with
  | none => True
  | some a => S a = none ∧ ∃ q, H a = some (.lst [.ref q, .int g.i, .int g.c, .int g.r, .int g.n]) ∧ S q = some (.lst (g.xs.map V.int))

def SlotOk (F : Fx) (H S : Hp) : En → Option V → Prop
  | .un, _ => True
  | .dt d, so => ∃ v, so = some v ∧ Dn F.c S v d
  | .own xs, so => ∃ p vs, so = some (.ref p) ∧ S p = none ∧ F.HE p = none ∧ F.c.ah ≠ some p ∧ H p = some (.lst vs) ∧ Dns F.c S vs xs

structure Rep (F : Fx) (ρ : List En) (g : Gh) (σ : St) (H S : Hp) : Prop where
  sub : Same S H
  hand : HandAt F.c g H S
  keep : ∀ b o, F.HE b = some o → F.c.ah ≠ some b → H b = some o
  stay : ∀ b, F.HE b ≠ none → F.SE b = none → S b = none
  slots : ∀ (i : Nat) (e : En), ρ[i]? = some e → ∃ so, σ[i]? = some so ∧ SlotOk F H S e so
  apart : ∀ (i j : Nat) (p : Addr) (xs ys : List D), ρ[i]? = some (.own xs) → ρ[j]? = some (.own ys) → σ[i]? = some (some (.ref p)) → σ[j]? = some (some (.ref p)) → i = j

section
variable {F : Fx} {ρ : List En} {g : Gh} {σ : St} {H S : Hp}

theorem Same.upd_new {H : Hp} {p : Addr} {o : HO} (hp : H p = none) : Same H (upd H p o) := fun b u e => by
  rw [upd_ne (ne_of_none e hp)]; exact e
theorem Same.upd_both {S H : Hp} (e : Same S H) (p : Addr) (o : HO) : Same (upd S p o) (upd H p o) := fun b u h => by
  by_cases hb : b = p
  · subst hb; rw [upd_same] at h ⊢; exact h
  · rw [upd_ne hb] at h ⊢; exact e b u h
theorem Rep.hand_some (R : Rep F ρ g σ H S) {a : Addr} (e : F.c.ah = some a) : S a = none ∧ H a ≠ none := by
  have h := R.hand
  unfold HandAt at h
  rw [e] at h
  obtain ⟨h1, q, h2, _⟩ := h
  exact ⟨h1, by rw [h2]; simp⟩
/-- a new address is none of those spoken of -/
theorem Rep.new_HE (R : Rep F ρ g σ H S) {p : Addr} (hp : H p = none) : F.HE p = none := by
  cases e : F.HE p with
  | none => rfl
  | some o =>
    by_cases h : F.c.ah = some p
    · exact absurd hp (R.hand_some h).2
    · rw [R.keep p o e h] at hp; cases hp
theorem Rep.new_ah (R : Rep F ρ g σ H S) {p : Addr} (hp : H p = none) : F.c.ah ≠ some p := fun h => (R.hand_some h).2 hp
theorem HandAt.up {c : DC} {g : Gh} {H S : Hp} {p : Addr} {o : HO} (h : HandAt c g H S) (sub : Same S H) (hp : H p = none) : HandAt c g (upd H p o) (upd S p o) := by
  unfold HandAt at h ⊢
  cases e : c.ah with
  | none => trivial
  | some a =>
    rw [e] at h
    obtain ⟨h1, q, h2, h3⟩ := h
    have ne : a ≠ p := ne_of_none h2 hp
    exact ⟨by rw [upd_ne ne]; exact h1, q, by rw [upd_ne ne]; exact h2, (Same.upd_new (sub.free hp)) _ _ h3⟩
theorem HandAt.up1 {c : DC} {g : Gh} {H S : Hp} {p : Addr} {o : HO} (h : HandAt c g H S) (hp : c.ah ≠ some p) : HandAt c g (upd H p o) S := by
  unfold HandAt at h ⊢
  cases e : c.ah with
  | none => trivial
  | some a =>
    rw [e] at h
    obtain ⟨h1, q, h2, h3⟩ := h
    have ne : a ≠ p := fun z => hp (by rw [e, z])
    exact ⟨h1, q, by rw [upd_ne ne]; exact h2, h3⟩
/-- what is made new stands for good -/
theorem Rep.up (R : Rep F ρ g σ H S) {p : Addr} (o : HO) (hp : H p = none) : Rep F ρ g σ (upd H p o) (upd S p o) where
  sub := Same.upd_both R.sub p o
  hand := R.hand.up R.sub hp
  keep := fun b u e h => by
    have := R.keep b u e h
    rw [upd_ne (ne_of_none this hp)]; exact this
  stay := fun b e h => by
    have ne : b ≠ p := fun z => e (by rw [z]; exact R.new_HE hp)
    rw [upd_ne ne]; exact R.stay b e h
  slots := fun i e h => by
    obtain ⟨so, h1, h2⟩ := R.slots i e h
    refine ⟨so, h1, ?_⟩
    have sm : Same S (upd S p o) := Same.upd_new (R.sub.free hp)
    cases e with
    | un => trivial
    | dt d => obtain ⟨v, e1, e2⟩ := h2; exact ⟨v, e1, e2.mono sm⟩
    | own xs =>
      obtain ⟨q, vs, e1, e2, e3, e4, e5, e6⟩ := h2
      have ne : q ≠ p := ne_of_none e5 hp
      exact ⟨q, vs, e1, by rw [upd_ne ne]; exact e2, e3, e4, by rw [upd_ne ne]; exact e5, e6.mono sm⟩
  apart := R.apart
theorem Rep.tosame (R : Rep F ρ g σ H S) {p : Addr} (o : HO) (hp : H p = none) : Same S (upd S p o) := Same.upd_new (R.sub.free hp)
/-- the slots are forgotten -/
theorem Rep.bare (R : Rep F ρ g σ H S) : Rep F [] g [] H S :=
  ⟨R.sub, R.hand, R.keep, R.stay, fun i e h => by simp at h, fun i j p xs ys h => by simp at h⟩
theorem Rep.forget {ρ' : List En} {σ' : St} (R : Rep F ρ g σ H S) (h : ∀ (i : Nat) (e : En), ρ'[i]? = some e → ∃ so, σ'[i]? = some so ∧ SlotOk F H S e so)
    (ap : ∀ (i j : Nat) (p : Addr) (xs ys : List D), ρ'[i]? = some (.own xs) → ρ'[j]? = some (.own ys) → σ'[i]? = some (some (.ref p)) → σ'[j]? = some (some (.ref p)) → i = j) : Rep F ρ' g σ' H S :=
  ⟨R.sub, R.hand, R.keep, R.stay, h, ap⟩
theorem get_set {α : Type} {l : List α} {i j : Nat} {x y : α} (h : (l.set i x)[j]? = some y) : (i = j ∧ x = y) ∨ (i ≠ j ∧ l[j]? = some y) := by
  rw [List.getElem?_set] at h
  split at h
  · rename_i e
    split at h
    · exact .inl ⟨e, Option.some.inj h⟩
    · cases h
  · rename_i e; exact .inr ⟨e, h⟩
theorem set_get {α : Type} {l : List α} {i j : Nat} {x : α} (h : i ≠ j) : (l.set i x)[j]? = l[j]? := by
  rw [List.getElem?_set, if_neg h]
theorem set_at {α : Type} {l : List α} {i : Nat} {x y : α} (h : l[i]? = some y) : (l.set i x)[i]? = some x := by
  have := (List.getElem?_eq_some_iff.mp h).1
  rw [List.getElem?_set, if_pos rfl, if_pos this]
/-- a name gets a value that stands for good -/
theorem Rep.set (R : Rep F ρ g σ H S) (i : Nat) {v : V} {d : D} (hv : Dn F.c S v d) : Rep F (ρ.set i (.dt d)) g (σ.set i (some v)) H S := by
  refine R.forget (fun j e h => ?_) fun j k p xs ys h1 h2 h3 h4 => ?_
  · rcases get_set h with ⟨rfl, rfl⟩ | ⟨ne, h⟩
    · have hl : i < ρ.length := by
        have := (List.getElem?_eq_some_iff.mp h).1
        simpa using this
      obtain ⟨so, h1, _⟩ := R.slots i (ρ[i]) (List.getElem?_eq_getElem hl)
      exact ⟨some v, set_at h1, v, rfl, hv⟩
    · obtain ⟨so, h1, h2⟩ := R.slots j e h
      exact ⟨so, by rw [set_get ne]; exact h1, h2⟩
  · rcases get_set h1 with ⟨_, z⟩ | ⟨n1, h1⟩
    · cases z
    rcases get_set h2 with ⟨_, z⟩ | ⟨n2, h2⟩
    · cases z
    rw [set_get n1] at h3; rw [set_get n2] at h4
    exact R.apart j k p xs ys h1 h2 h3 h4
/-- a name gets a new list that it alone holds -/
theorem Rep.setOwn (R : Rep F ρ g σ H S) (i : Nat) {p : Addr} {vs : List V} {xs : List D} (hp : H p = none) (hs : Dns F.c S vs xs) : Rep F (ρ.set i (.own xs)) g (σ.set i (some (.ref p))) (upd H p (.lst vs)) S := by
  refine ⟨fun b o e => by rw [upd_ne (ne_of_none (R.sub _ _ e) hp)]; exact R.sub _ _ e, R.hand.up1 (R.new_ah hp), fun b o e h => by rw [upd_ne (ne_of_none (R.keep b o e h) hp)]; exact R.keep b o e h, R.stay, fun j e h => ?_, fun j k q xs' ys' h1 h2 h3 h4 => ?_⟩
  · rcases get_set h with ⟨rfl, rfl⟩ | ⟨ne, h⟩
    · have hl : i < ρ.length := by
        have := (List.getElem?_eq_some_iff.mp h).1
        simpa using this
      obtain ⟨so, h1, _⟩ := R.slots i (ρ[i]) (List.getElem?_eq_getElem hl)
      exact ⟨some (.ref p), set_at h1, p, vs, rfl, R.sub.free hp, R.new_HE hp, R.new_ah hp, upd_same, hs⟩
    · obtain ⟨so, h1, h2⟩ := R.slots j e h
      refine ⟨so, by rw [set_get ne]; exact h1, ?_⟩
      cases e with
      | un => trivial
      | dt d => exact h2
      | own zs =>
        obtain ⟨q, ws, e1, e2, e3, e4, e5, e6⟩ := h2
        exact ⟨q, ws, e1, e2, e3, e4, by rw [upd_ne (ne_of_none e5 hp)]; exact e5, e6⟩
  · have fresh : ∀ (m : Nat) (zs : List D), i ≠ m → ρ[m]? = some (.own zs) → σ[m]? = some (some (.ref p)) → False := fun m zs _ a b => by
      obtain ⟨so, c1, q, ws, c2, _, _, _, c5, _⟩ := R.slots m _ a
      rw [b] at c1; cases c1
      cases c2
      rw [hp] at c5; cases c5
    rcases get_set h1 with ⟨z1, _⟩ | ⟨n1, h1⟩
    · rcases get_set h2 with ⟨z2, _⟩ | ⟨n2, h2⟩
      · rw [← z1, ← z2]
      · rw [set_get n2] at h4
        subst z1
        rcases get_set h3 with ⟨_, z⟩ | ⟨n, _⟩
        · cases z; exact (fresh k _ n2 h2 h4).elim
        · exact absurd rfl n
    · rw [set_get n1] at h3
      rcases get_set h2 with ⟨z2, _⟩ | ⟨n2, h2⟩
      · subst z2
        rcases get_set h4 with ⟨_, z⟩ | ⟨n, _⟩
        · cases z; exact (fresh j _ n1 h1 h3).elim
        · exact absurd rfl n
      · rw [set_get n2] at h4
        exact R.apart j k q xs' ys' h1 h2 h3 h4
/-- such a list is written -/
theorem Rep.writeOwn (R : Rep F ρ g σ H S) {i : Nat} {p : Addr} {xs zs : List D} {ws : List V} (hi : ρ[i]? = some (.own xs)) (hσ : σ[i]? = some (some (.ref p))) (hs : Dns F.c S ws zs) : Rep F (ρ.set i (.own zs)) g σ (upd H p (.lst ws)) S := by
  obtain ⟨so, e0, p', vs, e1, e2, e3, e4, e5, e6⟩ := R.slots i _ hi
  rw [hσ] at e0; cases e0; cases e1
  refine ⟨fun b o e => by rw [upd_ne (ne_of_none e e2)]; exact R.sub _ _ e, R.hand.up1 e4, fun b o e h => by rw [upd_ne (ne_of_none e e3)]; exact R.keep b o e h, R.stay, fun j e h => ?_, fun j k q xs' ys' h1 h2 h3 h4 => ?_⟩
  · rcases get_set h with ⟨rfl, rfl⟩ | ⟨ne, h⟩
    · exact ⟨_, hσ, p, ws, rfl, e2, e3, e4, upd_same, hs⟩
    · obtain ⟨so, h1, h2⟩ := R.slots j e h
      refine ⟨so, h1, ?_⟩
      cases e with
      | un => trivial
      | dt d => exact h2
      | own ys =>
        obtain ⟨q, us, c1, c2, c3, c4, c5, c6⟩ := h2
        have nq : q ≠ p := fun z => by
          subst z; subst c1
          exact ne (R.apart i j q xs ys hi h hσ h1)
        exact ⟨q, us, c1, c2, c3, c4, by rw [upd_ne nq]; exact c5, c6⟩
  · have at_ : ∀ (m : Nat) (us : List D), (ρ.set i (.own zs))[m]? = some (.own us) → ∃ us', ρ[m]? = some (.own us') := fun m us a => by
      rcases get_set a with ⟨z, _⟩ | ⟨_, a⟩
      · subst z; exact ⟨_, hi⟩
      · exact ⟨_, a⟩
    obtain ⟨_, h1⟩ := at_ j _ h1
    obtain ⟨_, h2⟩ := at_ k _ h2
    exact R.apart j k q _ _ h1 h2 h3 h4
/-- the list that a name alone holds stands for good from now on -/
theorem Rep.freeze (R : Rep F ρ g σ H S) {i : Nat} {xs : List D} (hi : ρ[i]? = some (.own xs)) : ∃ S', Same S S' ∧ Rep F (ρ.set i (.dt (.lst xs))) g σ H S' := by
  obtain ⟨so, e0, p, vs, e1, e2, e3, e4, e5, e6⟩ := R.slots i _ hi
  subst e1
  have sm : Same S (upd S p (.lst vs)) := Same.upd_new e2
  refine ⟨upd S p (.lst vs), sm, fun b o e => ?_, ?_, R.keep, fun b e h => ?_, fun j e h => ?_, fun j k q xs' ys' h1 h2 h3 h4 => ?_⟩
  · by_cases hb : b = p
    · subst hb; rw [upd_same] at e; cases e; exact e5
    · rw [upd_ne hb] at e; exact R.sub _ _ e
  · have h := R.hand
    unfold HandAt at h ⊢
    cases ea : F.c.ah with
    | none => trivial
    | some a =>
      rw [ea] at h
      obtain ⟨h1, q, h2, h3⟩ := h
      have ne : a ≠ p := fun z => e4 (by rw [ea, z])
      exact ⟨by rw [upd_ne ne]; exact h1, q, h2, sm _ _ h3⟩
  · have ne : b ≠ p := fun z => e (by rw [z]; exact e3)
    rw [upd_ne ne]; exact R.stay b e h
  · rcases get_set h with ⟨rfl, rfl⟩ | ⟨ne, h⟩
    · exact ⟨_, e0, _, rfl, .lst upd_same (e6.mono sm)⟩
    · obtain ⟨so, h1, h2⟩ := R.slots j e h
      refine ⟨so, h1, ?_⟩
      cases e with
      | un => trivial
      | dt d => obtain ⟨v, c1, c2⟩ := h2; exact ⟨v, c1, c2.mono sm⟩
      | own ys =>
        obtain ⟨q, us, c1, c2, c3, c4, c5, c6⟩ := h2
        have nq : q ≠ p := fun z => by
          subst z; subst c1
          exact ne (R.apart i j q xs ys hi h e0 h1)
        exact ⟨q, us, c1, by rw [upd_ne nq]; exact c2, c3, c4, c5, c6.mono sm⟩
  · rcases get_set h1 with ⟨_, z⟩ | ⟨n1, h1⟩
    · cases z
    rcases get_set h2 with ⟨_, z⟩ | ⟨n2, h2⟩
    · cases z
    exact R.apart j k q xs' ys' h1 h2 h3 h4
/-- behind a call -/
theorem Rep.back (R : Rep F ρ g σ H S) {g' : Gh} {H' S' : Hp} (sm : Same S S') (B : Rep ⟨F.c, H, S⟩ [] g' [] H' S') : Rep F ρ g' σ H' S' := by
  refine ⟨B.sub, B.hand, fun b o e h => B.keep b o (R.keep b o e h) h, fun b e h => ?_, fun i e h => ?_, R.apart⟩
  · by_cases ha : F.c.ah = some b
    · exact (B.hand_some ha).1
    · refine B.stay b ?_ (R.stay b e h)
      cases q : F.HE b with
      | none => exact absurd q e
      | some o => show H b ≠ none; rw [R.keep b o q ha]; simp
  · obtain ⟨so, h1, h2⟩ := R.slots i e h
    refine ⟨so, h1, ?_⟩
    cases e with
    | un => trivial
    | dt d => obtain ⟨v, c1, c2⟩ := h2; exact ⟨v, c1, c2.mono sm⟩
    | own ys =>
      obtain ⟨q, us, c1, c2, c3, c4, c5, c6⟩ := h2
      refine ⟨q, us, c1, B.stay q (by show H q ≠ none; rw [c5]; simp) c2, c3, c4, B.keep q _ c5 c4, c6.mono sm⟩
end
end FD
set_option Elab.async false
set_option linter.all false
set_option maxRecDepth 100000
set_option maxHeartbeats 2000000
namespace FD
open PySem L2

inductive Out (α : Type) where
  | ok (a : α) (g : Gh)
  | ex (c : Str) (ks : List Str) (ds : List D) (g : Gh)
abbrev M (α : Type) := Option (Out α)
@[simp] def M.bd {α β : Type} (m : M α) (k : α → Gh → M β) : M β := match m with
  | none => none
  | some (.ok a g) => k a g
  | some (.ex c ks ds g) => some (.ex c ks ds g)
@[simp] def lift {α : Type} (o : Option α) (g : Gh) : M α := match o with
  | none => none
  | some a => some (.ok a g)

abbrev FE := List En → Gh → M D
abbrev FA := List En → Gh → M (List D)
abbrev FT := List En → Gh → M Bool
inductive Fl where
  | nx (ρ : List En) | rt (d : D) | bk (ρ : List En) | ct (ρ : List En)
abbrev FS := List En → Gh → M Fl

/-- how an error lies: its own dict's fields -/
def ExAt (c : DC) (S : Hp) (dd : Option Addr) (ks : List Str) (ds : List D) : Prop :=
  ∃ fs : List (Str × V), (match dd with | some d => S d = some (.xd fs) | none => fs = []) ∧ fs.map (·.1) = ks ∧ Dns c S (fs.map (·.2)) ds
def GotX (F : Fx) (S : Hp) (E : XK) (c : Str) (ks : List Str) (ds : List D) (g : Gh) : Prop :=
  ∀ A dd H' S', F.c.mg c = some (.ref A) → Same S S' → Rep F [] g [] H' S' → ExAt F.c S' dd ks ds → E (.ref A) dd H'
abbrev Rl (β α : Type) := DC → Hp → β → α → Prop
abbrev rB : Rl Bool Bool := fun _ _ b a => b = a
def Got {β α : Type} (rel : Rl β α) (F : Fx) (ρ : List En) (σ : St) (S : Hp) (E : XK) (Q : β → Hp → Prop) : M α → Prop
  | none => False
  | some (.ok a g) => ∀ b H' S', Same S S' → Rep F ρ g σ H' S' → rel F.c S' b a → Q b H'
  | some (.ex c ks ds g) => GotX F S E c ks ds g
theorem GotX.mono {F : Fx} {S S1 : Hp} {E : XK} {c ks ds g} (h : GotX F S E c ks ds g) (sm : Same S S1) : GotX F S1 E c ks ds g :=
  fun A dd H' S' m s R x => h A dd H' S' m (sm.trans s) R x
theorem Got.mono {β α : Type} {rel : Rl β α} {F : Fx} {ρ : List En} {σ : St} {S S1 : Hp} {E : XK} {Q : β → Hp → Prop} {m : M α} (h : Got rel F ρ σ S E Q m) (sm : Same S S1) : Got rel F ρ σ S1 E Q m := by
  cases m with
  | none => exact h
  | some o => cases o with
    | ok a g => exact fun b H' S' s R r => h b H' S' (sm.trans s) R r
    | ex c ks ds g => exact GotX.mono h sm

abbrev TX (β : Type) := St → Hp → (β → Hp → Prop) → Prop
/-- the reading t goes as the function f says -/
structure RG {β α : Type} (rel : Rl β α) (c : DC) (E : St → XK) (t : TX β) (f : List En → Gh → M α) : Prop where
  run : ∀ (F : Fx) (ρ : List En) (g : Gh) (σ : St) (H S : Hp) (Q : β → Hp → Prop), F.c = c → Rep F ρ g σ H S → Got rel F ρ σ S (E σ) Q (f ρ g) → t σ H Q
abbrev RE := @RG V D Dn
abbrev RA := @RG (List V) (List D) Dns
abbrev RT := @RG Bool Bool rB

/-- one after another -/
theorem RG.bind {β α β' α' : Type} {rel : Rl β α} {rel' : Rl β' α'} {c : DC} {E : St → XK} {ta : TX β} {fa : List En → Gh → M α} (ha : RG rel c E ta fa) {r : St → β → Hp → (β' → Hp → Prop) → Prop} {k : List En → α → Gh → M α'}
    (hk : ∀ F ρ g σ H S Q b a, F.c = c → Rep F ρ g σ H S → rel c S b a → Got rel' F ρ σ S (E σ) Q (k ρ a g) → r σ b H Q) : RG rel' c E (fun σ H Q => ta σ H fun b H1 => r σ b H1 Q) (fun ρ g => (fa ρ g).bd (k ρ)) := by
  refine ⟨fun F ρ g σ H S Q e R G => ha.run F ρ g σ H S _ e R ?_⟩
  cases h : fa ρ g with
  | none => simp only [M.bd, h] at G; exact G
  | some o => cases o with
    | ok a g1 =>
      simp only [M.bd, h] at G
      exact fun b H1 S1 sm R1 rl => hk F ρ g1 σ H1 S1 Q b a e R1 (e ▸ rl) (G.mono sm)
    | ex cc ks ds g1 => simp only [M.bd, h] at G; exact G
/-- the same at a place -/
theorem RG.step {β α β' α' : Type} {rel : Rl β α} {rel' : Rl β' α'} {c : DC} {E : St → XK} {t : TX β} {fa : List En → Gh → M α} (ha : RG rel c E t fa) {F : Fx} {ρ : List En} {g : Gh} {σ : St} {H S : Hp} {Q : β' → Hp → Prop} {k : α → Gh → M α'} {r : β → Hp → Prop}
    (e : F.c = c) (R : Rep F ρ g σ H S) (G : Got rel' F ρ σ S (E σ) Q ((fa ρ g).bd k)) (hk : ∀ H1 S1 g1 b a, Same S S1 → Rep F ρ g1 σ H1 S1 → rel c S1 b a → Got rel' F ρ σ S1 (E σ) Q (k a g1) → r b H1) : t σ H r := by
  refine ha.run F ρ g σ H S _ e R ?_
  cases h : fa ρ g with
  | none => simp only [M.bd, h] at G; exact G
  | some o => cases o with
    | ok a g1 =>
      simp only [M.bd, h] at G
      exact fun b H1 S1 sm R1 rl => hk H1 S1 g1 b a sm R1 (e ▸ rl) (G.mono sm)
    | ex cc ks ds g1 => simp only [M.bd, h] at G; exact G
/-- hand back what stands -/
theorem Got.ret {β α : Type} {rel : Rl β α} {F : Fx} {ρ : List En} {σ : St} {H S : Hp} {E : XK} {Q : β → Hp → Prop} {a : α} {g : Gh} {b : β} (G : Got rel F ρ σ S E Q (some (.ok a g))) (R : Rep F ρ g σ H S) (h : rel F.c S b a) : Q b H := G b H S (Same.refl S) R h
theorem Got.new {F : Fx} {ρ : List En} {σ : St} {H S : Hp} {E : XK} {Q : VK} {d : D} {g : Gh} {p : Addr} {o : HO} (G : Got Dn F ρ σ S E Q (some (.ok d g))) (R : Rep F ρ g σ H S) (hp : H p = none) (h : Dn F.c (upd S p o) (.ref p) d) : Q (.ref p) (upd H p o) :=
  G (.ref p) _ _ (R.tosame o hp) (R.up o hp) h

section
variable {X : Cx} {ah : Option Addr} {E : St → XK}
abbrev dc (X : Cx) (ah : Option Addr) : DC := ⟨X.K, X.mg, ah⟩
/-- an expression goes as f -/
def PF (X : Cx) (ah : Option Addr) (E : St → XK) (e : Expr) (f : FE) : Prop := ∃ t, PE X e t ∧ RE (dc X ah) E t f
def PFA (X : Cx) (ah : Option Addr) (E : St → XK) (es : List Expr) (f : FA) : Prop := ∃ t, PA X es t ∧ RA (dc X ah) E t f
def PFT (X : Cx) (ah : Option Addr) (E : St → XK) (e : Expr) (f : FT) : Prop := ∃ t, PT X e t ∧ RT (dc X ah) E t f
def PFW (X : Cx) (ah : Option Addr) (E : St → XK) (e : Expr) (f : FT) : Prop := ∃ t, PW X e t ∧ RT (dc X ah) E t f

/-! ### names and constants -/
@[simp] def cV (i : Nat) : FE := fun ρ g => match ρ[i]? with
  | some (.dt d) => some (.ok d g)
  | _ => none
@[simp] def cD (d : D) : FE := fun _ g => some (.ok d g)
theorem re_var (c : DC) (i : Nat) : RE c E (tVar i) (cV i) := by
  refine ⟨fun F ρ g σ H S Q e R G => ?_⟩
  simp only [cV] at G
  cases h : ρ[i]? with
  | none => rw [h] at G; exact G.elim
  | some en => cases en with
    | dt d =>
      rw [h] at G
      obtain ⟨so, h1, v, rfl, hv⟩ := R.slots i _ h
      exact ⟨v, h1, G.ret R hv⟩
    | un => rw [h] at G; exact G.elim
    | own xs => rw [h] at G; exact G.elim
theorem pf_v (i : Nat) {x : Str} {pos : Pos} (hN : X.N[i]? = some x := by rfl) (hv : Vis X.env.scope x := by first | exact Or.inl rfl | exact Or.inr (Or.inl rfl) | exact Or.inr (Or.inr rfl)) (hd : (x == ("__debug__" : Str)) = false := by decide)
    (hcd : (x == ("__classdict__" : Str)) = false := by decide) : PF X ah E (.Name x pos) (cV i) := ⟨_, pe_var hN hv hd hcd, re_var _ i⟩
theorem re_c {c : DC} {v : V} {d : D} (h : ∀ S, Dn c S v d) : RE c E (tC v) (cD d) := ⟨fun F ρ g σ H S Q e R G => G.ret R (e ▸ h S)⟩
theorem pf_int {i j pos} : PF X ah E (.Constant (.int i) j pos) (cD (.int i)) := ⟨_, pe_int, re_c fun _ => .int i⟩
theorem pf_bl {b j pos} : PF X ah E (.Constant (.bool b) j pos) (cD (.bl b)) := ⟨_, pe_bl, re_c fun _ => .bl b⟩
theorem pf_non {j pos} : PF X ah E (.Constant .none j pos) (cD .non) := ⟨_, pe_non, re_c fun _ => .non⟩
theorem pf_str {x j pos} : PF X ah E (.Constant (.str x) j pos) (cD (.str x)) := ⟨_, pe_str, re_c fun _ => .str x⟩
/-- a module's constant -/
theorem pf_glob {x : Str} {v : V} {u : Value} {d : D} {pos : Pos} (hg : Gl X x) (hm : X.mg x = some u) (r : RelV v u) (h : ∀ S, Dn (dc X ah) S v d) (hd : (x == ("__debug__" : Str)) = false := by decide) : PF X ah E (.Name x pos) (cD d) :=
  ⟨_, pe_glob hg hm r hd, re_c h⟩

/-! ### arguments -/
@[simp] def cN : FA := fun _ g => some (.ok [] g)
@[simp] def cC (a : FE) (b : FA) : FA := fun ρ g => (a ρ g).bd fun x g1 => (b ρ g1).bd fun xs g2 => some (.ok (x :: xs) g2)
theorem pfa_nil : PFA X ah E [] cN := ⟨_, pa_nil, ⟨fun F ρ g σ H S Q e R G => G.ret (b := []) R .nil⟩⟩
theorem ra_cons {c : DC} {te : TE} {t : TA} {a : FE} {b : FA} (ha : RE c E te a) (hb : RA c E t b) : RA c E (tCons te t) (cC a b) := by
  refine RG.bind (r := fun σ x H1 Q => t σ H1 fun xs H2 => Q (x :: xs) H2) (k := fun ρ x g1 => (b ρ g1).bd fun xs g2 => some (.ok (x :: xs) g2)) ha fun F ρ g σ H S Q x d e R hx G => ?_
  refine hb.run F ρ g σ H S _ e R ?_
  cases h : b ρ g with
  | none => simp only [M.bd, h] at G; exact G
  | some o => cases o with
    | ex cc ks ds g1 => simp only [M.bd, h] at G; exact G
    | ok ds g1 =>
      simp only [M.bd, h] at G
      exact fun vs H1 S1 sm R1 hv => G (x :: vs) H1 S1 sm R1 (.cons (e ▸ (hx.mono sm)) hv)
theorem pfa_cons {e : Expr} {es : List Expr} {a : FE} {b : FA} (ha : PF X ah E e a) (hb : PFA X ah E es b) (hs : starEach (e :: es) X.env = (false, eval e X.env) :: starEach es X.env := by rfl) : PFA X ah E (e :: es) (cC a b) := by
  obtain ⟨t, p, r⟩ := ha
  obtain ⟨u, q, s⟩ := hb
  exact ⟨_, pa_cons p q hs, ra_cons r s⟩

/-! ### displays -/
@[simp] def cTup (a : FA) : FE := fun ρ g => (a ρ g).bd fun xs g1 => if xs.length ≤ 1000 then some (.ok (.tup xs) g1) else none
@[simp] def cLst (a : FA) : FE := fun ρ g => (a ρ g).bd fun xs g1 => if xs.length ≤ 1000 then some (.ok (.lst xs) g1) else none
theorem line_of {n : Nat} (h : n ≤ 1000) : n ≤ sizeLine := Nat.le_of_lt (small1000 h)
theorem pf_tup {es : List Expr} {a : FA} {x1 pos} (ha : PFA X ah E es a) : PF X ah E (.Tuple es x1 pos) (cTup a) := by
  obtain ⟨t, p, r⟩ := ha
  refine ⟨_, pe_tup p, ?_⟩
  refine RG.bind (r := fun σ (xs : List V) H1 (Q : VK) => xs.length ≤ sizeLine ∧ ∀ p, H1 p = none → Q (.ref p) (upd H1 p (.tup xs))) (k := fun ρ (xs : List D) g1 => if xs.length ≤ 1000 then some (.ok (D.tup xs) g1) else none) r fun F ρ g σ H S Q vs ds e R hx G => ?_
  split at G
  · rename_i hl
    refine ⟨by rw [hx.length]; exact line_of hl, fun p hp => G.new R hp ?_⟩
    exact .tup (SqT.of upd_same) (e ▸ (hx.mono (R.tosame _ hp)))
  · exact G.elim
theorem pf_lst {es : List Expr} {a : FA} {pos} (ha : PFA X ah E es a) : PF X ah E (.List es pos) (cLst a) := by
  obtain ⟨t, p, r⟩ := ha
  refine ⟨_, pe_lst p, ?_⟩
  refine RG.bind (r := fun σ (xs : List V) H1 (Q : VK) => xs.length ≤ sizeLine ∧ ∀ p, H1 p = none → Q (.ref p) (upd H1 p (.lst xs))) (k := fun ρ (xs : List D) g1 => if xs.length ≤ 1000 then some (.ok (D.lst xs) g1) else none) r fun F ρ g σ H S Q vs ds e R hx G => ?_
  split at G
  · rename_i hl
    refine ⟨by rw [hx.length]; exact line_of hl, fun p hp => G.new R hp ?_⟩
    exact .lst upd_same (e ▸ (hx.mono (R.tosame _ hp)))
  · exact G.elim
/-- {} -/
theorem pf_emp {pos} : PF X ah E (.Dict [] [] pos) (cD .emp) := ⟨_, pe_dnewK, ⟨fun F ρ g σ H S Q e R G => fun p hp => G.new R hp (.emp upd_same)⟩⟩

/-! ### operators of two values -/
/-- the rule r holds where op tells the value -/
def OpS (c : DC) (r : R2) (op : D → D → Option D) : Prop :=
  ∀ (E : XK) F ρ g σ H S Q x y dx dy, F.c = c → Rep F ρ g σ H S → Dn c S x dx → Dn c S y dy → Got Dn F ρ σ S E Q (lift (op dx dy) g) → r x y H Q
@[simp] def cOp (op : D → D → Option D) (a b : FE) : FE := fun ρ g => (a ρ g).bd fun x g1 => (b ρ g1).bd fun y g2 => lift (op x y) g2
theorem re_op {c : DC} {r : R2} {op : D → D → Option D} {ta tb : TE} {a b : FE} (ho : OpS c r op) (ha : RE c E ta a) (hb : RE c E tb b) : RE c E (tOp r ta tb) (cOp op a b) := by
  refine RG.bind (r := fun σ x H1 Q => tb σ H1 fun y H2 => r x y H2 Q) (k := fun ρ x g1 => (b ρ g1).bd fun y g2 => lift (op x y) g2) ha fun F ρ g σ H S Q x d e R hx G => ?_
  refine hb.run F ρ g σ H S _ e R ?_
  cases h : b ρ g with
  | none => simp only [M.bd, h] at G; exact G
  | some o => cases o with
    | ex cc ks ds g1 => simp only [M.bd, h] at G; exact G
    | ok dy g1 =>
      simp only [M.bd, h] at G
      exact fun y H1 S1 sm R1 hv => ho (E σ) F ρ g1 σ H1 S1 Q x y d dy e R1 (hx.mono sm) (e ▸ hv) (Got.mono G sm)
theorem pf_bin {o : Operator} {r : R2} {op : D → D → Option D} {e1 e2 : Expr} {a b : FE} {pos} (hr : OpR X (binaryOp o) r) (ho : OpS (dc X ah) r op) (ha : PF X ah E e1 a) (hb : PF X ah E e2 b) : PF X ah E (.BinOp e1 o e2 pos) (cOp op a b) := by
  obtain ⟨t, p, r1⟩ := ha
  obtain ⟨u, q, r2⟩ := hb
  exact ⟨_, pe_op hr p q, re_op ho r1 r2⟩
theorem pf_cmp {o : CmpOp} {r : R2} {op : D → D → Option D} {e1 e2 : Expr} {a b : FE} {pos} (hr : OpR X (compareOp o) r) (ho : OpS (dc X ah) r op) (ha : PF X ah E e1 a) (hb : PF X ah E e2 b) (hm : behindInMarks o e2 = false) : PF X ah E (.Compare e1 [o] [e2] pos) (cOp op a b) := by
  obtain ⟨t, p, r1⟩ := ha
  obtain ⟨u, q, r2⟩ := hb
  exact ⟨_, pe_cmpR hr p q hm, re_op ho r1 r2⟩
theorem pf_ix {r : R2} {op : D → D → Option D} {e1 e2 : Expr} {a b : FE} {pos} (hr : IxR X r) (ho : OpS (dc X ah) r op) (ha : PF X ah E e1 a) (hb : PF X ah E e2 b) (hs : PlainIx e2) : PF X ah E (.Subscript e1 e2 pos) (cOp op a b) := by
  obtain ⟨t, p, r1⟩ := ha
  obtain ⟨u, q, r2⟩ := hb
  exact ⟨_, pe_ix hr p q hs, re_op ho r1 r2⟩

/-! ### tests -/
@[simp] def toB : D → Option Bool
  | .bl b => some b
  | _ => none
/-- an expression that is a flag, as a test -/
@[simp] def cT (a : FE) : FT := fun ρ g => (a ρ g).bd fun x g1 => lift (toB x) g1
theorem rt_of {c : DC} {t : TE} {a : FE} (ha : RE c E t a) : RT c E (tTest t) (cT a) := by
  refine RG.bind (r := fun σ x H1 (Q : Bool → Hp → Prop) => ∃ k, x = .bl k ∧ Q k H1) (k := fun ρ x g1 => lift (toB x) g1) ha fun F ρ g σ H S Q x d e R hx G => ?_
  cases hx <;> simp only [toB, lift] at G <;> first | exact G.elim | exact ⟨_, rfl, G.ret R rfl⟩
theorem pft_cmp {o : CmpOp} {r : R2} {op : D → D → Option D} {e1 e2 : Expr} {a b : FE} {pos} (hr : OpR X (compareOp o) r) (ho : OpS (dc X ah) r op) (ha : PF X ah E e1 a) (hb : PF X ah E e2 b) (hm : behindInMarks o e2 = false) : PFT X ah E (.Compare e1 [o] [e2] pos) (cT (cOp op a b)) := by
  obtain ⟨t, p, r1⟩ := ha
  obtain ⟨u, q, r2⟩ := hb
  exact ⟨_, pt_cmpR hr p q hm, rt_of (re_op ho r1 r2)⟩
theorem pft_val {e : Expr} {a : FE} (ha : PF X ah E e a) (he : ∀ whole, isTrue e X.env whole = (do let v ← whole; standAt e.pos; holding [v] (truthy v)) := by intro _; rfl) : PFT X ah E e (cT a) := by
  obtain ⟨t, p, r⟩ := ha
  exact ⟨_, pt_val p he, rt_of r⟩
@[simp] def cAnd (a b : FT) : FT := fun ρ g => (a ρ g).bd fun x g1 => if x = true then b ρ g1 else some (.ok false g1)
@[simp] def cOr (a b : FT) : FT := fun ρ g => (a ρ g).bd fun x g1 => if x = true then some (.ok true g1) else b ρ g1
@[simp] def cNot (a : FT) : FT := fun ρ g => (a ρ g).bd fun x g1 => some (.ok (!x) g1)
theorem pfw_and1 {e : Expr} {a : FT} {pos} (ha : PFT X ah E e a) : PFW X ah E (.BoolOp .And [e] pos) a := by
  obtain ⟨t, p, r⟩ := ha
  exact ⟨_, pw_and1 p, r⟩
theorem pfw_or1 {e : Expr} {a : FT} {pos} (ha : PFT X ah E e a) : PFW X ah E (.BoolOp .Or [e] pos) a := by
  obtain ⟨t, p, r⟩ := ha
  exact ⟨_, pw_or1 p, r⟩
theorem pfw_and {e b : Expr} {rest : List Expr} {f k : FT} {pos} (ha : PFT X ah E e f) (hb : PFW X ah E (.BoolOp .And (b :: rest) pos) k) : PFW X ah E (.BoolOp .And (e :: b :: rest) pos) (cAnd f k) := by
  obtain ⟨t, p, r⟩ := ha
  obtain ⟨u, q, s⟩ := hb
  refine ⟨_, pw_and p q, ?_⟩
  refine RG.bind (r := fun σ (x : Bool) H1 Q => if x = true then u σ H1 Q else Q false H1) (k := fun ρ (x : Bool) g1 => if x = true then k ρ g1 else some (.ok false g1)) r fun F ρ g σ H S Q x d e R hx G => ?_
  cases hx
  cases x with
  | true => exact s.run F ρ g σ H S Q e R G
  | false => exact G.ret R rfl
theorem pfw_or {e b : Expr} {rest : List Expr} {f k : FT} {pos} (ha : PFT X ah E e f) (hb : PFW X ah E (.BoolOp .Or (b :: rest) pos) k) : PFW X ah E (.BoolOp .Or (e :: b :: rest) pos) (cOr f k) := by
  obtain ⟨t, p, r⟩ := ha
  obtain ⟨u, q, s⟩ := hb
  refine ⟨_, pw_or p q, ?_⟩
  refine RG.bind (r := fun σ (x : Bool) H1 Q => if x = true then Q true H1 else u σ H1 Q) (k := fun ρ (x : Bool) g1 => if x = true then some (.ok true g1) else k ρ g1) r fun F ρ g σ H S Q x d e R hx G => ?_
  cases hx
  cases x with
  | true => exact G.ret R rfl
  | false => exact s.run F ρ g σ H S Q e R G
theorem pft_w {e : Expr} {f : FT} (h : PFW X ah E e f) : PFT X ah E e f := by
  obtain ⟨t, p, r⟩ := h
  exact ⟨_, p.pt, r⟩
theorem pft_not {e : Expr} {f : FT} {pos} (ha : PFT X ah E e f) : PFT X ah E (.UnaryOp .Not e pos) (cNot f) := by
  obtain ⟨t, p, r⟩ := ha
  refine ⟨_, pt_not p, ?_⟩
  refine RG.bind (r := fun σ x H1 (Q : Bool → Hp → Prop) => Q (!x) H1) (k := fun ρ x g1 => some (.ok (!x) g1)) r fun F ρ g σ H S Q x d e R hx G => ?_
  cases hx
  exact G.ret R rfl
/-! as values -/
@[simp] def cAndV (a b : FE) : FE := fun ρ g => (a ρ g).bd fun x g1 => match x with
  | .bl true => b ρ g1
  | .bl false => some (.ok (.bl false) g1)
  | _ => none
@[simp] def cOrV (a b : FE) : FE := fun ρ g => (a ρ g).bd fun x g1 => match x with
  | .bl false => b ρ g1
  | .bl true => some (.ok (.bl true) g1)
  | _ => none
@[simp] def nB : D → Option D
  | .bl b => some (.bl (!b))
  | _ => none
@[simp] def c1 (op : D → Option D) (a : FE) : FE := fun ρ g => (a ρ g).bd fun x g1 => lift (op x) g1
theorem pf_one {e : Expr} {op} {a : FE} {pos} (ha : PF X ah E e a) : PF X ah E (.BoolOp op [e] pos) a := by
  obtain ⟨t, p, r⟩ := ha
  exact ⟨_, pe_one p, r⟩
theorem pf_and {e b : Expr} {rest : List Expr} {f k : FE} {pos} (ha : PF X ah E e f) (hb : PF X ah E (.BoolOp .And (b :: rest) pos) k) : PF X ah E (.BoolOp .And (e :: b :: rest) pos) (cAndV f k) := by
  obtain ⟨t, p, r⟩ := ha
  obtain ⟨u, q, s⟩ := hb
  refine ⟨_, pe_and p q, ?_⟩
  refine RG.bind (r := fun σ x H1 (Q : VK) => ∃ c, x = .bl c ∧ if c = true then u σ H1 Q else Q (.bl false) H1) (k := fun ρ x g1 => match x with
  | .bl true => k ρ g1
  | .bl false => some (.ok (.bl false) g1)
  | _ => none) r fun F ρ g σ H S Q x d e R hx G => ?_
  cases hx <;> first | exact G.elim | skip
  rename_i b
  cases b with
  | true => exact ⟨true, rfl, s.run F ρ g σ H S Q e R G⟩
  | false => exact ⟨false, rfl, G.ret R (.bl false)⟩
theorem pf_or {e b : Expr} {rest : List Expr} {f k : FE} {pos} (ha : PF X ah E e f) (hb : PF X ah E (.BoolOp .Or (b :: rest) pos) k) : PF X ah E (.BoolOp .Or (e :: b :: rest) pos) (cOrV f k) := by
  obtain ⟨t, p, r⟩ := ha
  obtain ⟨u, q, s⟩ := hb
  refine ⟨_, pe_or p q, ?_⟩
  refine RG.bind (r := fun σ x H1 (Q : VK) => ∃ c, x = .bl c ∧ if c = true then Q (.bl true) H1 else u σ H1 Q) (k := fun ρ x g1 => match x with
  | .bl false => k ρ g1
  | .bl true => some (.ok (.bl true) g1)
  | _ => none) r fun F ρ g σ H S Q x d e R hx G => ?_
  cases hx <;> first | exact G.elim | skip
  rename_i b
  cases b with
  | false => exact ⟨false, rfl, s.run F ρ g σ H S Q e R G⟩
  | true => exact ⟨true, rfl, G.ret R (.bl true)⟩
theorem pf_not {e : Expr} {f : FE} {pos} (ha : PF X ah E e f) : PF X ah E (.UnaryOp .Not e pos) (c1 nB f) := by
  obtain ⟨t, p, r⟩ := ha
  refine ⟨_, pe_not p, ?_⟩
  refine RG.bind (r := fun σ x H1 (Q : VK) => ∃ c, x = .bl c ∧ Q (.bl (!c)) H1) (k := fun ρ x g1 => lift (nB x) g1) r fun F ρ g σ H S Q x d e R hx G => ?_
  cases hx <;> simp only [nB, lift] at G <;> first | exact G.elim | exact ⟨_, rfl, G.ret R (.bl _)⟩
@[simp] def cIfE (c : FT) (a b : FE) : FE := fun ρ g => (c ρ g).bd fun x g1 => if x = true then a ρ g1 else b ρ g1
theorem pf_ifE {c a b : Expr} {fc : FT} {fa fb : FE} {pos} (hc : PFT X ah E c fc) (ha : PF X ah E a fa) (hb : PF X ah E b fb) : PF X ah E (.IfExp c a b pos) (cIfE fc fa fb) := by
  obtain ⟨t, p, r⟩ := hc
  obtain ⟨u, q, s⟩ := ha
  obtain ⟨v, q', s'⟩ := hb
  refine ⟨_, pe_ifExp p q q', ?_⟩
  refine RG.bind (r := fun σ (x : Bool) H1 Q => if x = true then u σ H1 Q else v σ H1 Q) (k := fun ρ (x : Bool) g1 => if x = true then fa ρ g1 else fb ρ g1) r fun F ρ g σ H S Q x d e R hx G => ?_
  cases hx
  cases x with
  | true => exact s.run F ρ g σ H S Q e R G
  | false => exact s'.run F ρ g σ H S Q e R G

/-! ### statements -/
end
section
variable {X : Cx} {ah : Option Addr} {E : XK}
def GotS (F : Fx) (S : Hp) (E : XK) (Z : Ends) : M Fl → Prop
  | none => False
  | some (.ok (.nx ρ) g) => ∀ σ' H' S', Same S S' → Rep F ρ g σ' H' S' → Z.nx σ' H'
  | some (.ok (.bk ρ) g) => ∀ σ' H' S', Same S S' → Rep F ρ g σ' H' S' → Z.bk σ' H'
  | some (.ok (.ct ρ) g) => ∀ σ' H' S', Same S S' → Rep F ρ g σ' H' S' → Z.ct σ' H'
  | some (.ok (.rt d) g) => ∀ v H' S', Same S S' → Rep F [] g [] H' S' → Dn F.c S' v d → Z.rt v H'
  | some (.ex c ks ds g) => GotX F S E c ks ds g
theorem GotS.mono {F : Fx} {S S1 : Hp} {E : XK} {Z : Ends} {m : M Fl} (h : GotS F S E Z m) (sm : Same S S1) : GotS F S1 E Z m := by
  cases m with
  | none => exact h
  | some o => cases o with
    | ok a g => cases a with
      | nx ρ => exact fun b H' S' s R => h b H' S' (sm.trans s) R
      | bk ρ => exact fun b H' S' s R => h b H' S' (sm.trans s) R
      | ct ρ => exact fun b H' S' s R => h b H' S' (sm.trans s) R
      | rt d => exact fun b H' S' s R r => h b H' S' (sm.trans s) R r
    | ex c ks ds g => exact GotX.mono h sm
structure RS (c : DC) (E : XK) (t : TS) (f : FS) : Prop where
  run : ∀ (F : Fx) (ρ : List En) (g : Gh) (σ : St) (H S : Hp) (Z : Ends), F.c = c → Rep F ρ g σ H S → GotS F S E Z (f ρ g) → t Z σ H
def PFS (X : Cx) (ah : Option Addr) (E : XK) (s : Stmt) (f : FS) : Prop := ∃ t, PS X s t ∧ RS (dc X ah) E t f
def PFSs (X : Cx) (ah : Option Addr) (E : XK) (s : List Stmt) (f : FS) : Prop := ∃ t, PSs X s t ∧ RS (dc X ah) E t f
theorem RG.stepS {β α : Type} {rel : Rl β α} {c : DC} {E : XK} {t : TX β} {fa : List En → Gh → M α} (ha : RG rel c (fun _ => E) t fa) {F : Fx} {ρ : List En} {g : Gh} {σ : St} {H S : Hp} {Z : Ends} {k : α → Gh → M Fl} {r : β → Hp → Prop}
    (e : F.c = c) (R : Rep F ρ g σ H S) (G : GotS F S E Z ((fa ρ g).bd k)) (hk : ∀ H1 S1 g1 b a, Same S S1 → Rep F ρ g1 σ H1 S1 → rel c S1 b a → GotS F S1 E Z (k a g1) → r b H1) : t σ H r := by
  refine ha.run F ρ g σ H S _ e R ?_
  cases h : fa ρ g with
  | none => simp only [M.bd, h] at G; exact G
  | some o => cases o with
    | ok a g1 =>
      simp only [M.bd, h] at G
      exact fun b H1 S1 sm R1 rl => hk H1 S1 g1 b a sm R1 (e ▸ rl) (G.mono sm)
    | ex cc ks ds g1 => simp only [M.bd, h] at G; exact G
/-- an expression, then a statement's rest -/
theorem RS.bind {β α : Type} {rel : Rl β α} {c : DC} {ta : TX β} {fa : List En → Gh → M α} (ha : RG rel c (fun _ => E) ta fa) {r : Ends → St → β → Hp → Prop} {k : List En → α → Gh → M Fl}
    (hk : ∀ F ρ g σ H S Z b a, F.c = c → Rep F ρ g σ H S → rel c S b a → GotS F S E Z (k ρ a g) → r Z σ b H) : RS c E (fun Z σ H => ta σ H fun b H1 => r Z σ b H1) (fun ρ g => (fa ρ g).bd (k ρ)) := by
  refine ⟨fun F ρ g σ H S Z e R G => ha.run F ρ g σ H S _ e R ?_⟩
  cases h : fa ρ g with
  | none => simp only [M.bd, h] at G; exact G
  | some o => cases o with
    | ok a g1 =>
      simp only [M.bd, h] at G
      exact fun b H1 S1 sm R1 rl => hk F ρ g1 σ H1 S1 Z b a e R1 (e ▸ rl) (G.mono sm)
    | ex cc ks ds g1 => simp only [M.bd, h] at G; exact G
@[simp] def sNx : FS := fun ρ g => some (.ok (.nx ρ) g)
@[simp] def sBk : FS := fun ρ g => some (.ok (.bk ρ) g)
@[simp] def sCt : FS := fun ρ g => some (.ok (.ct ρ) g)
def sSeq (a b : FS) : FS := fun ρ g => match a ρ g with
  | none => none
  | some (.ok (.nx ρ1) g1) => b ρ1 g1
  | some (.ok (.bk ρ1) g1) => some (.ok (.bk ρ1) g1)
  | some (.ok (.ct ρ1) g1) => some (.ok (.ct ρ1) g1)
  | some (.ok (.rt d) g1) => some (.ok (.rt d) g1)
  | some (.ex c ks ds g1) => some (.ex c ks ds g1)
theorem rs_nx {c : DC} : RS c E tNext sNx := ⟨fun F ρ g σ H S Z e R G => G σ H S (Same.refl S) R⟩
theorem pfss_nil : PFSs X ah E [] sNx := ⟨_, pss_nil, rs_nx⟩
theorem rs_seq {c : DC} {t u : TS} {a b : FS} (ha : RS c E t a) (hb : RS c E u b) : RS c E (tSeq t u) (sSeq a b) := by
  refine ⟨fun F ρ g σ H S Z e R G => ha.run F ρ g σ H S _ e R ?_⟩
  unfold sSeq at G
  cases h : a ρ g with
  | none => rw [h] at G; exact G
  | some o => cases o with
    | ok f g1 => cases f with
      | nx ρ1 => rw [h] at G; exact fun σ' H' S' sm R' => hb.run F ρ1 g1 σ' H' S' Z e R' (G.mono sm)
      | bk ρ1 => rw [h] at G; exact G
      | ct ρ1 => rw [h] at G; exact G
      | rt d => rw [h] at G; exact G
    | ex cc ks ds g1 => rw [h] at G; exact G
theorem pfss_cons {s : Stmt} {rest : List Stmt} {a b : FS} (ha : PFS X ah E s a) (hb : PFSs X ah E rest b) : PFSs X ah E (s :: rest) (sSeq a b) := by
  obtain ⟨t, p, r⟩ := ha
  obtain ⟨u, q, s⟩ := hb
  exact ⟨_, pss_cons p q, rs_seq r s⟩
theorem pfss_one {s : Stmt} {a : FS} (ha : PFS X ah E s a) : PFSs X ah E [s] a := by
  obtain ⟨t, p, r⟩ := ha
  exact ⟨_, pss_one p, r⟩
theorem pfs_pass {pos} : PFS X ah E (.Pass pos) sNx := ⟨_, ps_pass, rs_nx⟩
theorem pfs_doc {x j pos pos'} : PFS X ah E (.Expr (.Constant (.str x) j pos) pos') sNx := ⟨_, ps_doc, rs_nx⟩
theorem pfs_break {pos} : PFS X ah E (.Break pos) sBk := ⟨_, ps_break, ⟨fun F ρ g σ H S Z e R G => G σ H S (Same.refl S) R⟩⟩
theorem pfs_continue {pos} : PFS X ah E (.Continue pos) sCt := ⟨_, ps_continue, ⟨fun F ρ g σ H S Z e R G => G σ H S (Same.refl S) R⟩⟩
@[simp] def sRet (a : FE) : FS := fun ρ g => (a ρ g).bd fun x g1 => some (.ok (.rt x) g1)
theorem pfs_ret {e : Expr} {a : FE} {pos} (ha : PF X ah (fun _ => E) e a) : PFS X ah E (.Return (some e) pos) (sRet a) := by
  obtain ⟨t, p, r⟩ := ha
  refine ⟨_, ps_ret p, ?_⟩
  exact RS.bind (r := fun Z σ x H1 => Z.rt x H1) (k := fun ρ x g1 => some (.ok (.rt x) g1)) r fun F ρ g σ H S Z x d e R hx G => G x H S (Same.refl S) R.bare (e ▸ hx)
@[simp] def sIf (c : FT) (a b : FS) : FS := fun ρ g => (c ρ g).bd fun x g1 => if x = true then a ρ g1 else b ρ g1
theorem pfs_if {c : Expr} {a b : List Stmt} {fc : FT} {fa fb : FS} {pos} (hc : PFT X ah (fun _ => E) c fc) (ha : PFSs X ah E a fa) (hb : PFSs X ah E b fb) : PFS X ah E (.If c a b pos) (sIf fc fa fb) := by
  obtain ⟨t, p, r⟩ := hc
  obtain ⟨u, q, s⟩ := ha
  obtain ⟨v, q', s'⟩ := hb
  refine ⟨_, ps_if p q q', ?_⟩
  refine RS.bind (r := fun Z σ x H1 => if x = true then u Z σ H1 else v Z σ H1) (k := fun ρ (x : Bool) g1 => if x = true then fa ρ g1 else fb ρ g1) r fun F ρ g σ H S Z x d e R hx G => ?_
  cases hx
  cases x with
  | true => exact s.run F ρ g σ H S Z e R G
  | false => exact s'.run F ρ g σ H S Z e R G
/-- an expression whose value is dropped -/
@[simp] def sDrop (a : FE) : FS := fun ρ g => (a ρ g).bd fun _ g1 => some (.ok (.nx ρ) g1)
theorem pfs_expr {e : Expr} {a : FE} {pos} (ha : PF X ah (fun _ => E) e a) (hs : swapsWith e none pos.line X.env = pure false := by rfl) : PFS X ah E (.Expr e pos) (sDrop a) := by
  obtain ⟨t, p, r⟩ := ha
  refine ⟨_, ps_expr p hs, ?_⟩
  exact RS.bind (r := fun Z σ x H1 => Z.nx σ H1) (k := fun ρ x g1 => some (.ok (.nx ρ) g1)) r fun F ρ g σ H S Z x d e R hx G => G σ H S (Same.refl S) R

/-! ### targets -/
abbrev FG := D → List En → Option (List En)
structure RTg (c : DC) (g : TG) (f : FG) : Prop where
  run : ∀ (F : Fx) (ρ : List En) (gh : Gh) (σ : St) (H S : Hp) (v : V) (d : D) (Q : St → Hp → Prop), F.c = c → Rep F ρ gh σ H S → Dn c S v d →
    (match f d ρ with | none => False | some ρ' => ∀ σ', Rep F ρ' gh σ' H S → Q σ' H) → g v σ H Q
structure RTgs (c : DC) (g : TGs) (f : List D → List En → Option (List En)) : Prop where
  run : ∀ (F : Fx) (ρ : List En) (gh : Gh) (σ : St) (H S : Hp) (vs : List V) (ds : List D) (Q : St → Hp → Prop), F.c = c → Rep F ρ gh σ H S → Dns c S vs ds →
    (match f ds ρ with | none => False | some ρ' => ∀ σ', Rep F ρ' gh σ' H S → Q σ' H) → g vs σ H Q
/-- a target touches these slots alone -/
def TGw (t : TG) (vs : List Nat) : Prop := ∀ x σ H Q, t x σ H Q → t x σ H fun σ2 H2 => Q σ2 H2 ∧ wipe σ2 vs = wipe σ vs
def TGsw (t : TGs) (vs : List Nat) : Prop := ∀ x σ H Q, t x σ H Q → t x σ H fun σ2 H2 => Q σ2 H2 ∧ wipe σ2 vs = wipe σ vs
structure TGm (t : TG) : Prop where
  mono : ∀ x σ H (Q Q' : St → Hp → Prop), (∀ σ2 H2, Q σ2 H2 → Q' σ2 H2) → t x σ H Q → t x σ H Q'
structure TGsm (t : TGs) : Prop where
  mono : ∀ x σ H (Q Q' : St → Hp → Prop), (∀ σ2 H2, Q σ2 H2 → Q' σ2 H2) → t x σ H Q → t x σ H Q'
def PFG (X : Cx) (ah : Option Addr) (e : Expr) (f : FG) (vs : List Nat) : Prop := ∃ t, PG X e t ∧ RTg (dc X ah) t f ∧ TGw t vs ∧ TGm t
def PFGs (X : Cx) (ah : Option Addr) (es : List Expr) (f : List D → List En → Option (List En)) (vs : List Nat) : Prop := ∃ t, PGs X es t ∧ RTgs (dc X ah) t f ∧ TGsw t vs ∧ TGsm t
theorem wipe_get (σ : St) (i : Nat) : ∀ vs : List Nat, (wipe σ vs)[i]? = if i ∈ vs then (if i < σ.length then some none else none) else σ[i]?
  | [] => by simp [wipe]
  | v :: vs => by
    unfold wipe
    rw [List.getElem?_set, wipe_length, wipe_get σ i vs]
    by_cases h : v = i
    · subst h; simp
    · have h' : ¬ i = v := fun e => h e.symm
      simp [h, h']
theorem wipe_set {σ : St} {i : Nat} {x : Option V} {vs : List Nat} (h : i ∈ vs) : wipe (σ.set i x) vs = wipe σ vs := by
  apply List.ext_getElem?
  intro j
  rw [wipe_get, wipe_get, List.length_set]
  split
  · rfl
  · rename_i hj
    rw [List.getElem?_set_ne (fun (e : i = j) => hj (e ▸ h))]
theorem wipe_more {σ τ : St} {vs ws : List Nat} (h : wipe σ vs = wipe τ vs) (hs : ∀ i ∈ vs, i ∈ ws) : wipe σ ws = wipe τ ws := by
  have hl : σ.length = τ.length := by have := congrArg List.length h; rwa [wipe_length, wipe_length] at this
  apply List.ext_getElem?
  intro j
  have := congrArg (fun l => l[j]?) h
  simp only [wipe_get] at this
  rw [wipe_get, wipe_get, hl]
  split
  · rfl
  · rename_i hj
    have hj' : j ∉ vs := fun e => hj (hs j e)
    rw [if_neg hj', if_neg hj'] at this
    exact this
@[simp] def gN (i : Nat) : FG := fun d ρ => some (ρ.set i (.dt d))
theorem rt_name {c : DC} (i : Nat) : RTg c (gName i) (gN i) := ⟨fun F ρ gh σ H S v d Q e R hv G => G _ (R.set i (e ▸ hv))⟩
theorem pfg_n (i : Nat) {x : Str} {pos : Pos} (hN : X.N.Nodup) (hi : X.N[i]? = some x := by rfl) (hx : Loc X.env.scope x := by first | exact Or.inl rfl | exact Or.inr rfl) (hf : X.fn x = true ∨ X.env.scope.names.lookup x = some .local := by first | exact .inl rfl | exact .inr rfl) : PFG X ah (.Name x pos) (gN i) [i] :=
  ⟨_, pg_name hN hi hx hf, rt_name i, fun x σ H Q h => ⟨h, wipe_set List.mem_cons_self⟩, ⟨fun x σ H Q Q' hq h => hq _ _ h⟩⟩
@[simp] def gsN : List D → List En → Option (List En) := fun ds ρ => match ds with
  | [] => some ρ
  | _ => none
@[simp] def gsC (a : FG) (b : List D → List En → Option (List En)) : List D → List En → Option (List En) := fun ds ρ => match ds with
  | [] => none
  | d :: r => (a d ρ).bind (b r)
theorem pfgs_nil : PFGs X ah [] gsN [] := by
  refine ⟨_, pgs_nil, ⟨fun F ρ gh σ H S vs ds Q e R hv G => ?_⟩, fun x σ H Q h => ⟨h.1, h.2, rfl⟩, ⟨fun x σ H Q Q' hq h => ⟨h.1, hq _ _ h.2⟩⟩⟩
  cases hv with
  | nil => exact ⟨rfl, G σ R⟩
  | cons _ _ => exact G.elim
theorem pfgs_cons {e : Expr} {es : List Expr} {a : FG} {b : List D → List En → Option (List En)} {va vb : List Nat} (ha : PFG X ah e a va) (hb : PFGs X ah es b vb) (hs : (assignEach (e :: es) X.env).map (·.2) = assign e X.env :: (assignEach es X.env).map (·.2) := by rfl) : PFGs X ah (e :: es) (gsC a b) (va ++ vb) := by
  obtain ⟨t, p, r, w, m⟩ := ha
  obtain ⟨u, q, s, w', m'⟩ := hb
  refine ⟨_, pgs_cons p q hs, ⟨fun F ρ gh σ H S vs ds Q e R hv G => ?_⟩, fun x σ H Q h => ?_, ⟨fun x σ H Q Q' hq h => ?_⟩⟩
  rotate_left
  · obtain ⟨v, rr, e1, h⟩ := h
    refine ⟨v, rr, e1, m.mono _ _ _ _ _ (fun σ1 H1 k => ?_) (w _ _ _ _ h)⟩
    obtain ⟨k1, k2⟩ := k
    refine m'.mono _ _ _ _ _ (fun σ2 H2 k3 => ⟨k3.1, ?_⟩) (w' _ _ _ _ k1)
    exact (wipe_more k3.2 fun i hi => List.mem_append_right _ hi).trans (wipe_more k2 fun i hi => List.mem_append_left _ hi)
  · obtain ⟨v, rr, e1, h⟩ := h
    exact ⟨v, rr, e1, m.mono _ _ _ _ _ (fun σ1 H1 k => m'.mono _ _ _ _ _ hq k) h⟩
  cases hv with
  | nil => exact G.elim
  | cons h hs =>
    rename_i v d vs ds
    refine ⟨v, vs, rfl, r.run F ρ gh σ H S v d _ e R h ?_⟩
    simp only [gsC] at G
    cases ea : a d ρ with
    | none => rw [ea] at G; exact G
    | some ρ1 =>
      rw [ea] at G
      exact fun σ1 R1 => s.run F ρ1 gh σ1 H S vs ds Q e R1 hs G
@[simp] def gT (n : Nat) (f : List D → List En → Option (List En)) : FG := fun d ρ => match d with
  | .tup ds => if ds.length = n then f ds ρ else none
  | _ => none
theorem pfg_tup {es : List Expr} {k : Nat} {n : Nat} {f : List D → List En → Option (List En)} {pos} {vs : List Nat} (hc : X.calm = true) (h : PFGs X ah es f vs)
    (hn : (assignEach es X.env).length = n := by rfl) (hst : (assignEach es X.env).findIdx? (·.1) = none := by rfl) : PFG X ah (.Tuple es k pos) (gT n f) vs := by
  obtain ⟨t, p, r, w, m⟩ := h
  refine ⟨_, pg_tup hc p hn hst, ⟨fun F ρ gh σ H S v d Q e R hv G => ?_⟩, fun x σ H Q h => ?_, ⟨fun x σ H Q Q' hq h => ?_⟩⟩
  rotate_left
  · obtain ⟨a, xs, e1, h1, h2, h3⟩ := h
    exact ⟨a, xs, e1, h1, h2, w _ _ _ _ h3⟩
  · obtain ⟨a, xs, e1, h1, h2, h3⟩ := h
    exact ⟨a, xs, e1, h1, h2, m.mono _ _ _ _ _ hq h3⟩
  cases hv with
  | tup hs hd =>
    rename_i a vs ds
    simp only [gT] at G
    split at G
    · exact G.elim
    · rename_i ρ' hl
      split at hl
      · rename_i hl'
        refine ⟨a, vs, rfl, Same.tup R.sub hs, by rw [hd.length]; exact hl', r.run F ρ gh σ H S vs ds Q e R hd ?_⟩
        rw [hl]; exact G
      · cases hl
  | _ => exact G.elim
@[simp] def sAsg (a : FE) (f : FG) : FS := fun ρ g => (a ρ g).bd fun x g1 => match f x ρ with
  | none => none
  | some ρ' => some (.ok (.nx ρ') g1)
theorem rs_asg {c : DC} {te : TE} {a : FE} {tg : TG} {f : FG} (ha : RE c (fun _ => E) te a) (hg : RTg c tg f) : RS c E (tAsg te tg) (sAsg a f) := by
  refine RS.bind (r := fun Z σ x H1 => tg x σ H1 Z.nx) (k := fun ρ x g1 => match f x ρ with | none => none | some ρ' => some (.ok (.nx ρ') g1)) ha fun F ρ g σ H S Z x d e R hx G => ?_
  refine hg.run F ρ g σ H S x d _ e R hx ?_
  cases h : f d ρ with
  | none => simp only [h] at G; exact G
  | some ρ' => simp only [h] at G; exact fun σ' R' => G σ' H S (Same.refl S) R'
theorem pfs_asg {tg e : Expr} {a : FE} {f : FG} {pos} {vs : List Nat} (ha : PF X ah (fun _ => E) e a) (hg : PFG X ah tg f vs) (hs : swapsWithSole [tg] e pos.line X.env = pure false := by rfl) (hw : swappedStores [tg] e X.env = pure none := by rfl)
    (h1 : (assignEach [tg] X.env).map (·.2) = [assign tg X.env] := by rfl) : PFS X ah E (.Assign [tg] e pos) (sAsg a f) := by
  obtain ⟨t, p, r⟩ := ha
  obtain ⟨u, q, s, _⟩ := hg
  exact ⟨_, ps_asg p q hs hw h1, rs_asg r s⟩
theorem pfs_set (i : Nat) {x : Str} {e : Expr} {a : FE} {pos' pos : Pos} (hN : X.N.Nodup) (ha : PF X ah (fun _ => E) e a) (hi : X.N[i]? = some x := by rfl) (hx : Loc X.env.scope x := by first | exact Or.inl rfl | exact Or.inr rfl) (hs : swapsWith e (some (.Name x pos')) pos.line X.env = pure false := by rfl)
    (hf : X.fn x = true ∨ X.env.scope.names.lookup x = some .local := by first | exact .inl rfl | exact .inr rfl) : PFS X ah E (.Assign [.Name x pos'] e pos) (sAsg a (gN i)) := by
  obtain ⟨t, p, r⟩ := ha
  exact ⟨_, ps_set hN hi hx p hs hf, rs_asg r (rt_name i)⟩
end
end FD
set_option Elab.async false
set_option linter.all false
set_option maxRecDepth 100000
set_option maxHeartbeats 2000000
namespace FD
open PySem L2

/-! ### data without things of the package -/
mutual
def D.py : D → Option PyData
  | .non => some .none
  | .bl b => some (.bool b)
  | .int i => some (.int i)
  | .str x => some (.str x)
  | .tup xs => (D.pys xs).map .tuple
  | .lst xs => (D.pys xs).map .list
  | _ => none
def D.pys : List D → Option (List PyData)
  | [] => some []
  | d :: ds => match D.py d, D.pys ds with
    | some p, some ps => some (p :: ps)
    | _, _ => none
end
mutual
theorem Dn.py {c : DC} {S : Hp} : ∀ {v : V} {d : D} {p : PyData}, Dn c S v d → d.py = some p → Dp c.K S v p
  | _, _, _, .non, e => by simp [D.py] at e; subst e; exact .non
  | _, _, _, .bl b, e => by simp [D.py] at e; subst e; exact .bl b
  | _, _, _, .int b, e => by simp [D.py] at e; subst e; exact .int b
  | _, _, _, .str b, e => by simp [D.py] at e; subst e; exact .str b
  | _, _, _, .tup h hs, e => by
    simp only [D.py, Option.map_eq_some_iff] at e
    obtain ⟨ps, e1, rfl⟩ := e
    exact .tup h (Dns.pys hs e1)
  | _, _, _, .lst h hs, e => by
    simp only [D.py, Option.map_eq_some_iff] at e
    obtain ⟨ps, e1, rfl⟩ := e
    exact .lst (SqL.of h) (Dns.pys hs e1)
  | _, _, _, .emp _, e => by simp [D.py] at e
  | _, _, _, .obj _ _ _ _, e => by simp [D.py] at e
  | _, _, _, .hnd _, e => by simp [D.py] at e
theorem Dns.pys {c : DC} {S : Hp} : ∀ {vs : List V} {ds : List D} {ps : List PyData}, Dns c S vs ds → D.pys ds = some ps → DpAll c.K S vs ps
  | _, _, _, .nil, e => by simp [D.pys] at e; subst e; exact .nil
  | _, _, _, .cons h hs, e => by
    simp only [D.pys] at e
    split at e
    · rename_i p ps e1 e2
      cases e
      exact .cons (Dn.py h e1) (Dns.pys hs e2)
    · cases e
end
def toV : D → V
  | .non => .non
  | .bl b => .bl b
  | .int i => .int i
  | .str x => .str x
  | _ => .ref 0
def flatD : D → Bool
  | .non => true
  | .bl _ => true
  | .int _ => true
  | .str _ => true
  | _ => false
theorem Dn.flat {c : DC} {S : Hp} {v : V} {d : D} (h : Dn c S v d) (f : flatD d = true) : v = toV d ∧ flatV v = true := by
  cases h <;> first | exact ⟨rfl, rfl⟩ | simp [flatD] at f
theorem Dns.flat {c : DC} {S : Hp} : ∀ {vs : List V} {ds : List D}, Dns c S vs ds → ds.all flatD = true → vs = ds.map toV ∧ vs.all flatV = true
  | _, _, .nil, _ => ⟨rfl, rfl⟩
  | _, _, .cons h hs, f => by
    simp only [List.all_cons, Bool.and_eq_true] at f
    obtain ⟨e1, e2⟩ := Dn.flat h f.1
    obtain ⟨e3, e4⟩ := Dns.flat hs f.2
    exact ⟨by rw [e1, e3]; rfl, by simp [e2, e4]⟩

section
variable {c : DC}
/-! ### the operators -/
def R2.or (r r' : R2) : R2 := fun x y H Q => r x y H Q ∨ r' x y H Q
theorem OpR.or {X : Cx} {f : Value → Value → Sem Value} {r r' : R2} (h : OpR X f r) (h' : OpR X f r') : OpR X f (R2.or r r') := by
  intro pins s σ H x y v u Q I rx ry q
  rcases q with q | q
  · exact h pins s σ H x y v u Q I rx ry q
  · exact h' pins s σ H x y v u Q I rx ry q
def addD : D → D → Option D
  | .int i, .int j => some (.int (i + j))
  | .tup xs, .tup ys => if xs.length + ys.length ≤ 1000 then some (.tup (xs ++ ys)) else none
  | .lst xs, .lst ys => if xs.length + ys.length ≤ 1000 then some (.lst (xs ++ ys)) else none
  | _, _ => none
abbrev rAddD (K : PySem.W.Frag) : R2 := R2.or (rI0 fun i j => .int (i + j)) (R2.or (rCatA K) rCat)
theorem op_addD {X : Cx} : OpR X (binaryOp .Add) (rAddD X.K) := OpR.or op_add (OpR.or op_catA op_cat)
theorem os_add : OpS c (rAddD c.K) addD := by
  intro E F ρ g σ H S Q x y dx dy e R hx hy G
  subst e
  cases hx with
  | int i => cases hy <;> simp only [addD, lift] at G <;> first | exact G.elim | exact .inl ⟨_, _, rfl, rfl, G.ret R (.int _)⟩
  | tup h hs =>
    cases hy <;> simp only [addD, lift] at G <;> try exact G.elim
    rename_i a vs ds b ws es k ks
    by_cases hl : ds.length + es.length ≤ 1000
    · rw [if_pos hl] at G
      have l1 := hs.length
      have l2 := ks.length
      refine .inr (.inl ⟨a, b, vs, ws, rfl, rfl, Same.tup R.sub h, Same.tup R.sub k, line_of (by omega), fun z => ?_, fun _ z => ?_, fun _ _ p hp => ?_⟩)
      · subst z
        have : ds = [] := by cases hs; rfl
        subst this
        exact G.ret R (.tup k ks)
      · subst z
        have : es = [] := by cases ks; rfl
        subst this
        rw [List.append_nil] at G
        exact G.ret R (.tup h hs)
      · exact G.new R hp (.tup (SqT.of upd_same) ((hs.append ks).mono (R.tosame _ hp)))
    · rw [if_neg hl] at G; exact G.elim
  | lst h hs =>
    cases hy <;> simp only [addD, lift] at G <;> try exact G.elim
    rename_i a vs ds b ws es k ks
    by_cases hl : ds.length + es.length ≤ 1000
    · rw [if_pos hl] at G
      have l1 := hs.length
      have l2 := ks.length
      exact .inr (.inr ⟨a, b, vs, ws, rfl, rfl, R.sub _ _ h, R.sub _ _ k, line_of (by omega), fun p hp => G.new R hp (.lst upd_same ((hs.append ks).mono (R.tosame _ hp)))⟩)
    · rw [if_neg hl] at G; exact G.elim
  | _ => simp only [addD, lift] at G; exact G.elim
/-- two ints -/
def intD (f : Int → Int → Option D) : D → D → Option D
  | .int i, .int j => f i j
  | _, _ => none
theorem os_int {r : R2} {f : Int → Int → Option D} (h : ∀ i j d, f i j = some d → ∃ v, (∀ S, Dn c S v d) ∧ ∀ H (Q : VK), Q v H → r (.int i) (.int j) H Q) : OpS c r (intD f) := by
  intro E F ρ g σ H S Q x y dx dy e R hx hy G
  subst e
  cases hx with
  | int i =>
    cases hy <;> simp only [intD, lift] at G <;> try exact G.elim
    rename_i j
    cases q : f i j with
    | none => rw [q] at G; exact G.elim
    | some d =>
      rw [q] at G
      obtain ⟨v, hv, hr⟩ := h i j d q
      exact hr H Q (G.ret R (hv S))
  | _ => simp only [intD, lift] at G; exact G.elim
def subD : D → D → Option D := intD fun i j => some (.int (i - j))
theorem os_sub : OpS c (rI0 fun i j => .int (i - j)) subD := os_int fun i j d e => by cases e; exact ⟨_, fun S => .int _, fun H Q q => ⟨i, j, rfl, rfl, q⟩⟩
abbrev small64 (i : Int) : Prop := -(2 ^ 64) < i ∧ i < 2 ^ 64
def mulD : D → D → Option D
  | .int i, .int j => if small64 i ∨ small64 j then some (.int (i * j)) else none
  | .tup xs, .int k => if xs ≠ [] ∧ 2 ≤ k ∧ k ≤ 1000 ∧ xs.length ≤ 1000 ∧ xs.length * k.toNat ≤ 1000 then some (.tup (List.replicate k.toNat xs).flatten) else none
  | .lst xs, .int k => if -(2 ^ 63) ≤ k ∧ k < 2 ^ 63 ∧ xs.length * k.toNat ≤ 1000 then some (.lst (List.replicate k.toNat xs).flatten) else none
  | _, _ => none
def modD : D → D → Option D := intD fun i j => if j ≠ 0 then some (.int (i.fmod j)) else none
def divD : D → D → Option D := intD fun i j => if j ≠ 0 ∧ j.natAbs < 1073741824 then some (.int (i.fdiv j)) else none
def powD : D → D → Option D := intD fun i j => if 0 ≤ j ∧ j ≤ 1000000 ∧ i.natAbs < 2 ^ 64 then some (.int (i ^ j.toNat)) else none
theorem os_mod : OpS c (rI (fun i j => j ≠ 0) fun i j => .int (i.fmod j)) modD := os_int fun i j d e => by
  split at e
  · rename_i h; cases e; exact ⟨_, fun S => .int _, fun H Q q => ⟨i, j, rfl, rfl, h, q⟩⟩
  · cases e
theorem os_div : OpS c (rI CDivN fun i j => .int (i.fdiv j)) divD := os_int fun i j d e => by
  split at e
  · rename_i h; cases e; exact ⟨_, fun S => .int _, fun H Q q => ⟨i, j, rfl, rfl, h, q⟩⟩
  · cases e
theorem os_pow : OpS c (rI CPow fun i j => .int (i ^ j.toNat)) powD := os_int fun i j d e => by
  split at e
  · rename_i h; cases e; exact ⟨_, fun S => .int _, fun H Q q => ⟨i, j, rfl, rfl, h, q⟩⟩
  · cases e
def ltD : D → D → Option D := intD fun i j => some (.bl (decide (i < j)))
def leD : D → D → Option D := intD fun i j => some (.bl (decide (i ≤ j)))
def gtD : D → D → Option D := intD fun i j => some (.bl (decide (j < i)))
def geD : D → D → Option D := intD fun i j => some (.bl (decide (j ≤ i)))
theorem os_lt : OpS c (rI0 fun i j => .bl (decide (i < j))) ltD := os_int fun i j d e => by cases e; exact ⟨_, fun S => .bl _, fun H Q q => ⟨i, j, rfl, rfl, q⟩⟩
theorem os_le : OpS c (rI0 fun i j => .bl (decide (i ≤ j))) leD := os_int fun i j d e => by cases e; exact ⟨_, fun S => .bl _, fun H Q q => ⟨i, j, rfl, rfl, q⟩⟩
theorem os_gt : OpS c (rI0 fun i j => .bl (decide (j < i))) gtD := os_int fun i j d e => by cases e; exact ⟨_, fun S => .bl _, fun H Q q => ⟨i, j, rfl, rfl, q⟩⟩
theorem os_ge : OpS c (rI0 fun i j => .bl (decide (j ≤ i))) geD := os_int fun i j d e => by cases e; exact ⟨_, fun S => .bl _, fun H Q q => ⟨i, j, rfl, rfl, q⟩⟩
/-- == of data -/
def eqB (a b : D) : Option Bool := match a.py, b.py with
  | some p, some q => if SeqAt.shaped p = true ∧ SeqAt.shaped q = true then some (PyData.eqv p q) else none
  | _, _ => none
def eqD (a b : D) : Option D := (eqB a b).map .bl
def neD (a b : D) : Option D := (eqB a b).map fun k => .bl (!k)
theorem eqB_some {a b : D} {k : Bool} (h : eqB a b = some k) : ∃ p q, a.py = some p ∧ b.py = some q ∧ SeqAt.shaped p = true ∧ SeqAt.shaped q = true ∧ k = PyData.eqv p q := by
  unfold eqB at h
  split at h
  · rename_i p q e1 e2
    split at h
    · rename_i hs; cases h; exact ⟨p, q, e1, e2, hs.1, hs.2, rfl⟩
    · cases h
  · cases h
theorem Dp.mono {K : PySem.W.Frag} {S H : Hp} (sm : Same S H) : ∀ {v : V} {p : PyData}, Dp K S v p → Dp K H v p := by
  intro v p h
  induction h using Dp.rec (motive_2 := fun vs ps _ => DpAll K H vs ps) with
  | non => exact .non
  | bl b => exact .bl b
  | int i => exact .int i
  | str x => exact .str x
  | lst h _ ih => exact .lst (sm.seq h) ih
  | tup h _ ih => exact .tup (Same.tup sm h) ih
  | nil => exact .nil
  | cons _ _ ih1 ih2 => exact .cons ih1 ih2
theorem os_eq : OpS c (rEqD c.K) eqD := by
  intro E F ρ g σ H S Q x y dx dy e R hx hy G
  subst e
  cases h : eqB dx dy with
  | none => simp only [eqD, h, Option.map_none, lift] at G; exact G.elim
  | some k =>
    simp only [eqD, h, Option.map_some, lift] at G
    obtain ⟨p, q, e1, e2, s1, s2, rfl⟩ := eqB_some h
    exact ⟨p, q, Dp.mono R.sub (hx.py e1), Dp.mono R.sub (hy.py e2), s1, s2, G.ret R (.bl _)⟩
theorem os_ne : OpS c (rNeD c.K) neD := by
  intro E F ρ g σ H S Q x y dx dy e R hx hy G
  subst e
  cases h : eqB dx dy with
  | none => simp only [neD, h, Option.map_none, lift] at G; exact G.elim
  | some k =>
    simp only [neD, h, Option.map_some, lift] at G
    obtain ⟨p, q, e1, e2, s1, s2, rfl⟩ := eqB_some h
    exact ⟨p, q, Dp.mono R.sub (hx.py e1), Dp.mono R.sub (hy.py e2), s1, s2, G.ret R (.bl _)⟩
/-! is None, is True, is False -/
def isNonB : D → Bool
  | .non => true
  | _ => false
def isND : D → D → Option D
  | d, .non => some (.bl (isNonB d))
  | _, _ => none
def notND : D → D → Option D
  | d, .non => some (.bl (!isNonB d))
  | _, _ => none
theorem Dn.non_iff {S : Hp} {v : V} {d : D} (h : Dn c S v d) : decide (v = .non) = isNonB d := by cases h <;> simp [isNonB]
theorem os_isN : OpS c (fun x y H Q => y = .non ∧ Q (.bl (decide (x = .non))) H) isND := by
  intro E F ρ g σ H S Q x y dx dy e R hx hy G
  cases hy <;> simp only [isND, lift] at G <;> first | exact G.elim | skip
  exact ⟨rfl, by rw [hx.non_iff]; exact G.ret R (.bl _)⟩
theorem os_notN : OpS c (fun x y H Q => y = .non ∧ Q (.bl (!decide (x = .non))) H) notND := by
  intro E F ρ g σ H S Q x y dx dy e R hx hy G
  cases hy <;> simp only [notND, lift] at G <;> first | exact G.elim | skip
  exact ⟨rfl, by rw [hx.non_iff]; exact G.ret R (.bl _)⟩
/-! in, not in -/
def inB (x y : D) : Option Bool := match y with
  | .tup ys => if flatD x = true ∧ ys.all flatD = true then some (inV (toV x) (ys.map toV)) else none
  | .lst ys => if flatD x = true ∧ ys.all flatD = true then some (inV (toV x) (ys.map toV)) else none
  | _ => none
def inD (x y : D) : Option D := (inB x y).map .bl
def notInD (x y : D) : Option D := (inB x y).map fun k => .bl (!k)
theorem inB_some {F : Fx} {ρ g σ H S} {x y : V} {dx dy : D} {k : Bool} (R : Rep F ρ g σ H S) (hx : Dn F.c S x dx) (hy : Dn F.c S y dy) (h : inB dx dy = some k) :
    ∃ p xs, y = .ref p ∧ (SqL F.c.K H p xs ∨ SqT F.c.K H p xs) ∧ flatV x = true ∧ xs.all flatV = true ∧ k = inV x xs := by
  cases hy with
  | tup ht hs =>
    simp only [inB] at h
    split at h
    · rename_i hf
      cases h
      obtain ⟨e1, e2⟩ := hx.flat hf.1
      obtain ⟨e3, e4⟩ := hs.flat hf.2
      exact ⟨_, _, rfl, .inr (Same.tup R.sub ht), e2, e4, by rw [e1, e3]⟩
    · cases h
  | lst ht hs =>
    simp only [inB] at h
    split at h
    · rename_i hf
      cases h
      obtain ⟨e1, e2⟩ := hx.flat hf.1
      obtain ⟨e3, e4⟩ := hs.flat hf.2
      exact ⟨_, _, rfl, .inl (SqL.of (R.sub _ _ ht)), e2, e4, by rw [e1, e3]⟩
    · cases h
  | _ => simp [inB] at h
theorem os_in : OpS c (rIn c.K false) inD := by
  intro E F ρ g σ H S Q x y dx dy e R hx hy G
  subst e
  cases h : inB dx dy with
  | none => simp only [inD, h, Option.map_none, lift] at G; exact G.elim
  | some k =>
    simp only [inD, h, Option.map_some, lift] at G
    obtain ⟨p, xs, rfl, e1, e2, e3, rfl⟩ := inB_some R hx hy h
    exact ⟨p, xs, rfl, e1, e2, e3, G.ret R (.bl _)⟩
theorem os_notIn : OpS c (rIn c.K true) notInD := by
  intro E F ρ g σ H S Q x y dx dy e R hx hy G
  subst e
  cases h : inB dx dy with
  | none => simp only [notInD, h, Option.map_none, lift] at G; exact G.elim
  | some k =>
    simp only [notInD, h, Option.map_some, lift] at G
    obtain ⟨p, xs, rfl, e1, e2, e3, rfl⟩ := inB_some R hx hy h
    exact ⟨p, xs, rfl, e1, e2, e3, G.ret R (.bl _)⟩
/-! subscripts -/
theorem atI_map {vs : List V} {ds : List D} {S : Hp} (h : Dns c S vs ds) {i : Int} {d : D} (e : atI ds i = some d) : ∃ v, atI vs i = some v ∧ Dn c S v d := by
  unfold atI at e ⊢
  rw [h.length]
  cases q : ixN ds.length i with
  | none => rw [q] at e; cases e
  | some j =>
    rw [q] at e
    exact h.get e
def ixD : D → D → Option D
  | .tup xs, .int i => atI xs i
  | .lst xs, .int i => atI xs i
  | _, _ => none
abbrev rIxD (K : PySem.W.Frag) : R2 := fun x y H Q => rIxL K x y H Q ∨ rIxT K x y H Q
theorem ix_D {X : Cx} : IxR X (rIxD X.K) := ix_list.or ix_tup
theorem os_ix : OpS c (rIxD c.K) ixD := by
  intro E F ρ g σ H S Q x y dx dy e R hx hy G
  subst e
  cases hy with
  | int i =>
    cases hx <;> simp only [ixD, lift] at G <;> try exact G.elim
    · rename_i a vs ds h hs
      cases q : atI ds i with
      | none => rw [q] at G; exact G.elim
      | some d =>
        rw [q] at G
        obtain ⟨v, h1, h2⟩ := atI_map hs q
        exact .inr ⟨a, vs, i, v, rfl, rfl, Same.tup R.sub h, h1, G.ret R h2⟩
    · rename_i a vs ds h hs
      cases q : atI ds i with
      | none => rw [q] at G; exact G.elim
      | some d =>
        rw [q] at G
        obtain ⟨v, h1, h2⟩ := atI_map hs q
        exact .inl ⟨a, vs, i, v, rfl, rfl, SqL.of (R.sub _ _ h), h1, G.ret R h2⟩
  | _ => cases dx <;> simp only [ixD, lift] at G <;> exact G.elim
end

/-! ### slices -/
section
variable {X : Cx} {ah : Option Addr} {E : St → XK} {c : DC}
abbrev FO := List En → Gh → M (Option Int)
abbrev rO : Rl (Option Int) (Option Int) := fun _ _ b a => b = a
def PFO (X : Cx) (ah : Option Addr) (E : St → XK) (e : Option Expr) (f : FO) : Prop := ∃ t, PO X e t ∧ @RG (Option Int) (Option Int) rO (dc X ah) E t f
@[simp] def oN : FO := fun _ g => some (.ok none g)
@[simp] def toI : D → Option Int
  | .int i => some i
  | _ => none
@[simp] def oS (a : FE) : FO := fun ρ g => (a ρ g).bd fun x g1 => match toI x with
  | some i => some (.ok (some i) g1)
  | none => none
theorem pfo_none : PFO X ah E none oN := ⟨_, po_none, ⟨fun F ρ g σ H S Q e R G => G.ret (b := none) R rfl⟩⟩
theorem pfo_some {e : Expr} {a : FE} (ha : PF X ah E e a) : PFO X ah E (some e) (oS a) := by
  obtain ⟨t, p, r⟩ := ha
  refine ⟨_, po_some p, ?_⟩
  refine RG.bind (r := fun σ x H1 (Q : Option Int → Hp → Prop) => ∃ i, x = .int i ∧ Q (some i) H1) (k := fun ρ x g1 => match toI x with
  | some i => some (.ok (some i) g1)
  | none => none) r fun F ρ g σ H S Q x d e R hx G => ?_
  cases hx <;> simp only [toI] at G <;> first | exact G.elim | exact ⟨_, rfl, G.ret R rfl⟩
def cutD (xs : List D) (lo hi : Option Int) : List D := (xs.drop (HT.sIx xs.length 0 lo)).take (HT.sIx xs.length xs.length hi - HT.sIx xs.length 0 lo)
theorem Dns.cut {S : Hp} {vs : List V} {ds : List D} (h : Dns c S vs ds) (lo hi : Option Int) : Dns c S (cutV vs lo hi) (cutD ds lo hi) := by
  unfold cutV cutD
  rw [h.length]
  exact (h.drop _).take _
def slD (x : D) (lo hi : Option Int) : Option D := match x with
  | .tup xs => some (.tup (cutD xs lo hi))
  | .lst xs => some (.lst (cutD xs lo hi))
  | _ => none
@[simp] def cSl (a : FE) (lo hi : FO) : FE := fun ρ g => (a ρ g).bd fun x g1 => (lo ρ g1).bd fun l g2 => (hi ρ g2).bd fun h g3 => lift (slD x l h) g3
theorem cutD_whole {xs : List D} {lo hi : Option Int} (h : HT.sIx xs.length 0 lo = 0 ∧ HT.sIx xs.length xs.length hi = xs.length) : cutD xs lo hi = xs := by
  unfold cutD
  rw [h.1, h.2]
  simp
theorem pf_sl {e : Expr} {lo hi : Option Expr} {a : FE} {l h : FO} {p2 pos : Pos} (ha : PF X ah E e a) (hl : PFO X ah E lo l) (hh : PFO X ah E hi h) : PF X ah E (.Subscript e (.Slice lo hi none p2) pos) (cSl a l h) := by
  obtain ⟨t, p, r⟩ := ha
  obtain ⟨tl, q, r2⟩ := hl
  obtain ⟨th, q', r3⟩ := hh
  refine ⟨_, pe_slice (SlR.or sl_tupA sl_list) p q q', ?_⟩
  refine RG.bind (r := fun σ x H1 (Q : VK) => tl σ H1 fun l' H2 => th σ H2 fun u H3 => (rSlA X.K x l' u H3 Q ∨ rSlL X.K x l' u H3 Q)) (k := fun ρ x g1 => (l ρ g1).bd fun l g2 => (h ρ g2).bd fun h g3 => lift (slD x l h) g3) r fun F ρ g σ H S Q x d e R hx G => ?_
  refine r2.step e R G fun H1 S1 g1 lo' l' sm R1 hlo G => ?_
  cases hlo
  refine r3.step e R1 G fun H2 S2 g2 hi' h' sm2 R2 hhi G => ?_
  cases hhi
  have hx := hx.mono (sm.trans sm2)
  have eK : F.c.K = X.K := by rw [e]
  cases hx with
  | tup h1 hs =>
    simp only [slD, lift] at G
    refine .inl ⟨_, _, rfl, Same.tup R2.sub h1, fun z => ?_, fun _ p hp => ?_⟩
    · rw [hs.length] at z
      rw [cutD_whole z] at G
      exact G.ret R2 (e ▸ .tup h1 hs)
    · exact G.new R2 hp (e ▸ .tup (SqT.of upd_same) ((hs.cut _ _).mono (R2.tosame _ hp)))
  | lst h1 hs =>
    simp only [slD, lift] at G
    exact .inr ⟨_, _, rfl, SqL.of (R2.sub _ _ h1), fun p hp => G.new R2 hp (e ▸ .lst upd_same ((hs.cut _ _).mono (R2.tosame _ hp)))⟩
  | _ => simp only [slD, lift] at G; exact G.elim
end
end FD
set_option Elab.async false
set_option linter.all false
set_option maxRecDepth 100000
set_option maxHeartbeats 2000000
namespace FD
open PySem L2

/-! ### what is walked -/
structure WalkOf (c : DC) (J : It) (ds : List D) (S : Hp) : Prop where
  stop : ∀ F ρ g σ H S1, F.c = c → Same S S1 → Rep F ρ g σ H S1 → J.stop ds.length H
  go : ∀ F ρ g σ H S1 i d, F.c = c → Same S S1 → Rep F ρ g σ H S1 → ds[i]? = some d → J.go i H ∧ ∀ x H', J.yld i H x H' → ∃ S', Same S1 S' ∧ Rep F ρ g σ H' S' ∧ Dn c S' x d
abbrev rI : Rl It (List D) := fun c S J ds => WalkOf c J ds S
abbrev FI := List En → Gh → M (List D)
section
variable {X : Cx} {ah : Option Addr} {E : St → XK} {c : DC}
def PFI (X : Cx) (ah : Option Addr) (E : St → XK) (tg iter : Expr) (f : FI) : Prop := ∃ wi, PI X tg iter wi ∧ @RG It (List D) rI (dc X ah) E wi f

def iSeq (K : PySem.W.Frag) (tl : TE) : TI := fun σ H R => tl σ H fun x H1 => ∃ a, x = .ref a ∧ (((∃ xs, SqL K H1 a xs) ∧ R (Itl K a) H1) ∨ ((∃ xs, SqT K H1 a xs) ∧ R (Itt K a) H1))
theorem pi_seq {tg l : Expr} {tl : TE} (hl : PE X l tl) : PI X tg l (iSeq X.K tl) := by
  refine ⟨fun pins s σ H R I h => ?_⟩
  refine thn (hl.run pins s σ H _ I h) fun v s1 ⟨x, H1, I1, r1, q1⟩ => ?_
  obtain ⟨a, e, q⟩ := q1
  subst e
  cases r1
  rcases q with ⟨⟨xs, hq⟩, q⟩ | ⟨⟨xs, hq⟩, q⟩
  · obtain ⟨its, rv, p, hz⟩ := I1.list hq
    refine wpAny_pyIter_list p.isList ?_
    refine ⟨s1.heap.objs.size, [s1.heap.objs.size], _, _, H1, rfl, I1.kept (t' := s1.toks) fun b o e => Heap.get?_push_of_some _ e, turn_list a _, ⟨_, Heap.get?_push_size _ rfl, rfl, rfl⟩, fun b hb => ?_, q⟩
    have e : b = s1.heap.objs.size := by simpa using hb
    subst e
    exact I1.fpOk (Nat.le_refl _) (I1.hok.fresh (Nat.le_refl _))
  · obtain ⟨its, rv, p, hz⟩ := I1.tuple hq
    refine wpAny_pyIter_tuple (show s1.heap.IsTuple a its.toArray from p) ?_
    refine ⟨s1.heap.objs.size, [s1.heap.objs.size], _, _, H1, rfl, I1.kept (t' := s1.toks) fun b o e => Heap.get?_push_of_some _ e, turn_tuple a _, ⟨_, Heap.get?_push_size _ rfl, rfl, rfl⟩, fun b hb => ?_, q⟩
    have e : b = s1.heap.objs.size := by simpa using hb
    subst e
    exact I1.fpOk (Nat.le_refl _) (I1.hok.fresh (Nat.le_refl _))
def seqOf : D → Option (List D)
  | .tup ds => some ds
  | .lst ds => some ds
  | _ => none
@[simp] def iS (a : FE) : FI := fun ρ g => (a ρ g).bd fun x g1 => lift (seqOf x) g1
/-- a list, a tuple: one tracked or written list has one content -/
theorem walk_tup {S : Hp} {a : Addr} {vs : List V} {ds : List D} (h : SqT c.K S a vs) (hs : Dns c S vs ds) : WalkOf c (Itt c.K a) ds S where
  stop := fun F ρ g σ H S1 e sm R => ⟨vs, Same.tup R.sub (Same.tup sm h), by rw [hs.length]; exact Nat.le_refl _⟩
  go := fun F ρ g σ H S1 i d e sm R hd => by
    obtain ⟨v, hv, hn⟩ := hs.get hd
    have hT : SqT c.K H a vs := Same.tup R.sub (Same.tup sm h)
    refine ⟨⟨vs, v, hT, hv⟩, fun x H' y => ?_⟩
    obtain ⟨e1, y⟩ := y
    subst e1
    have : vs[i]? = some x := y vs hT
    rw [hv] at this; cases this
    exact ⟨S1, Same.refl _, R, hn.mono sm⟩
theorem walk_lst {S : Hp} {a : Addr} {vs : List V} {ds : List D} (h : S a = some (.lst vs)) (hs : Dns c S vs ds) : WalkOf c (Itl c.K a) ds S where
  stop := fun F ρ g σ H S1 e sm R => ⟨vs, SqL.of (R.sub _ _ (sm _ _ h)), by rw [hs.length]; exact Nat.le_refl _⟩
  go := fun F ρ g σ H S1 i d e sm R hd => by
    obtain ⟨v, hv, hn⟩ := hs.get hd
    have hT : SqL c.K H a vs := SqL.of (R.sub _ _ (sm _ _ h))
    refine ⟨⟨vs, v, hT, hv⟩, fun x H' y => ?_⟩
    obtain ⟨e1, y⟩ := y
    subst e1
    have : vs[i]? = some x := y vs hT
    rw [hv] at this; cases this
    exact ⟨S1, Same.refl _, R, hn.mono sm⟩
theorem pfi_seq {tg e : Expr} {a : FE} (ha : PF X ah E e a) : PFI X ah E tg e (iS a) := by
  obtain ⟨t, p, r⟩ := ha
  refine ⟨_, pi_seq p, ?_⟩
  refine RG.bind (r := fun σ x H1 (R : It → Hp → Prop) => ∃ a, x = .ref a ∧ (((∃ xs, SqL X.K H1 a xs) ∧ R (Itl X.K a) H1) ∨ ((∃ xs, SqT X.K H1 a xs) ∧ R (Itt X.K a) H1))) (k := fun ρ x g1 => lift (seqOf x) g1) r fun F ρ g σ H S Q x d e R hx G => ?_
  cases hx with
  | tup h hs =>
    refine ⟨_, rfl, .inr ⟨⟨_, Same.tup R.sub h⟩, G.ret R ?_⟩⟩
    show WalkOf F.c _ _ _
    rw [e]
    exact walk_tup h hs
  | lst h hs =>
    refine ⟨_, rfl, .inl ⟨⟨_, SqL.of (R.sub _ _ h)⟩, G.ret R ?_⟩⟩
    show WalkOf F.c _ _ _
    rw [e]
    exact walk_lst h hs
  | _ => simp only [seqOf, lift] at G; exact G.elim
/-- range(n), range(a, b) -/
def rngD (lo : Int) (n : Nat) : List D := (List.range n).map fun (k : Nat) => D.int (lo + (k : Int))
theorem walk_rng {S : Hp} (lo : Int) (n : Nat) : WalkOf c (Itr lo n) (rngD lo n) S where
  stop := fun F ρ g σ H S1 e sm R => by show n ≤ (rngD lo n).length; simp [rngD]
  go := fun F ρ g σ H S1 i d e sm R hd => by
    have hi : i < n := by
      have := (List.getElem?_eq_some_iff.mp hd).1
      simpa [rngD] using this
    have hd' : d = .int (lo + i) := by
      simp [rngD, hi] at hd
      exact hd.symm
    subst hd'
    refine ⟨hi, fun x H' y => ?_⟩
    obtain ⟨e1, rfl⟩ := y
    subst e1
    exact ⟨S1, Same.refl _, R, .int _⟩
/-- a test that is never reckoned -/
noncomputable def ck (p : Prop) : Bool := @decide p (Classical.propDecidable p)
theorem ck_of {p : Prop} (h : p) : ck p = true := @decide_eq_true p (Classical.propDecidable p) h
theorem of_ck {p : Prop} (h : ck p = true) : p := @of_decide_eq_true p (Classical.propDecidable p) h
noncomputable def rng1 : List D → Option (List D)
  | [.int j] => if ck (-(2 ^ 62) ≤ j ∧ j < 2 ^ 62) = true then some (rngD 0 j.toNat) else none
  | _ => none
noncomputable def rng2 : List D → Option (List D)
  | [.int i, .int j] => if ck (-(2 ^ 62) ≤ i ∧ i < 2 ^ 62 ∧ -(2 ^ 62) ≤ j ∧ j < 2 ^ 62) = true then some (rngD i (j - i).toNat) else none
  | _ => none
@[simp] noncomputable def iR1 (a : FA) : FI := fun ρ g => (a ρ g).bd fun xs g1 => lift (rng1 xs) g1
@[simp] noncomputable def iR2 (a : FA) : FI := fun ρ g => (a ρ g).bd fun xs g1 => lift (rng2 xs) g1
theorem Dns.one {c : DC} {S : Hp} {vs : List V} {d : D} (h : Dns c S vs [d]) : ∃ v, vs = [v] ∧ Dn c S v d := by
  cases h with | cons h hs => cases hs; exact ⟨_, rfl, h⟩
theorem Dns.two {c : DC} {S : Hp} {vs : List V} {d e : D} (h : Dns c S vs [d, e]) : ∃ v w, vs = [v, w] ∧ Dn c S v d ∧ Dn c S w e := by
  cases h with | cons h hs => cases hs with | cons k ks => cases ks; exact ⟨_, _, rfl, h, k⟩
theorem Dns.three {c : DC} {S : Hp} {vs : List V} {d e f : D} (h : Dns c S vs [d, e, f]) : ∃ v w u, vs = [v, w, u] ∧ Dn c S v d ∧ Dn c S w e ∧ Dn c S u f := by
  cases h with | cons h hs => obtain ⟨w, u, rfl, h1, h2⟩ := hs.two; exact ⟨_, _, _, rfl, h, h1, h2⟩
theorem Dn.intE {c : DC} {S : Hp} {v : V} {i : Int} (h : Dn c S v (.int i)) : v = .int i := by cases h; rfl
theorem Dn.blE {c : DC} {S : Hp} {v : V} {i : Bool} (h : Dn c S v (.bl i)) : v = .bl i := by cases h; rfl
theorem Dn.strE {c : DC} {S : Hp} {v : V} {i : Str} (h : Dn c S v (.str i)) : v = .str i := by cases h; rfl
theorem pfi_rng1 {tg a : Expr} {f : FA} {p pos : Pos} (hm : X.mg "range" = none) (ha : PFA X ah E [a] f) (hg : Gl X "range" := by rfl) (hs : starEach [a] X.env = [(false, eval a X.env)] := by rfl) : PFI X ah E tg (.Call (.Name "range" p) [a] [] pos) (iR1 f) := by
  obtain ⟨t, q, r⟩ := ha
  refine ⟨_, pi_range1 hg hm q hs, ?_⟩
  refine RG.bind (r := fun σ vs H1 (R : It → Hp → Prop) => ∃ j : Int, vs = [.int j] ∧ -(2 ^ 62) ≤ j ∧ j < 2 ^ 62 ∧ R (Itr 0 j.toNat) H1) (k := fun ρ xs g1 => lift (rng1 xs) g1) r fun F ρ g σ H S Q x d e R hx G => ?_
  unfold rng1 at G
  split at G
  · rename_i j
    obtain ⟨v, rfl, hv⟩ := hx.one
    cases hv.intE
    by_cases hb : ck (-(2 ^ 62) ≤ j ∧ j < 2 ^ 62) = true
    · rw [if_pos hb] at G
      have hb := of_ck hb
      exact ⟨j, rfl, hb.1, hb.2, G.ret R (walk_rng 0 j.toNat)⟩
    · rw [if_neg hb] at G; exact G.elim
  · exact G.elim
theorem pfi_rng2 {tg a b : Expr} {f : FA} {p pos : Pos} (hm : X.mg "range" = none) (ha : PFA X ah E [a, b] f) (hg : Gl X "range" := by rfl) (hs : starEach [a, b] X.env = [(false, eval a X.env), (false, eval b X.env)] := by rfl) (hs2 : starEach [b] X.env = [(false, eval b X.env)] := by rfl) : PFI X ah E tg (.Call (.Name "range" p) [a, b] [] pos) (iR2 f) := by
  obtain ⟨t, q, r⟩ := ha
  refine ⟨_, pi_range2 hg hm q hs hs2, ?_⟩
  refine RG.bind (r := fun σ vs H1 (R : It → Hp → Prop) => ∃ i j : Int, vs = [.int i, .int j] ∧ (-(2 ^ 62) ≤ i ∧ i < 2 ^ 62 ∧ -(2 ^ 62) ≤ j ∧ j < 2 ^ 62) ∧ R (Itr i (j - i).toNat) H1) (k := fun ρ xs g1 => lift (rng2 xs) g1) r fun F ρ g σ H S Q x d e R hx G => ?_
  unfold rng2 at G
  split at G
  · rename_i i j
    obtain ⟨v, w, rfl, hv, hw⟩ := hx.two
    cases hv.intE
    cases hw.intE
    by_cases hb : ck (-(2 ^ 62) ≤ i ∧ i < 2 ^ 62 ∧ -(2 ^ 62) ≤ j ∧ j < 2 ^ 62) = true
    · rw [if_pos hb] at G
      have hb := of_ck hb
      exact ⟨i, j, rfl, hb, G.ret R (walk_rng i _)⟩
    · rw [if_neg hb] at G; exact G.elim
  · exact G.elim

end
section
variable {X : Cx} {ah : Option Addr} {E : XK} {c : DC}
/-! ### for -/
def loopD (gs : FG) (fb : FS) : List D → List En → Gh → M Fl
  | [], ρ, g => some (.ok (.nx ρ) g)
  | d :: ds, ρ, g => match gs d ρ with
    | none => none
    | some ρ1 => match fb ρ1 g with
      | none => none
      | some (.ok (.nx ρ2) g2) => loopD gs fb ds ρ2 g2
      | some (.ok (.ct ρ2) g2) => loopD gs fb ds ρ2 g2
      | some (.ok (.bk ρ2) g2) => some (.ok (.nx ρ2) g2)
      | some (.ok (.rt d) g2) => some (.ok (.rt d) g2)
      | some (.ex c ks es g2) => some (.ex c ks es g2)
@[simp] def sFor (fi : FI) (gs : FG) (fb : FS) : FS := fun ρ g => (fi ρ g).bd fun ds g1 => loopD gs fb ds ρ g1
theorem drop_of {α : Type} {ds : List α} {i : Nat} (h : i < ds.length) : ds.drop i = ds[i] :: ds.drop (i + 1) := List.drop_eq_getElem_cons h
theorem rs_for {wi : TI} {fi : FI} {tg : TG} {gs : FG} {tb : TS} {fb : FS} (hi : @RG It (List D) rI c (fun _ => E) wi fi) (hg : RTg c tg gs) (hb : RS c E tb fb) : RS c E (tFor wi tg tb) (sFor fi gs fb) := by
  refine RS.bind (rel := rI) (r := fun Z σ J H1 => ∃ W : Nat → Nat → St → Hp → Prop, (∃ m, W 0 m σ H1) ∧ ∀ i m σ H, W i m σ H →
    (J.stop i H ∧ Z.nx σ H) ∨ (J.go i H ∧ ∃ N : St → Hp → Prop, (∀ σ' H', N σ' H' → ∃ m', m' < m ∧ W (i + 1) m' σ' H') ∧ ∀ x H', J.yld i H x H' → tg x σ H' fun σ2 H2 => tb { Z with nx := N, ct := N, bk := Z.nx } σ2 H2)) (k := fun ρ ds g1 => loopD gs fb ds ρ g1) hi fun F ρ g σ H S Z J ds e R hJ G => ?_
  let Pv : Nat → St → Hp → Prop := fun i σ H => ∃ ρ g S1, Same S S1 ∧ Rep F ρ g σ H S1 ∧ GotS F S1 E Z (loopD gs fb (ds.drop i) ρ g)
  refine ⟨fun i m σ H => m = ds.length - i ∧ i ≤ ds.length ∧ Pv i σ H, ⟨ds.length, by simp, Nat.zero_le _, ρ, g, S, Same.refl S, R, G⟩, ?_⟩
  rintro i m σ H ⟨rfl, hi, ρ, g, S1, sm, R, G⟩
  by_cases hlt : i < ds.length
  · refine .inr ?_
    obtain ⟨go, yl⟩ := hJ.go F ρ g σ H S1 i ds[i] e sm R (List.getElem?_eq_getElem hlt)
    refine ⟨go, Pv (i + 1), fun σ' H' p' => ⟨ds.length - (i + 1), by omega, rfl, hlt, p'⟩, fun x H' y => ?_⟩
    obtain ⟨S', sm', R', hx⟩ := yl x H' y
    rw [drop_of hlt] at G
    unfold loopD at G
    refine hg.run F ρ g σ H' S' x _ _ e R' hx ?_
    cases h1 : gs ds[i] ρ with
    | none => rw [h1] at G; exact G
    | some ρ1 =>
      rw [h1] at G
      intro σ2 R2
      refine hb.run F ρ1 g σ2 H' S' _ e R2 ?_
      have G := G.mono sm'
      simp only at G
      cases h2 : fb ρ1 g with
      | none => rw [h2] at G; exact G
      | some o =>
        rw [h2] at G
        cases o with
        | ex _ _ _ _ => exact G
        | ok f g2 =>
          cases f with
          | nx ρ2 => exact fun σ3 H3 S3 s3 R3 => ⟨ρ2, g2, S3, sm.trans (sm'.trans s3), R3, G.mono s3⟩
          | ct ρ2 => exact fun σ3 H3 S3 s3 R3 => ⟨ρ2, g2, S3, sm.trans (sm'.trans s3), R3, G.mono s3⟩
          | bk ρ2 => exact G
          | rt d => exact G
  · have e1 : i = ds.length := by omega
    subst e1
    rw [List.drop_length] at G
    exact .inl ⟨hJ.stop F ρ g σ H S1 e sm R, G σ H S1 (Same.refl _) R⟩
theorem pfs_for {tg iter : Expr} {body : List Stmt} {fi : FI} {gs : FG} {fb : FS} {vs : List Nat} {pos : Pos} (hp : PassesOwn (model X.prog X.w) X.A X.env X.xe) (hc : X.calm = true) (hi : PFI X ah (fun _ => E) tg iter fi) (hg : PFG X ah tg gs vs) (hb : PFSs X ah E body fb)
    (hs : ∀ x, foldedSetIterable iter X.env x = pure x := by intro _; rfl) : PFS X ah E (.For tg iter body [] pos) (sFor fi gs fb) := by
  obtain ⟨t, p, r⟩ := hi
  obtain ⟨u, q, s, _⟩ := hg
  obtain ⟨v, q', s'⟩ := hb
  exact ⟨_, ps_for hp hc p q q' hs, rs_for r s s'⟩

end
section
variable {X : Cx} {ah : Option Addr} {E : St → XK} {c : DC}
/-! ### comprehensions -/
/-- the slots of a block's own names -/
def wipeE (ρ : List En) : List Nat → List En
  | [] => ρ
  | v :: vs => (wipeE ρ vs).set v .un
theorem wipeE_get (ρ : List En) (i : Nat) : ∀ vs : List Nat, (wipeE ρ vs)[i]? = if i ∈ vs then (if i < ρ.length then some En.un else none) else ρ[i]?
  | [] => by simp [wipeE]
  | v :: vs => by
    have hl : ∀ ws : List Nat, (wipeE ρ ws).length = ρ.length := by
      intro ws
      induction ws with
      | nil => rfl
      | cons w ws ih => simp [wipeE, ih]
    unfold wipeE
    rw [List.getElem?_set, hl, wipeE_get ρ i vs]
    by_cases h : v = i
    · subst h; simp
    · have h' : ¬ i = v := fun e => h e.symm
      simp [h, h']
theorem Rep.wipe {F : Fx} {ρ g σ H S} (R : Rep F ρ g σ H S) (vs : List Nat) : Rep F (wipeE ρ vs) g (wipe σ vs) H S := by
  refine R.forget (fun i en h => ?_) fun i j p xs ys h1 h2 h3 h4 => ?_
  · rw [wipeE_get] at h
    split at h
    · rename_i hi
      split at h
      · rename_i hl
        cases h
        obtain ⟨so, h1, _⟩ := R.slots i _ (List.getElem?_eq_getElem hl)
        have := (List.getElem?_eq_some_iff.mp h1).1
        exact ⟨none, by rw [wipe_get, if_pos hi, if_pos this], trivial⟩
      · cases h
    · rename_i hi
      obtain ⟨so, h1, h2⟩ := R.slots i en h
      exact ⟨so, by rw [wipe_get, if_neg hi]; exact h1, h2⟩
  · rw [wipeE_get] at h1 h2
    split at h1
    · split at h1 <;> cases h1
    split at h2
    · split at h2 <;> cases h2
    rename_i n1 n2
    rw [wipe_get, if_neg n1] at h3
    rw [wipe_get, if_neg n2] at h4
    exact R.apart i j p xs ys h1 h2 h3 h4
def hideE : En → En
  | .own _ => .un
  | e => e
def blkE (ρ : List En) (vs : List Nat) : List En := (wipeE ρ vs).map hideE
theorem Rep.sub_frame {F : Fx} {ρ g σ H S} (R : Rep F ρ g σ H S) : Rep ⟨F.c, H, S⟩ [] g [] H S :=
  ⟨R.sub, R.hand, fun b o e _ => e, fun b _ h => h, fun i e h => by simp at h, fun i j p xs ys h => by simp at h⟩
/-- within a block: the names of good standing, in a frame of their own -/
theorem Rep.inner {F F' : Fx} {ρ g g' σ H H' S S'} (R : Rep F ρ g σ H S) (vs : List Nat) (sm : Same S S') (e : F'.c = F.c) (R' : Rep F' [] g' [] H' S') : Rep ⟨F'.c, H', S'⟩ (blkE ρ vs) g' (L2.wipe σ vs) H' S' := by
  have W := R.wipe vs
  have B := R'.sub_frame
  refine ⟨B.sub, B.hand, B.keep, B.stay, fun i en h => ?_, fun i j p xs ys h1 h2 h3 h4 => ?_⟩
  · unfold blkE at h
    rw [List.getElem?_map, Option.map_eq_some_iff] at h
    obtain ⟨e0, h1, h2⟩ := h
    obtain ⟨so, k1, k2⟩ := W.slots i e0 h1
    refine ⟨so, k1, ?_⟩
    subst h2
    cases e0 with
    | un => trivial
    | own xs => trivial
    | dt d => obtain ⟨v, q1, q2⟩ := k2; exact ⟨v, q1, by show Dn F'.c S' v d; rw [e]; exact q2.mono sm⟩
  · unfold blkE at h1
    rw [List.getElem?_map, Option.map_eq_some_iff] at h1
    obtain ⟨e0, _, h2⟩ := h1
    cases e0 <;> simp [hideE] at h2
def compD (gs : FG) (ft : FT) (fe : FE) : List D → List En → Gh → M (List D)
  | [], ρ, g => some (.ok [] g)
  | d :: ds, ρ, g => match gs d ρ with
    | none => none
    | some ρ1 => match ft ρ1 g with
      | some (.ok true g1) => match fe ρ1 g1 with
        | some (.ok y g2) => match compD gs ft fe ds ρ g2 with
          | some (.ok ys g3) => some (.ok (y :: ys) g3)
          | _ => none
        | _ => none
      | some (.ok false g1) => compD gs ft fe ds ρ g1
      | _ => none
@[simp] def tY : FT := fun _ g => some (.ok true g)
/-- the list of the block's values, a new one -/
@[simp] def cLc (fi : FI) (vs : List Nat) (gs : FG) (ft : FT) (fe : FE) : FE := fun ρ g => (fi ρ g).bd fun ds g1 => (compD gs ft fe ds (blkE ρ vs) g1).bd fun ys g2 => if ys.length ≤ 1000 then some (.ok (.lst ys) g2) else none
theorem Rep.write1 {F : Fx} {g H S} (R : Rep F [] g [] H S) {p : Addr} {o : HO} (h1 : S p = none) (h2 : F.HE p = none) (h3 : F.c.ah ≠ some p) : Rep F [] g [] (upd H p o) S :=
  ⟨fun b u e => by rw [upd_ne (ne_of_none e h1)]; exact R.sub _ _ e, R.hand.up1 h3, fun b u e h => by rw [upd_ne (ne_of_none e h2)]; exact R.keep b u e h, R.stay, fun i e h => by simp at h, fun i j p xs ys h => by simp at h⟩
theorem Rep.freeze1 {F : Fx} {g H S} (R : Rep F [] g [] H S) {p : Addr} {vs : List V} (h0 : H p = some (.lst vs)) (h1 : S p = none) (h2 : F.HE p = none) (h3 : F.c.ah ≠ some p) : Rep F [] g [] H (upd S p (.lst vs)) := by
  have sm : Same S (upd S p (.lst vs)) := Same.upd_new h1
  refine ⟨fun b o e => ?_, ?_, R.keep, fun b e h => ?_, fun i e h => by simp at h, fun i j p xs ys h => by simp at h⟩
  · by_cases hb : b = p
    · subst hb; rw [upd_same] at e; cases e; exact h0
    · rw [upd_ne hb] at e; exact R.sub _ _ e
  · have h := R.hand
    unfold HandAt at h ⊢
    cases ea : F.c.ah with
    | none => trivial
    | some a =>
      rw [ea] at h
      obtain ⟨k1, q, k2, k3⟩ := h
      have ne : a ≠ p := fun z => h3 (by rw [ea, z])
      exact ⟨by rw [upd_ne ne]; exact k1, q, k2, sm _ _ k3⟩
  · have ne : b ≠ p := fun z => e (by rw [z]; exact h2)
    rw [upd_ne ne]; exact R.stay b e h
/-- behind something that was run within the frame ⟨H, S⟩ -/
theorem Rep.behind {F : Fx} {g g' H H' S S'} (R : Rep F [] g [] H S) (sm : Same S S') (B : Rep ⟨F.c, H, S⟩ [] g' [] H' S') : Rep F [] g' [] H' S' := R.back sm B
theorem compD_cons {gs : FG} {ft : FT} {fe : FE} {d : D} {ds : List D} {ρ : List En} {g : Gh} {ys : List D} {g' : Gh} (h : compD gs ft fe (d :: ds) ρ g = some (.ok ys g')) :
    ∃ ρ1 b g1, gs d ρ = some ρ1 ∧ ft ρ1 g = some (.ok b g1) ∧ ((b = true ∧ ∃ y g2 zs, fe ρ1 g1 = some (.ok y g2) ∧ compD gs ft fe ds ρ g2 = some (.ok zs g') ∧ ys = y :: zs) ∨ (b = false ∧ compD gs ft fe ds ρ g1 = some (.ok ys g'))) := by
  unfold compD at h
  split at h
  · cases h
  rename_i ρ1 e1
  split at h
  · rename_i g1 e2
    split at h
    · rename_i y g2 e3
      split at h
      · rename_i zs g3 e4
        cases h
        exact ⟨ρ1, true, g1, e1, e2, .inl ⟨rfl, y, g2, zs, e3, e4, rfl⟩⟩
      · cases h
    · cases h
  · rename_i g1 e2
    exact ⟨ρ1, false, g1, e1, e2, .inr ⟨rfl, h⟩⟩
  · cases h
theorem compD_ok {gs : FG} {ft : FT} {fe : FE} : ∀ {ds : List D} {ρ : List En} {g : Gh} {o : Out (List D)}, compD gs ft fe ds ρ g = some o → ∃ ys g', o = .ok ys g'
  | [], ρ, g, o, h => by simp [compD] at h; exact ⟨_, _, h.symm⟩
  | d :: ds, ρ, g, o, h => by
    unfold compD at h
    split at h
    · cases h
    split at h
    · split at h
      · split at h
        · cases h; exact ⟨_, _, rfl⟩
        · cases h
      · cases h
    · exact compD_ok h
    · cases h
theorem re_lc {wi : TI} {fi : FI} {tg : TG} {gs : FG} {tt : TT} {ft : FT} {te : TE} {fe : FE} {vs : List Nat} (hi : @RG It (List D) rI c E wi fi) (hg : RTg c tg gs) (hw : TGw tg vs) (hm : TGm tg) (ht : RT c (fun _ => E0) tt ft) (he : RE c (fun _ => E0) te fe) : RE c E (tLc wi tg tt te vs) (cLc fi vs gs ft fe) := by
  refine RG.bind (rel := rI) (rel' := Dn) (r := fun σ J H1 (Q : VK) => ∀ D, H1 D = none → ∃ W : Nat → Nat → Hp → Prop, (∃ m, W 0 m (upd H1 D (.lst []))) ∧ ∀ i m H, W i m H →
    (J.stop i H ∧ Q (.ref D) H) ∨ (J.go i H ∧ ∃ Nx : Hp → Prop, (∀ H', Nx H' → ∃ m', m' < m ∧ W (i + 1) m' H') ∧ ∀ x H', J.yld i H x H' → tg x (wipe σ vs) H' fun σ2 H2 => wipe σ2 vs = wipe σ vs ∧ tt σ2 H2 fun b H3 =>
      if b = true then te σ2 H3 fun y H4 => ∃ acc, H4 D = some (.lst acc) ∧ acc.length < sizeLine ∧ Nx (upd H4 D (.lst (acc ++ [y]))) else Nx H3))
    (k := fun ρ ds g1 => (compD gs ft fe ds (blkE ρ vs) g1).bd fun ys g2 => if ys.length ≤ 1000 then some (.ok (.lst ys) g2) else none) hi fun F ρ g σ H S Q J ds e R hJ G => ?_
  intro p hp
  cases hc : compD gs ft fe ds (blkE ρ vs) g with
  | none => rw [hc] at G; exact G.elim
  | some o =>
  obtain ⟨ys, gE, rfl⟩ := compD_ok hc
  rw [hc] at G
  simp only [M.bd] at G
  by_cases hl : ys.length ≤ 1000
  case neg => rw [if_neg hl] at G; exact G.elim
  rw [if_pos hl] at G
  have pah : F.c.ah ≠ some p := R.new_ah hp
  have R0 := R.sub_frame
  let Pv : Nat → Hp → Prop := fun i H' => ∃ g' S' us zs rest, Same S S' ∧ Rep ⟨F.c, H, S⟩ [] g' [] H' S' ∧ H' p = some (.lst us) ∧ S' p = none ∧ Dns F.c S' us zs ∧ compD gs ft fe (ds.drop i) (blkE ρ vs) g' = some (.ok rest gE) ∧ zs ++ rest = ys
  refine ⟨fun i m H' => m = ds.length - i ∧ i ≤ ds.length ∧ Pv i H', ⟨ds.length, by simp, Nat.zero_le _, g, S, [], [], ys, Same.refl S, R0.write1 (R.sub.free hp) hp pah, upd_same, R.sub.free hp, .nil, hc, rfl⟩, ?_⟩
  rintro i m H' ⟨rfl, hi', g', S', us, zs, rest, sm, R', hD, hS, hz, hcr, hy⟩
  by_cases hlt : i < ds.length
  · refine .inr ?_
    rw [drop_of hlt] at hcr
    obtain ⟨ρ1, b, g1, e1, e2, alt⟩ := compD_cons hcr
    have RI := Rep.inner (F' := ⟨F.c, H, S⟩) R vs sm rfl R'
    obtain ⟨go, yl⟩ := hJ.go ⟨F.c, H', S'⟩ _ g' (wipe σ vs) H' S' i ds[i] e sm RI (List.getElem?_eq_getElem hlt)
    refine ⟨go, Pv (i + 1), fun H2 p' => ⟨ds.length - (i + 1), by omega, rfl, hlt, p'⟩, fun x H1 y => ?_⟩
    obtain ⟨S1, sm1, R1, hx⟩ := yl x H1 y
    have hgw := hw x (wipe σ vs) H1 (fun σ2 H2 => tt σ2 H2 fun b H3 =>
      if b = true then te σ2 H3 fun y H4 => ∃ acc, H4 p = some (.lst acc) ∧ acc.length < sizeLine ∧ Pv (i + 1) (upd H4 p (.lst (acc ++ [y]))) else Pv (i + 1) H3)
    have ww : wipe (wipe σ vs) vs = wipe σ vs := by
      apply List.ext_getElem?
      intro j
      rw [wipe_get, wipe_get, wipe_length]
      split <;> rfl
    refine hm.mono _ _ _ _ _ (fun σ2 H2 q => ⟨q.2.trans ww, q.1⟩) (hgw ?_)
    refine hg.run ⟨F.c, H', S'⟩ _ g' (wipe σ vs) H1 S1 x _ _ e R1 hx ?_
    rw [e1]
    intro σ2 R2
    refine ht.run ⟨F.c, H', S'⟩ _ g' σ2 H1 S1 _ e R2 ?_
    rw [e2]
    intro b' H3 S3 sm3 R3 hb
    have hb : b' = b := hb
    subst hb
    have keep : ∀ {ρx gx σx Hx Sx}, Rep ⟨F.c, H', S'⟩ ρx gx σx Hx Sx → Hx p = some (.lst us) ∧ Sx p = none := fun {ρx gx σx Hx Sx} Rx => ⟨Rx.keep p _ hD pah, Rx.stay p (by show H' p ≠ none; rw [hD]; simp) hS⟩
    rcases alt with ⟨rfl, y, g2, zs', e3, e4, rfl⟩ | ⟨rfl, e4⟩
    · rw [if_pos rfl]
      refine he.run ⟨F.c, H', S'⟩ _ g1 σ2 H3 S3 _ e R3 ?_
      rw [e3]
      intro y' H4 S4 sm4 R4 hy4
      obtain ⟨k1, k2⟩ := keep R4
      have sm' : Same S' S4 := sm1.trans (sm3.trans sm4)
      refine ⟨us, k1, ?_, g2, S4, us ++ [y'], zs ++ [y], zs', sm.trans sm', (Rep.behind R' sm' R4.bare).write1 k2 hp pah, upd_same, k2, (hz.mono sm').append (.cons hy4 .nil), e4, by rw [← hy]; simp⟩
      have : us.length ≤ ys.length := by rw [hz.length, ← hy]; simp
      exact small1000 (Nat.le_trans this hl)
    · rw [if_neg (by simp)]
      obtain ⟨k1, k2⟩ := keep R3
      have sm' : Same S' S3 := sm1.trans sm3
      exact ⟨g1, S3, us, zs, rest, sm.trans sm', Rep.behind R' sm' R3.bare, k1, k2, hz.mono sm', e4, hy⟩
  · have e1 : i = ds.length := by omega
    subst e1
    rw [List.drop_length] at hcr
    simp only [compD] at hcr
    cases hcr
    rw [List.append_nil] at hy
    subst hy
    refine .inl ⟨?_, ?_⟩
    · exact hJ.stop ⟨F.c, H, S⟩ _ _ [] H' S' e sm R'
    · have R2 := R'.freeze1 hD hS hp pah
      refine G (.ref p) H' _ (sm.trans (Same.upd_new hS)) (R.back (sm.trans (Same.upd_new hS)) R2) ?_
      exact .lst upd_same (hz.mono (Same.upd_new hS))
end
end FD
set_option Elab.async false
set_option linter.all false
set_option maxRecDepth 100000
set_option maxHeartbeats 2000000
namespace FD
open PySem L2
section
variable {X : Cx} {ah : Option Addr} {E : St → XK} {c : DC}
/-! ### one reading for all contexts of a block -/
theorem all_PE {ι : Type} {Y : ι → Cx} {e : Expr} {f : FE} (hc : ∀ i, dc (Y i) ah = c) (h : ∀ i, PF (Y i) ah E e f) : ∃ t, (∀ i, PE (Y i) e t) ∧ RE c E t f := by
  have h' : ∀ i, ∃ t, PE (Y i) e t ∧ RE c E t f := fun i => by
    obtain ⟨t, p, r⟩ := h i
    exact ⟨t, p, hc i ▸ r⟩
  by_cases hn : Nonempty ι
  · obtain ⟨i0⟩ := hn
    refine ⟨fun σ H Q => ∀ i, (h' i).choose σ H Q, fun i => ⟨fun pins s σ H Q I hw => (h' i).choose_spec.1.run pins s σ H Q I (hw i)⟩, ⟨fun F ρ g σ H S Q e R G i => ?_⟩⟩
    exact (h' i).choose_spec.2.run F ρ g σ H S Q e R G
  · exact ⟨fun _ _ _ => True, fun i => absurd ⟨i⟩ hn, ⟨fun _ _ _ _ _ _ _ _ _ _ => trivial⟩⟩
theorem all_PG {ι : Type} {Y : ι → Cx} {e : Expr} {f : FG} {vs : List Nat} (hc : ∀ i, dc (Y i) ah = c) (h : ∀ i, PFG (Y i) ah e f vs) : ∃ t, (∀ i, PG (Y i) e t) ∧ RTg c t f ∧ TGw t vs ∧ TGm t := by
  have h' : ∀ i, ∃ t, PG (Y i) e t ∧ RTg c t f ∧ TGw t vs ∧ TGm t := fun i => by
    obtain ⟨t, p, r, w, m⟩ := h i
    exact ⟨t, p, hc i ▸ r, w, m⟩
  refine ⟨fun v σ H Q => ∀ i, (h' i).choose v σ H Q, fun i => ⟨fun pins s σ H v u Q I r hw => (h' i).choose_spec.1.run pins s σ H v u Q I r (hw i)⟩, ⟨fun F ρ gh σ H S v d Q e R hv G i => ?_⟩, fun x σ H Q hw i => ?_, ⟨fun x σ H Q Q' hq hw i => ?_⟩⟩
  · exact (h' i).choose_spec.2.1.run F ρ gh σ H S v d Q e R hv G
  · exact (h' i).choose_spec.2.2.1 x σ H Q (hw i)
  · exact (h' i).choose_spec.2.2.2.mono x σ H Q Q' hq (hw i)
/-- a block's tests -/
def PFTs (X : Cx) (ah : Option Addr) (ifs : List Expr) (f : FT) : Prop := ∃ t, PTs X ifs t ∧ RT (dc X ah) (fun _ => E0) t f
theorem pfts_nil : PFTs X ah [] tY := ⟨_, pts_nil, ⟨fun F ρ g σ H S Q e R G => G.ret (b := true) R rfl⟩⟩
theorem pfts_one {e : Expr} {f : FT} (h : PFT X ah (fun _ => E0) e f) : PFTs X ah [e] f := by
  obtain ⟨t, p, r⟩ := h
  exact ⟨_, pts_one p, r⟩
theorem all_PTs {ι : Type} {Y : ι → Cx} {es : List Expr} {f : FT} (hc : ∀ i, dc (Y i) ah = c) (h : ∀ i, PFTs (Y i) ah es f) : ∃ t, (∀ i, PTs (Y i) es t) ∧ RT c (fun _ => E0) t f := by
  have h' : ∀ i, ∃ t, PTs (Y i) es t ∧ RT c (fun _ => E0) t f := fun i => by
    obtain ⟨t, p, r⟩ := h i
    exact ⟨t, p, hc i ▸ r⟩
  refine ⟨fun σ H Q => ∀ i, (h' i).choose σ H Q, fun i => ⟨fun pins s σ H Q I hw => (h' i).choose_spec.1.run pins s σ H Q I (hw i)⟩, ⟨fun F ρ g σ H S Q e R G i => ?_⟩⟩
  exact (h' i).choose_spec.2.run F ρ g σ H S Q e R G
abbrev BI := Shared × Hp × Addr × List (Str × Addr) × List Addr
abbrev bx (X : Cx) (scope : Scope) (i : BI) : Cx := X.blk i.1 i.2.1 scope (compEnvC scope i.2.2.2.1 i.2.2.1 X.env) i.2.2.2.2
/-- [e for x in xs if t] as a value -/
theorem pf_lc {elt tg iter : Expr} {ifs : List Expr} {scope : Scope} (own : List (Str × Nat)) {pos : Pos} {fi : FI} {gs : FG} {ft : FT} {fe : FE} (hN : X.N.Nodup) (hi : PFI X ah E tg iter fi)
    (hg : ∀ i : BI, PFG (bx X scope i) ah tg gs (own.map (·.2))) (ht : ∀ i : BI, PFTs (bx X scope i) ah ifs ft) (he : ∀ i : BI, PF (bx X scope i) ah (fun _ => E0) elt fe)
    (ok : BlkOk X.N X.env.scope scope own) (hc : X.calm = true := by rfl) (hs : ∀ x, foldedSetIterable iter X.env x = pure x := by intro _; rfl) :
    PF X ah E (.ListComp elt [⟨tg, iter, ifs, 0⟩] scope pos) (cLc fi (own.map (·.2)) gs ft fe) := by
  obtain ⟨t, p, r⟩ := hi
  obtain ⟨tg', pg, rg, wg, mg⟩ := all_PG (Y := bx X scope) (c := dc X ah) (fun _ => rfl) hg
  obtain ⟨tt, pt, rt⟩ := all_PTs (Y := bx X scope) (c := dc X ah) (fun _ => rfl) ht
  obtain ⟨te, pe, re⟩ := all_PE (Y := bx X scope) (c := dc X ah) (fun _ => rfl) he
  exact ⟨_, pe_lc hc hN p ok (fun s H C cl fp => pg (s, H, C, cl, fp)) (fun s H C cl fp => pt (s, H, C, cl, fp)) (fun s H C cl fp => pe (s, H, C, cl, fp)) hs, re_lc r rg wg mg rt re⟩
/-- y = [..] -/
theorem pfs_lc {E' : XK} (i : Nat) {y : Str} {py : Pos} {elt tg iter : Expr} {ifs : List Expr} {scope : Scope} (own : List (Str × Nat)) {pos spos : Pos} {fi : FI} {gs : FG} {ft : FT} {fe : FE} (hN : X.N.Nodup) (hi : PFI X ah (fun _ => E') tg iter fi)
    (hg : ∀ i : BI, PFG (bx X scope i) ah tg gs (own.map (·.2))) (ht : ∀ i : BI, PFTs (bx X scope i) ah ifs ft) (he : ∀ i : BI, PF (bx X scope i) ah (fun _ => E0) elt fe)
    (ok : BlkOk X.N X.env.scope scope own) (hsw : swapsWith (.ListComp elt [⟨tg, iter, ifs, 0⟩] scope pos) (some (.Name y py)) spos.line X.env = pure true)
    (hy : X.N[i]? = some y := by rfl) (hyl : X.env.scope.names.lookup y = some .local := by rfl) (hc : X.calm = true := by rfl) (hs : ∀ x, foldedSetIterable iter X.env x = pure x := by intro _; rfl) :
    PFS X ah E' (.Assign [.Name y py] (.ListComp elt [⟨tg, iter, ifs, 0⟩] scope pos) spos) (sAsg (cLc fi (own.map (·.2)) gs ft fe) (gN i)) := by
  obtain ⟨t, p, r⟩ := hi
  obtain ⟨tg', pg, rg, wg, mg⟩ := all_PG (Y := bx X scope) (c := dc X ah) (fun _ => rfl) hg
  obtain ⟨tt, pt, rt⟩ := all_PTs (Y := bx X scope) (c := dc X ah) (fun _ => rfl) ht
  obtain ⟨te, pe, re⟩ := all_PE (Y := bx X scope) (c := dc X ah) (fun _ => rfl) he
  exact ⟨_, ps_setLc hc hN hy hyl hsw p ok (fun s H C cl fp => pg (s, H, C, cl, fp)) (fun s H C cl fp => pt (s, H, C, cl, fp)) (fun s H C cl fp => pe (s, H, C, cl, fp)) hs, rs_asg (re_lc r rg wg mg rt re) (rt_name i)⟩

/-! ### calls of built-in things -/
def CallS (c : DC) (r : List V → Hp → VK → Prop) (op : List D → Option D) : Prop :=
  ∀ (E : XK) F ρ g σ H S Q vs ds, F.c = c → Rep F ρ g σ H S → Dns c S vs ds → Got Dn F ρ σ S E Q (lift (op ds) g) → r vs H Q
@[simp] def cCall (op : List D → Option D) (a : FA) : FE := fun ρ g => (a ρ g).bd fun xs g1 => lift (op xs) g1
theorem re_callB {r : List V → Hp → VK → Prop} {op : List D → Option D} {t : TA} {a : FA} (ho : CallS c r op) (ha : RA c E t a) : RE c E (tCB r t) (cCall op a) := by
  refine RG.bind (r := fun σ vs H1 (Q : VK) => r vs H1 Q) (k := fun ρ xs g1 => lift (op xs) g1) ha fun F ρ g σ H S Q x d e R hx G => ?_
  exact ho (E σ) F ρ g σ H S Q x d e R hx G
theorem pf_callB {x : Str} {id : String} {r : List V → Hp → VK → Prop} {op : List D → Option D} {e : Expr} {es : List Expr} {a : FA} {p pos : Pos} (hr : CallR X (.builtin id) r) (ho : CallS (dc X ah) r op) (hm : X.mg x = none) (hv : bootBuiltins x = some (.builtin id)) (ha : PFA X ah E (e :: es) a)
    (hg : Gl X x := by rfl) (hn : x ≠ "__name__" := by decide) (hdb : (x == ("__debug__" : Str)) = false := by decide)
    (he : starEach (e :: es) X.env = (false, eval e X.env) :: starEach es X.env := by rfl) (hpl : (backTo pos (starEach es X.env)).any (·.1) = false := by rfl) : PF X ah E (.Call (.Name x p) (e :: es) [] pos) (cCall op a) := by
  obtain ⟨t, q, s⟩ := ha
  exact ⟨_, pe_callB hr hg hm hv q hn hdb he hpl, re_callB ho s⟩
theorem pf_callTy {x : Str} {T : String} {r : List V → Hp → VK → Prop} {op : List D → Option D} {e : Expr} {es : List Expr} {a : FA} {p pos : Pos} (hr : CallR X (.type T) r) (ho : CallS (dc X ah) r op) (hm : X.mg x = none) (hv : bootBuiltins x = some (.type T)) (ha : PFA X ah E (e :: es) a)
    (hg : Gl X x := by rfl) (hn : x ≠ "__name__" := by decide) (hdb : (x == ("__debug__" : Str)) = false := by decide)
    (he : starEach (e :: es) X.env = (false, eval e X.env) :: starEach es X.env := by rfl) (hpl : (backTo pos (starEach es X.env)).any (·.1) = false := by rfl) : PF X ah E (.Call (.Name x p) (e :: es) [] pos) (cCall op a) := by
  obtain ⟨t, q, s⟩ := ha
  exact ⟨_, pe_callTy hr hg hm hv q hn hdb he hpl, re_callB ho s⟩

def lenD : List D → Option D
  | [.tup xs] => some (.int xs.length)
  | [.lst xs] => some (.int xs.length)
  | _ => none
abbrev rLenD (K : PySem.W.Frag) : List V → Hp → VK → Prop := fun xs H Q => ∃ p ys, xs = [.ref p] ∧ (SqL K H p ys ∨ SqT K H p ys) ∧ Q (.int ys.length) H
theorem cs_len : CallS c (rLenD c.K) lenD := by
  intro E F ρ g σ H S Q vs ds e R hx G
  subst e
  unfold lenD at G
  split at G
  · obtain ⟨v, rfl, hv⟩ := hx.one
    cases hv with
    | tup h hs => exact ⟨_, _, rfl, .inr (Same.tup R.sub h), by rw [hs.length]; exact G.ret R (.int _)⟩
  · obtain ⟨v, rfl, hv⟩ := hx.one
    cases hv with
    | lst h hs => exact ⟨_, _, rfl, .inl (SqL.of (R.sub _ _ h)), by rw [hs.length]; exact G.ret R (.int _)⟩
  · exact G.elim
theorem pf_len {e : Expr} {a : FA} {p pos : Pos} (hm : X.mg "len" = none) (ha : PFA X ah E [e] a) (hg : Gl X "len" := by rfl)
    (he : starEach [e] X.env = (false, eval e X.env) :: starEach [] X.env := by rfl) (hpl : (backTo pos (starEach [] X.env)).any (·.1) = false := by rfl) : PF X ah E (.Call (.Name "len" p) [e] [] pos) (cCall lenD a) := pf_callB call_len_seq cs_len hm PySem.boot_len ha hg (by decide) (by decide) he hpl
def tupleD : List D → Option D
  | [.tup xs] => some (.tup xs)
  | [.lst xs] => some (.tup xs)
  | _ => none
abbrev rTupleD (K : PySem.W.Frag) : List V → Hp → VK → Prop := fun xs H Q => ∃ p ys, xs = [.ref p] ∧ ((SqL K H p ys ∧ ∀ l, H l = none → Q (.ref l) (upd H l (.tup ys))) ∨ (SqT K H p ys ∧ Q (.ref p) H))
theorem cs_tuple : CallS c (rTupleD c.K) tupleD := by
  intro E F ρ g σ H S Q vs ds e R hx G
  subst e
  unfold tupleD at G
  split at G
  · obtain ⟨v, rfl, hv⟩ := hx.one
    cases hv with
    | tup h hs => exact ⟨_, _, rfl, .inr ⟨Same.tup R.sub h, G.ret R (.tup h hs)⟩⟩
  · obtain ⟨v, rfl, hv⟩ := hx.one
    cases hv with
    | lst h hs => exact ⟨_, _, rfl, .inl ⟨SqL.of (R.sub _ _ h), fun l hl => G.new R hl (.tup (SqT.of upd_same) (hs.mono (R.tosame _ hl)))⟩⟩
  · exact G.elim
def listD : List D → Option D
  | [.tup xs] => some (.lst xs)
  | [.lst xs] => some (.lst xs)
  | _ => none
abbrev rListD (K : PySem.W.Frag) : List V → Hp → VK → Prop := fun xs H Q => ∃ p ys, xs = [.ref p] ∧ (SqL K H p ys ∨ SqT K H p ys) ∧ ∀ l, H l = none → Q (.ref l) (upd H l (.lst ys))
theorem cs_list : CallS c (rListD c.K) listD := by
  intro E F ρ g σ H S Q vs ds e R hx G
  subst e
  unfold listD at G
  split at G
  · obtain ⟨v, rfl, hv⟩ := hx.one
    cases hv with
    | tup h hs => exact ⟨_, _, rfl, .inr (Same.tup R.sub h), fun l hl => G.new R hl (.lst upd_same (hs.mono (R.tosame _ hl)))⟩
  · obtain ⟨v, rfl, hv⟩ := hx.one
    cases hv with
    | lst h hs => exact ⟨_, _, rfl, .inl (SqL.of (R.sub _ _ h)), fun l hl => G.new R hl (.lst upd_same (hs.mono (R.tosame _ hl)))⟩
  · exact G.elim
def intOf : List D → Option D
  | [.int i] => some (.int i)
  | [.bl k] => some (.int (if k then 1 else 0))
  | _ => none
theorem cs_int : CallS c (fun xs H Q => (∃ i, xs = [.int i] ∧ Q (.int i) H) ∨ ∃ k, xs = [.bl k] ∧ Q (.int (if k then 1 else 0)) H) intOf := by
  intro E F ρ g σ H S Q vs ds e R hx G
  unfold intOf at G
  split at G
  · obtain ⟨v, rfl, hv⟩ := hx.one
    cases hv.intE
    exact .inl ⟨_, rfl, G.ret R (.int _)⟩
  · obtain ⟨v, rfl, hv⟩ := hx.one
    cases hv.blE
    exact .inr ⟨_, rfl, G.ret R (.int _)⟩
  · exact G.elim
/-- all of a list of flags -/
def flags : List D → Option (List Bool)
  | [] => some []
  | .bl b :: ds => (flags ds).map (b :: ·)
  | _ => none
theorem flags_of {S : Hp} : ∀ {vs : List V} {ds : List D} {bs : List Bool}, Dns c S vs ds → flags ds = some bs → vs = bs.map V.bl
  | _, _, _, .nil, e => by simp [flags] at e; subst e; rfl
  | _, _, _, .cons h hs, e => by
    cases h <;> simp only [flags] at e <;> try cases e
    rw [Option.map_eq_some_iff] at e
    obtain ⟨bs, e1, rfl⟩ := e
    rw [flags_of hs e1]; rfl
def allD : List D → Option D
  | [.lst ds] => (flags ds).map fun bs => .bl (bs.all id)
  | _ => none
def anyD : List D → Option D
  | [.lst ds] => (flags ds).map fun bs => .bl (bs.any id)
  | _ => none
theorem cs_all : CallS c (rAll c.K) allD := by
  intro E F ρ g σ H S Q vs ds e R hx G
  subst e
  unfold allD at G
  split at G
  · rename_i ds
    obtain ⟨v, rfl, hv⟩ := hx.one
    cases hv with
    | lst h hs =>
      cases q : flags ds with
      | none => rw [q] at G; exact G.elim
      | some bs =>
        rw [q] at G
        have := flags_of hs q
        subst this
        exact ⟨_, bs, rfl, SqL.of (R.sub _ _ h), G.ret R (.bl _)⟩
  · exact G.elim
theorem cs_any : CallS c (rAny c.K) anyD := by
  intro E F ρ g σ H S Q vs ds e R hx G
  subst e
  unfold anyD at G
  split at G
  · rename_i ds
    obtain ⟨v, rfl, hv⟩ := hx.one
    cases hv with
    | lst h hs =>
      cases q : flags ds with
      | none => rw [q] at G; exact G.elim
      | some bs =>
        rw [q] at G
        have := flags_of hs q
        subst this
        exact ⟨_, bs, rfl, SqL.of (R.sub _ _ h), G.ret R (.bl _)⟩
  · exact G.elim

/-! ### isinstance of a built-in type -/
/-- what is known of an own class whose things are told apart from the built-in ones -/
structure ClsI (K : PySem.W.Frag) (C : Addr) : Prop where
  cl : Cls K C
  ha : PySem.W.findIn K (.ref C) "__class__" = some (some (.builtin "object.__class__"))
  hn : PySem.W.specialIn K (.builtin "object.__class__") "__get__" = some (some (.builtin "getset_descriptor.__get__"))
  htk : PySem.W.takesIn K (.builtin "object.__class__") = some true
  hm : PySem.W.mroIn K C (.type "object") = some true
  no : ∀ t : String, (t = "int" ∨ t = "bool" ∨ t = "str" ∨ t = "tuple" ∨ t = "list") → PySem.W.kitOne K (.ref C) (.type t) = some false
def isTyB (t : String) : D → Bool
  | .non => false
  | .bl _ => t == "bool" || t == "int"
  | .int _ => t == "int"
  | .str _ => t == "str"
  | .tup _ => t == "tuple"
  | .lst _ => t == "list"
  | _ => false
def isTyD (t : String) : D → Option D
  | .hnd => none
  | .rng _ _ => none
  | .obj c _ _ => if c = "Play" then some (.bl false) else none
  | d => some (.bl (isTyB t d))
theorem kitB_all (t : String) (h : t = "int" ∨ t = "bool" ∨ t = "str" ∨ t = "tuple" ∨ t = "list") :
    kitB "NoneType" t = some false ∧ kitB "bool" t = some (t == "bool" || t == "int") ∧ kitB "int" t = some (t == "int") ∧ kitB "str" t = some (t == "str") ∧ kitB "tuple" t = some (t == "tuple") ∧ kitB "list" t = some (t == "list") ∧ kitB "dict" t = some false := by
  rcases h with rfl | rfl | rfl | rfl | rfl <;> decide +kernel
@[simp] def cIs (t : String) (a : FE) : FE := c1 (isTyD t) a
theorem re_isTy {t : String} {te : TE} {a : FE} (ht : t = "int" ∨ t = "bool" ∨ t = "str" ∨ t = "tuple" ∨ t = "list") (ho : ∀ C, c.mg "Play" = some (.ref C) → ClsI c.K C)
    (ha : RE c E te a) : RE c E (tCB (rIsi c.K) (tCons te (tCons (tC (.ty t)) tNil))) (cIs t a) := by
  refine RG.bind (r := fun σ x H1 (Q : VK) => rIsi c.K [x, .ty t] H1 Q) (k := fun ρ x g1 => lift (isTyD t x) g1) ha fun F ρ g σ H S Q x d e R hx G => ?_
  obtain ⟨k0, k1, k2, k3, k4, k5, k6⟩ := kitB_all t ht
  cases hx with
  | non => exact ⟨_, _, _, _, _, rfl, .ty t, .base .non, kit_ty k0, G.ret R (.bl _)⟩
  | bl b => exact ⟨_, _, _, _, _, rfl, .ty t, .base (.bl b), kit_ty k1, G.ret R (.bl _)⟩
  | int b => exact ⟨_, _, _, _, _, rfl, .ty t, .base (.int b), kit_ty k2, G.ret R (.bl _)⟩
  | str b => exact ⟨_, _, _, _, _, rfl, .ty t, .base (.str b), kit_ty k3, G.ret R (.bl _)⟩
  | tup h hs =>
    refine ⟨_, _, .type "tuple", _, _, rfl, .ty t, ?_, kit_ty k4, G.ret R (.bl _)⟩
    rcases Same.tup R.sub h with (h | ⟨o, h⟩) | ⟨o, its, n, h, hc, _⟩
    · exact .base (.tup h)
    · exact .fTuple h
    · exact .kTuple h hc
  | lst h hs => exact ⟨_, _, _, _, _, rfl, .ty t, .base (.lst (R.sub _ _ h)), kit_ty k5, G.ret R (.bl _)⟩
  | emp h => exact ⟨_, _, _, _, _, rfl, .ty t, .base (.dK (R.sub _ _ h)), kit_ty k6, G.ret R (.bl _)⟩
  | obj m h k hs =>
    simp only [isTyD] at G
    rename_i cn _ _ _
    by_cases hc : cn = "Play"
    case neg => rw [if_neg hc] at G; exact G.elim
    rw [if_pos hc] at G
    subst hc
    have ci := ho _ m
    exact ⟨_, _, _, _, _, rfl, .ty t, .base (.ins (R.sub _ _ h) ci.cl ci.ha ci.hn ci.htk ci.hm), ci.no t ht, G.ret R (.bl _)⟩
  | hnd h => exact G.elim
  | rng h => exact G.elim
end
end FD
set_option Elab.async false
set_option linter.all false
set_option maxRecDepth 100000
set_option maxHeartbeats 2000000
namespace FD
open PySem L2 PyProof.Rows
section
variable {X : Cx} {ah : Option Addr} {E : L2.St → XK} {c : DC}
/-! ### isinstance(x, T) -/
theorem pf_is {t : String} {e : Expr} {a : FE} {p p2 pos : Pos} (ht : t = "int" ∨ t = "bool" ∨ t = "str" ∨ t = "tuple" ∨ t = "list") (ho : ∀ C, X.mg "Play" = some (.ref C) → ClsI X.K C) (hm : X.mg "isinstance" = none) (hm2 : X.mg (Str.ofString t) = none)
    (hv2 : bootBuiltins (Str.ofString t) = some (.type t)) (ha : PF X ah E e a) (hg : Gl X "isinstance" := by rfl) (hg2 : Gl X (Str.ofString t) := by rfl) (hn2 : Str.ofString t ≠ "__name__" := by decide +kernel) (hd2 : (Str.ofString t == ("__debug__" : Str)) = false := by decide +kernel)
    (he : starEach [e, .Name (Str.ofString t) p2] X.env = (false, eval e X.env) :: starEach [.Name (Str.ofString t) p2] X.env := by rfl) (he2 : starEach [.Name (Str.ofString t) p2] X.env = (false, eval (.Name (Str.ofString t) p2) X.env) :: starEach [] X.env := by rfl) (hpl : (backTo pos (starEach [.Name (Str.ofString t) p2] X.env)).any (·.1) = false := by rfl) :
    PF X ah E (.Call (.Name "isinstance" p) [e, .Name (Str.ofString t) p2] [] pos) (cIs t a) := by
  obtain ⟨u, q, s⟩ := ha
  refine ⟨_, pe_callB call_isi hg hm (by decide +kernel) (pa_cons q (pa_cons (pe_bltn (v := .ty t) hg2 hm2 hv2 rfl hn2 hd2) pa_nil he2) he) (by decide) (by decide) he hpl, ?_⟩
  exact re_isTy (c := dc X ah) ht ho s

/-! ### what a def promises: its value is Fn's -/
def spF (K : PySem.W.Frag) (mg : Str → Option Value) (n : Nat) (Fn : List D → Gh → M D) : Sp := fun vs H Q E => ∃ ah S g ds, ds.length = n ∧ Rep ⟨⟨K, mg, ah⟩, H, S⟩ [] g [] H S ∧ Dns ⟨K, mg, ah⟩ S vs ds ∧ Got Dn ⟨⟨K, mg, ah⟩, H, S⟩ [] [] S E Q (Fn ds g)
def DefOk (P : Program) (w : World) (K : PySem.W.Frag) (mg : Str → Option Value) (base : Heap) (CX : CXT) (x : Str) (k n : Nat) (Fn : List D → Gh → M D) : Prop :=
  ∃ f fd ps, FnOk P w K mg base CX k f fd ps (spF K mg n Fn) ∧ mg x = some (.ref f) ∧ PySem.W.keepIn K (.ref f) = true ∧ Binds K fd ps []
@[simp] def noX {α : Type} : M α → M α
  | some (.ok a g) => some (.ok a g)
  | _ => none
@[simp] def cFn (n : Nat) (Fn : List D → Gh → M D) (a : FA) : FE := fun ρ g => (a ρ g).bd fun xs g1 => if xs.length = n then noX (Fn xs g1) else none
theorem Got.frame {F : Fx} {ρ g σ H S} {Q : VK} {E : XK} {m : M D} (R : Rep F ρ g σ H S) (G : Got Dn F ρ σ S E Q m) : Got Dn ⟨F.c, H, S⟩ [] [] S E Q m := by
  cases m with
  | none => exact G
  | some o => cases o with
    | ok d g1 => exact fun b H' S' sm B h => G b H' S' sm (R.back sm B) h
    | ex cc ks ds g1 => exact fun A dd H' S' m sm B x => G A dd H' S' m sm (R.bare.back sm B) x
theorem Got.noX {F : Fx} {ρ σ S} {Q : VK} {E : XK} {m : M D} (G : Got Dn F ρ σ S E Q (noX m)) : Got Dn F ρ σ S E0 Q m := by
  cases m with
  | none => exact G
  | some o => cases o with
    | ok d g1 => exact G
    | ex cc ks ds g1 => exact G.elim
theorem re_fn {n : Nat} {Fn : List D → Gh → M D} {t : TA} {a : FA} (ha : RA c E t a) : RE c E (tCall (spF c.K c.mg n Fn) [] E0 t) (cFn n Fn a) := by
  refine RG.bind (r := fun σ vs H1 (Q : VK) => spF c.K c.mg n Fn (vs ++ []) H1 Q E0) (k := fun ρ xs g1 => if xs.length = n then FD.noX (Fn xs g1) else none) ha fun F ρ g σ H S Q vs ds e R hx G => ?_
  by_cases hl : ds.length = n
  case neg => rw [if_neg hl] at G; exact G.elim
  rw [if_pos hl] at G
  subst e
  exact ⟨F.c.ah, S, g, ds, hl, R.sub_frame, by rw [List.append_nil]; exact hx, Got.frame R G.noX⟩
theorem pf_call {x : Str} {k n : Nat} {Fn : List D → Gh → M D} {e : Expr} {es : List Expr} {a : FA} {p pos : Pos} (G : DefOk X.prog X.w X.K X.mg X.base CX0 x k n Fn) (hr : Room k X.A) (ha : PFA X ah E (e :: es) a) (hg : Gl X x := by rfl) (hdb : (x == ("__debug__" : Str)) = false := by decide)
    (he : starEach (e :: es) X.env = (false, eval e X.env) :: starEach es X.env := by rfl) (hpl : (backTo pos (starEach es X.env)).any (·.1) = false := by rfl) : PF X ah E (.Call (.Name x p) (e :: es) [] pos) (cFn n Fn a) := by
  obtain ⟨f, fd, ps, F, hm, hk, hb⟩ := G
  obtain ⟨t, q, s⟩ := ha
  exact ⟨_, pe_call F hr hg hm hk hb .nil pass0 q hdb he hpl, re_fn (c := dc X ah) s⟩
theorem DefOk.mono {P w K mg base CX x j k n Fn} (h : DefOk P w K mg base CX x j n Fn) (l : j ≤ k) : DefOk P w K mg base CX x k n Fn := by
  obtain ⟨f, fd, ps, F, r⟩ := h
  exact ⟨f, fd, ps, F.mono l, r⟩

end
section
variable {X : Cx} {ah : Option Addr} {E : XK} {c : DC}
/-- a body's value -/
def fnOf (N : Nat) (b : FS) (ds : List D) (g : Gh) : M D := match b (ds.map .dt ++ List.replicate (N - ds.length) .un) g with
  | some (.ok (.rt d) g1) => some (.ok d g1)
  | some (.ok (.nx _) g1) => some (.ok .non g1)
  | some (.ex c ks es g1) => some (.ex c ks es g1)
  | _ => none
theorem Rep.start {K : PySem.W.Frag} {mg : Str → Option Value} {ah : Option Addr} {H S : Hp} {g : Gh} {vs : List V} {ds : List D} {N : List Str} (R : Rep ⟨⟨K, mg, ah⟩, H, S⟩ [] g [] H S) (h : Dns ⟨K, mg, ah⟩ S vs ds) (hl : ds.length ≤ N.length) :
    Rep ⟨⟨K, mg, ah⟩, H, S⟩ (ds.map .dt ++ List.replicate (N.length - ds.length) .un) g (start N vs) H S := by
  have len := h.length
  refine R.forget (fun i e hi => ?_) fun i j p xs ys h1 => ?_
  · by_cases hlt : i < ds.length
    · rw [List.getElem?_append_left (by simpa using hlt), List.getElem?_map, Option.map_eq_some_iff] at hi
      obtain ⟨d, h1, rfl⟩ := hi
      obtain ⟨v, h2, h3⟩ := h.get h1
      refine ⟨some v, ?_, v, rfl, h3⟩
      unfold L2.start
      rw [List.getElem?_append_left (by simpa [len] using hlt), List.getElem?_map, h2]
      rfl
    · have hge : ds.length ≤ i := Nat.le_of_not_lt hlt
      rw [List.getElem?_append_right (by simpa using hge), List.length_map, List.getElem?_replicate] at hi
      split at hi
      · rename_i hr
        cases hi
        refine ⟨none, ?_, trivial⟩
        unfold L2.start
        rw [List.getElem?_append_right (by simpa [len] using hge), List.length_map, List.getElem?_replicate, len, if_pos hr]
      · cases hi
  · by_cases hlt : i < ds.length
    · rw [List.getElem?_append_left (by simpa using hlt), List.getElem?_map, Option.map_eq_some_iff] at h1
      obtain ⟨d, _, h2⟩ := h1
      cases h2
    · rw [List.getElem?_append_right (by simpa using Nat.le_of_not_lt hlt), List.getElem?_replicate] at h1
      split at h1 <;> cases h1
/-- a def of the text by its body's function -/
theorem fd_ok {P : Program} {w : World} {K : PySem.W.Frag} {mg : Str → Option Value} {base : Heap} {x qual : Str} {st : Stmt} {f : Addr} {fd : FuncData} {N ps : List Str} {k n : Nat} {b : FS} (F : Fun K x qual st f fd) (Sc : FnScope N ps (defScope st)) (hn : ps.length = n) (hN : n ≤ N.length)
    (hb : ∀ (cdv : Value) (A : Around) (outer : List Env) (s : Shared) (H : Hp) (E : XK) (ah : Option Addr), Room k (A.deeper (envOfC qual (defScope st) s.heap.objs.size f cdv)) → PFSs ((cxOf CX0 P w K mg base N qual (defScope st) f cdv A outer s H E).nox) ah E0 (defBody st) b) :
    FnOk P w K mg base CX0 (k + 1) f fd ps (spF K mg n fun ds g => noX (fnOf N.length b ds g)) := by
  refine F.ok Sc (fun vs H Q E h => ?_) (fun cdv A outer s H vs Q E hr h => ?_)
  · obtain ⟨ah, S, g, ds, hl, R, hv, G⟩ := h
    rw [hv.length, hl, hn]
  · obtain ⟨ah, S, g, ds, hl, R, hv, G⟩ := h
    obtain ⟨t, p, r⟩ := hb cdv A outer s H E ah hr
    refine ⟨t, p, r.run ⟨⟨K, mg, ah⟩, H, S⟩ _ g _ H S _ rfl (Rep.start R hv (by omega)) ?_⟩
    have G : Got Dn ⟨⟨K, mg, ah⟩, H, S⟩ [] [] S E Q (FD.noX (fnOf N.length b ds g)) := G
    unfold fnOf at G
    cases h : b (ds.map .dt ++ List.replicate (N.length - ds.length) .un) g with
    | none => rw [h] at G; exact G
    | some o => cases o with
      | ok fl g1 => cases fl with
        | nx ρ => rw [h] at G; exact fun σ' H' S' sm R' => G .non H' S' sm R'.bare .non
        | rt d => rw [h] at G; exact fun v H' S' sm R' hd => G v H' S' sm R' hd
        | bk ρ => rw [h] at G; exact G.elim
        | ct ρ => rw [h] at G; exact G.elim
      | ex cc ks es g1 => rw [h] at G; exact G.elim

/-! ### lists that a name alone holds -/
/-- x = [] -/
@[simp] def sOwn (i : Nat) : FS := fun ρ g => some (.ok (.nx (ρ.set i (.own []))) g)
theorem pfs_own0 (i : Nat) {x : Str} {pos pos' lpos : Pos} (hN : X.N.Nodup) (hi : X.N[i]? = some x := by rfl) (hx : Loc X.env.scope x := by first | exact Or.inl rfl | exact Or.inr rfl) (hs : swapsWith (.List [] lpos) (some (.Name x pos')) pos.line X.env = pure false := by rfl)
    (hf : X.fn x = true ∨ X.env.scope.names.lookup x = some .local := by first | exact .inl rfl | exact .inr rfl) : PFS X ah E (.Assign [.Name x pos'] (.List [] lpos) pos) (sOwn i) := by
  refine ⟨_, ps_set hN hi hx (pe_lst pa_nil) hs hf, ⟨fun F ρ g σ H S Z e R G => ?_⟩⟩
  exact ⟨Nat.zero_le _, fun p hp => G _ _ S (Same.refl S) (R.setOwn i hp .nil)⟩
/-- x.append(e) -/
@[simp] def sApp (i : Nat) (a : FE) : FS := fun ρ g => match ρ[i]? with
  | some (.own xs) => (a ρ g).bd fun y g1 => if xs.length ≤ 1000 then some (.ok (.nx (ρ.set i (.own (xs ++ [y])))) g1) else none
  | _ => none
theorem pfs_app (i : Nat) {x : Str} {e : Expr} {a : FE} {p1 p2 p3 pos : Pos} (ha : PF X ah (fun _ => E) e a) (hN : X.N[i]? = some x := by rfl) (hv : Vis X.env.scope x := by first | exact Or.inl rfl | exact Or.inr (Or.inl rfl) | exact Or.inr (Or.inr rfl)) (hd : (x == ("__debug__" : Str)) = false := by decide)
    (hcd : (x == ("__classdict__" : Str)) = false := by decide)
    (hbase : attributeBase (.Name x p1) "append" X.env (eval (.Name x p1) X.env) = eval (.Name x p1) X.env := by rfl)
    (hfew : ((backTo p3 (starEach [e] X.env)).all (fun x => !x.1) && (backToKw p3 (keywordEach [] X.env)).all (fun x => x.1.isSome)
      && decide ([e].length + ([] : List Keyword).length + (if ([] : List Keyword).isEmpty then 0 else 1) < 30)) = true := by rfl)
    (hline : (p2.endLine == p3.line) = true := by rfl) (hst : starEach [e] X.env = (false, eval e X.env) :: starEach [] X.env := by rfl) (hplain : (backTo p3 (starEach [] X.env)).any (·.1) = false := by rfl)
    (hs : swapsWith (.Call (.Attribute (.Name x p1) "append" p2) [e] [] p3) none pos.line X.env = pure false := by rfl) : PFS X ah E (.Expr (.Call (.Attribute (.Name x p1) "append" p2) [e] [] p3) pos) (sApp i a) := by
  obtain ⟨t, q, r⟩ := ha
  refine ⟨_, ps_expr (pe_bm PySem.F.plainAttrs_list PySem.F.slot_list_append PySem.F.type_list_append mt_append (pe_var hN hv hd hcd) (pa_cons q pa_nil hst) hbase hfew hline hst hplain) hs, ⟨fun F ρ g σ H S Z e R G => ?_⟩⟩
  simp only [sApp] at G
  split at G
  case h_2 => exact G.elim
  rename_i xs hi
  obtain ⟨so, h1, p, vs, rfl, h2, h3, h4, h5, h6⟩ := R.slots i _ hi
  refine ⟨.ref p, h1, .inl ⟨rfl, _, SqL.of h5⟩, ?_⟩
  refine r.stepS e R G fun H1 S1 g1 y d sm R1 hy G => ?_
  obtain ⟨so, k1, p', ws, k0, k2, k3, k4, k5, k6⟩ := R1.slots i _ hi
  rw [h1] at k1; cases k1; cases k0
  by_cases hl : xs.length ≤ 1000
  case neg => rw [if_neg hl] at G; exact G.elim
  rw [if_pos hl] at G
  exact ⟨p, ws, y, rfl, rfl, k5, by rw [k6.length]; exact small1000 hl, G _ _ S1 (Same.refl _) (R1.writeOwn hi h1 (k6.append (.cons (e ▸ hy) .nil)))⟩
/-- the list that slot i alone holds is data from now on -/
@[simp] def sFrz (i : Nat) (b : FS) : FS := fun ρ g => match ρ[i]? with
  | some (.own xs) => b (ρ.set i (.dt (.lst xs))) g
  | _ => none
theorem pfss_frz (i : Nat) {s : List Stmt} {b : FS} (h : PFSs X ah E s b) : PFSs X ah E s (sFrz i b) := by
  obtain ⟨t, p, r⟩ := h
  refine ⟨t, p, ⟨fun F ρ g σ H S Z e R G => ?_⟩⟩
  simp only [sFrz] at G
  split at G
  case h_2 => exact G.elim
  rename_i xs hi
  obtain ⟨S', sm, R'⟩ := R.freeze hi
  exact r.run F _ g σ H S' Z e R' (G.mono sm)

end
section
variable {X : Cx} {ah : Option Addr} {E : L2.St → XK} {c : DC}
/-! ### attributes -/
def fldD (f : Str) : D → Option D
  | .obj c ks ds => if c = "Play" then (ks.zip ds).lookup f else none
  | _ => none
theorem lookup_Dn {S : Hp} : ∀ {fs : List (Str × V)} {ks : List Str} {ds : List D} {f : Str} {d : D}, fs.map (·.1) = ks → Dns c S (fs.map (·.2)) ds → (ks.zip ds).lookup f = some d → ∃ v, fs.lookup f = some v ∧ Dn c S v d
  | [], _, _, f, d, rfl, h, e => by cases h; simp [List.lookup] at e
  | (k, v) :: fs, _, _, f, d, rfl, h, e => by
    cases h with
    | cons h hs =>
      simp only [List.map_cons, List.zip_cons_cons, List.lookup_cons] at e ⊢
      split at e
      · cases e
        exact ⟨v, by simp_all, h⟩
      · rename_i hk
        obtain ⟨w, h1, h2⟩ := lookup_Dn rfl hs e
        exact ⟨w, by simp_all, h2⟩
theorem pf_fld {f : Str} {e : Expr} {a : FE} {pos : Pos} (ho : ∀ C, X.mg "Play" = some (.ref C) → Cls X.K C ∧ NoAttr X.K C f) (ha : PF X ah E e a) (hb : attributeBase e f X.env (eval e X.env) = eval e X.env := by rfl) : PF X ah E (.Attribute e f pos) (c1 (fldD f) a) := by
  obtain ⟨t, p, r⟩ := ha
  refine ⟨_, pe_fld p hb, ?_⟩
  refine RG.bind (r := fun σ x H1 (Q : VK) => ∃ a C dx fs v, x = .ref a ∧ H1 a = some (.ins C dx fs) ∧ Cls X.K C ∧ NoAttr X.K C f ∧ fs.lookup f = some v ∧ Q v H1) (k := fun ρ x g1 => lift (fldD f x) g1) r fun F ρ g σ H S Q x d e R hx G => ?_
  cases hx with
  | obj m h k hs =>
    rename_i cn fs ks ds
    simp only [fldD] at G
    by_cases hc : cn = "Play"
    case neg => rw [if_neg hc] at G; exact G.elim
    rw [if_pos hc] at G
    subst hc
    cases q : (ks.zip ds).lookup f with
    | none => rw [q] at G; exact G.elim
    | some d =>
      rw [q] at G
      obtain ⟨v, h1, h2⟩ := lookup_Dn k hs q
      obtain ⟨c1, c2⟩ := ho _ m
      exact ⟨_, _, _, _, v, rfl, R.sub _ _ h, c1, c2, h1, G.ret R (e ▸ h2)⟩
  | _ => simp only [fldD, lift] at G; exact G.elim
end
end FD
set_option Elab.async false
set_option linter.all false
set_option maxRecDepth 100000
set_option maxHeartbeats 2000000
namespace FD
open PySem L2 PyProof.Rows
/-! ### own errors with one field -/
/-- __init__ of such an error, at the class C, keeping the field f -/
def spExI (C : Addr) (f : Str) : Sp := fun vs H Q _ => ∃ (a : Addr) (v : V), vs = [.ref a, v] ∧ H a = some (exo a C none) ∧ ∀ dx, H dx = none → dx ≠ a → Q .non (upd (upd H dx (exd dx [(f, v)])) a (exo a C (some dx)))
def ExcOk (P : Program) (w : World) (K : PySem.W.Frag) (mg : Str → Option Value) (base : Heap) (x f : Str) : Prop :=
  ∃ C fI fd ps, mg x = some (.ref C) ∧ OexC K C ∧ XfC K C ∧ PySem.W.findIn K (.ref C) f = some none ∧ PySem.W.findIn K (.ref C) "__init__" = some (some (.ref fI)) ∧ PySem.W.typeIn K (.ref fI) = some (.type "function") ∧ FnOk P w K mg base CX0 1 fI fd ps (spExI C f) ∧ Binds K fd ps [] ∧ PySem.W.exmOne K (.ref C) (.ref C) = some true
section
variable {X : Cx} {ah : Option Addr} {E : XK} {c : DC}
/-- self.f = p, the whole body -/
theorem exc_init {P : Program} {w : World} {K : PySem.W.Frag} {mg : Str → Option Value} {base : Heap} {qual f p : Str} {st : Stmt} {fI C : Addr} {fd : FuncData} {p1 p2 p3 p4 : Pos} (F : Fun K "__init__" qual st fI fd) (T : OexC K C) (hno : PySem.W.findIn K (.ref C) f = some none)
    (Sc : FnScope ["self", p] ["self", p] (defScope st)) (hb : defBody st = [.Assign [.Attribute (.Name "self" p1) f p2] (.Name p p3) p4]) (h1 : (defScope st).names.lookup ("self" : Str) = some .local) (h2 : (defScope st).names.lookup p = some .local)
    (hd : (p == ("__debug__" : Str)) = false) (hcd : (p == ("__classdict__" : Str)) = false) : FnOk P w K mg base CX0 1 fI fd ["self", p] (spExI C f) := by
  refine F.ok Sc (fun vs H Q E h => ?_) (fun cdv A outer s H vs Q E hr h => ?_)
  · obtain ⟨a, v, rfl, _⟩ := h
    rfl
  · obtain ⟨a, v, rfl, ha, k⟩ := h
    rw [hb]
    refine ⟨_, pss_one (ps_ost (pe_var (i := 0) rfl (.inl h1) (by decide) (by decide)) (pe_var (i := 1) rfl (.inl h2) hd hcd)), ?_⟩
    exact ⟨v, rfl, .ref a, rfl, a, C, rfl, T, hno, .inl ⟨ha, fun dx n ne => k dx n ne⟩⟩
theorem del_eq {H : Hp} {a dx : Addr} {f : Str} {v : V} {C : Addr} (ha : H a = none) (ne : dx ≠ a) : upd (del (upd (upd (upd H a (exo a C none)) dx (exd dx [(f, v)])) a (exo a C (some dx))) a) dx (.xd [(f, v)]) = upd H dx (.xd [(f, v)]) := by
  funext b
  by_cases hb : b = dx
  · subst hb; rw [upd_same, upd_same]
  · rw [upd_ne hb, upd_ne hb]
    by_cases hb2 : b = a
    · subst hb2; rw [del_same, ha]
    · rw [del_ne hb2, upd_ne hb2, upd_ne hb, upd_ne hb2]
/-- raise X(e) -/
@[simp] def sRaise (x f : Str) (a : FE) : FS := fun ρ g => (a ρ g).bd fun y g1 => some (.ex x [f] [y] g1)
theorem pfs_raise {x f : Str} {e : Expr} {a : FE} {p pos rpos : Pos} (hc : X.calm = true) (tk : Takes X (fun cls d _ H => E cls d H)) (G : ExcOk X.prog X.w X.K X.mg X.base x f) (hr : Room 2 X.A) (ha : PF X ah (fun _ => E) e a) (hg : Gl X x := by rfl) (hdb : (x == ("__debug__" : Str)) = false := by decide)
    (he : starEach (e :: []) X.env = (false, eval e X.env) :: starEach [] X.env := by rfl) (hpl : (backTo pos (starEach [] X.env)).any (·.1) = false := by rfl) : PFS X ah E (.Raise (some (.Call (.Name x p) [e] [] pos)) none rpos) (sRaise x f a) := by
  obtain ⟨C, fI, fd, ps, hm, T, _, _, iC, tI, F, hb, _⟩ := G
  obtain ⟨t, q, r⟩ := ha
  refine ⟨_, ps_raise hc tk (pmk_oex (p := p) (CX := CX0) T iC tI F hr hb .nil pass0 hg hm (pa_cons q pa_nil he) hdb he hpl), ⟨fun F ρ g σ H S Z e R G => ?_⟩⟩
  refine (show t σ H fun x H1 => ([x] : List V).length ≤ 1000 ∧ ∀ a, H1 a = none → spExI C f (.ref a :: ([x] ++ [])) (upd H1 a (exo a C none))
    (fun v H2 => v = .non ∧ ∃ (d : Addr) (fs : List (Str × V)), H2 a = some (exo a C (some d)) ∧ H2 d = some (exd d fs) ∧ H1 d = none ∧ E (.ref C) (some d) (upd (del H2 a) d (.xd fs))) (fun _ _ _ => False) from ?_)
  refine r.stepS e R G fun H1 S1 g1 v d sm R1 hv G => ?_
  refine ⟨by simp, fun a na => ⟨a, v, rfl, upd_same, fun dx n ne => ⟨rfl, dx, [(f, v)], ?_, ?_, ?_, ?_⟩⟩⟩
  · exact upd_same
  · rw [upd_ne ne, upd_same]
  · rw [upd_ne ne] at n; exact n
  · rw [upd_ne ne] at n
    rw [del_eq na ne]
    refine G C (some dx) _ (upd S1 dx (.xd [(f, v)])) (by rw [e]; exact hm) (R1.tosame _ n) (R1.bare.up _ n) ⟨[(f, v)], upd_same, rfl, .cons ?_ .nil⟩
    rw [e]
    exact hv.mono (R1.tosame _ n)
/-- a def of the text that may raise -/
theorem fd_okX {P : Program} {w : World} {K : PySem.W.Frag} {mg : Str → Option Value} {base : Heap} {x qual : Str} {st : Stmt} {f : Addr} {fd : FuncData} {N ps : List Str} {k n : Nat} {b : FS} (F : Fun K x qual st f fd) (Sc : FnScope N ps (defScope st)) (hn : ps.length = n) (hN : n ≤ N.length)
    (hb : ∀ (cdv : Value) (A : Around) (outer : List Env) (s : Shared) (H : Hp) (E : XK) (ah : Option Addr), Room k (A.deeper (envOfC qual (defScope st) s.heap.objs.size f cdv)) → PFSs (cxOf (L2.CX P w) P w K mg base N qual (defScope st) f cdv A outer s H E) ah E (defBody st) b) :
    FnOk P w K mg base (L2.CX P w) (k + 1) f fd ps (spF K mg n fun ds g => fnOf N.length b ds g) := by
  refine F.okX Sc (fun vs H Q E h => ?_) (fun cdv A outer s H vs Q E hr h => ?_)
  · obtain ⟨ah, S, g, ds, hl, R, hv, G⟩ := h
    rw [hv.length, hl, hn]
  · obtain ⟨ah, S, g, ds, hl, R, hv, G⟩ := h
    obtain ⟨t, p, r⟩ := hb cdv A outer s H E ah hr
    refine ⟨t, p, r.run ⟨⟨K, mg, ah⟩, H, S⟩ _ g _ H S _ rfl (Rep.start R hv (by omega)) ?_⟩
    have G : Got Dn ⟨⟨K, mg, ah⟩, H, S⟩ [] [] S E Q (fnOf N.length b ds g) := G
    unfold fnOf at G
    cases h : b (ds.map .dt ++ List.replicate (N.length - ds.length) .un) g with
    | none => rw [h] at G; exact G
    | some o => cases o with
      | ok fl g1 => cases fl with
        | nx ρ => rw [h] at G; exact fun σ' H' S' sm R' => G .non H' S' sm R'.bare .non
        | rt d => rw [h] at G; exact fun v H' S' sm R' hd => G v H' S' sm R' hd
        | bk ρ => rw [h] at G; exact G.elim
        | ct ρ => rw [h] at G; exact G.elim
      | ex cc ks es g1 => rw [h] at G; exact G
theorem passes0 {X : Cx} : Passes (L2.CX X.prog X.w) X E0 := fun _ _ _ _ _ _ _ ⟨_, _, _, _, _, _, _, _, _, _, _, _, h⟩ => h.elim
/-- a call of a def that may raise, where it does not -/
theorem pf_callN {E : L2.St → XK} {x : Str} {k n : Nat} {Fn : List D → Gh → M D} {e : Expr} {es : List Expr} {a : FA} {p pos : Pos} (G : DefOk X.prog X.w X.K X.mg X.base (L2.CX X.prog X.w) x k n Fn) (hr : Room k X.A) (ha : PFA X ah E (e :: es) a) (hg : Gl X x := by rfl) (hdb : (x == ("__debug__" : Str)) = false := by decide)
    (he : starEach (e :: es) X.env = (false, eval e X.env) :: starEach es X.env := by rfl) (hpl : (backTo pos (starEach es X.env)).any (·.1) = false := by rfl) : PF X ah E (.Call (.Name x p) (e :: es) [] pos) (cFn n Fn a) := by
  obtain ⟨f, fd, ps, F, hm, hk, hb⟩ := G
  obtain ⟨t, q, s⟩ := ha
  exact ⟨_, pe_call F hr hg hm hk hb .nil passes0 q hdb he hpl, re_fn (c := dc X ah) s⟩

/-! ### things of the class Play -/
/-- what its __init__ promises: Fn tells the thing, or the error -/
def spMk (K : PySem.W.Frag) (mg : Str → Option Value) (C : Addr) (n : Nat) (Fn : List D → Gh → M D) : Sp := fun vs H Q E => ∃ ah S g a dx vs' ds, vs = .ref a :: vs' ∧ ds.length = n ∧ H a = some (.ins C dx []) ∧ S a = none ∧ Rep ⟨⟨K, mg, ah⟩, H, S⟩ [] g [] H S ∧ Dns ⟨K, mg, ah⟩ S vs' ds ∧ ah ≠ some a ∧
  match Fn ds g with
  | none => False
  | some (.ok d g') => ∀ H' S' fs, Same S S' → H' a = some (.ins C dx fs) → S' a = none → Rep ⟨⟨K, mg, ah⟩, (fun b => if b = a then none else H b), S⟩ [] g' [] H' S' → (∃ c ks es, d = .obj c ks es ∧ mg c = some (.ref C) ∧ fs.map (·.1) = ks ∧ Dns ⟨K, mg, ah⟩ S' (fs.map (·.2)) es) → Q .non H'
  | some (.ex c ks es g') => GotX ⟨⟨K, mg, ah⟩, (fun b => if b = a then none else H b), S⟩ S E c ks es g'
def MkOk (P : Program) (w : World) (K : PySem.W.Frag) (mg : Str → Option Value) (base : Heap) (x : Str) (k n : Nat) (Fn : List D → Gh → M D) : Prop :=
  ∃ C f fd ps, FnOk P w K mg base (L2.CX P w) k f fd ps (spMk K mg C n Fn) ∧ mg x = some (.ref C) ∧ Mk K C f ∧ Binds K fd ps []
theorem re_mk {E : L2.St → XK} {C : Addr} {n : Nat} {Fn : List D → Gh → M D} {t : TA} {a : FA} (ha : RA c E t a) : RE c E (tMake C (spMk c.K c.mg C n Fn) [] E0 t) (cFn n Fn a) := by
  refine RG.bind (r := fun σ vs H1 (Q : VK) => ∀ x dx, H1 x = none → H1 dx = none → dx ≠ x →
    spMk c.K c.mg C n Fn (.ref x :: (vs ++ [])) (upd (upd H1 dx (.own x)) x (.ins C dx [])) (fun v H2 => v = .non ∧ Q (.ref x) H2) E0) (k := fun ρ xs g1 => if xs.length = n then FD.noX (Fn xs g1) else none) ha fun F ρ g σ H S Q vs ds e R hx G => ?_
  intro x dx nx ndx ne
  by_cases hl : ds.length = n
  case neg => rw [if_neg hl] at G; exact G.elim
  rw [if_pos hl] at G
  subst e
  have R0 := R.sub_frame
  have sx : S x = none := R.sub.free nx
  have sdx : S dx = none := R.sub.free ndx
  have nxa := R.new_ah nx
  have ndxa := R.new_ah ndx
  -- the heap with the new thing
  have R1 : Rep ⟨F.c, H, S⟩ [] g [] (upd (upd H dx (.own x)) x (.ins C dx [])) S := by
    refine (R0.write1 sdx ndx ndxa).write1 sx ?_ nxa
    exact nx
  refine ⟨F.c.ah, S, g, x, dx, vs, ds, by rw [List.append_nil], hl, upd_same, sx, ?_, hx, nxa, ?_⟩
  · exact R1.sub_frame
  · have back : ∀ {g' H' S'}, Same S S' → Rep ⟨F.c, (fun b => if b = x then none else upd (upd H dx (.own x)) x (.ins C dx []) b), S⟩ [] g' [] H' S' → Rep ⟨F.c, H, S⟩ [] g' [] H' S' := fun {g' H' S'} sm B => by
      refine ⟨B.sub, B.hand, fun b o h1 h2 => B.keep b o ?_ h2, fun b h1 h2 => B.stay b ?_ h2, fun i e h => by simp at h, fun i j p xs ys h => by simp at h⟩
      · have n1 : b ≠ x := ne_of_none h1 nx
        have n2 : b ≠ dx := ne_of_none h1 ndx
        show (if b = x then none else upd (upd H dx (.own x)) x (.ins C dx []) b) = some o
        rw [if_neg n1, upd_ne n1, upd_ne n2]; exact h1
      · have n1 : b ≠ x := fun z => h1 (by rw [z]; exact nx)
        have n2 : b ≠ dx := fun z => h1 (by rw [z]; exact ndx)
        show (if b = x then none else upd (upd H dx (.own x)) x (.ins C dx []) b) ≠ none
        rw [if_neg n1, upd_ne n1, upd_ne n2]; exact h1
    cases h : Fn ds g with
    | none => rw [h] at G; exact G
    | some o => cases o with
      | ex cc ks es g1 => rw [h] at G; exact G.elim
      | ok d g1 =>
        rw [h] at G
        intro H' S' fs sm hx' hs' B ⟨cn, ks, es, ed, hm, hk, hv⟩
        subst ed
        have B' := back sm B
        refine ⟨rfl, ?_⟩
        -- from now on the thing stands
        have B2 : Rep ⟨F.c, H, S⟩ [] g1 [] H' (upd S' x (.ins C dx fs)) := by
          have sm' : Same S' (upd S' x (.ins C dx fs)) := Same.upd_new hs'
          refine ⟨fun b o e => ?_, ?_, B'.keep, fun b e h => ?_, fun i e h => by simp at h, fun i j p xs ys h => by simp at h⟩
          · by_cases hb : b = x
            · subst hb; rw [upd_same] at e; cases e; exact hx'
            · rw [upd_ne hb] at e; exact B'.sub _ _ e
          · have h := B'.hand
            unfold HandAt at h ⊢
            cases ea : F.c.ah with
            | none => trivial
            | some a =>
              simp only [ea] at h
              obtain ⟨k1, q, k2, k3⟩ := h
              have ne : a ≠ x := fun z => nxa (by rw [ea, z])
              exact ⟨by rw [upd_ne ne]; exact k1, q, k2, sm' _ _ k3⟩
          · have n1 : b ≠ x := fun z => e (by rw [z]; exact nx)
            rw [upd_ne n1]; exact B'.stay b e h
        refine G (.ref x) H' _ (sm.trans (Same.upd_new hs')) (R.back (sm.trans (Same.upd_new hs')) B2) ?_
        exact .obj hm upd_same hk (hv.mono (Same.upd_new hs'))
theorem pf_mk {E : L2.St → XK} {x : Str} {k n : Nat} {Fn : List D → Gh → M D} {e : Expr} {es : List Expr} {a : FA} {p pos : Pos} (G : MkOk X.prog X.w X.K X.mg X.base x k n Fn) (hr : Room (k + 1) X.A) (ha : PFA X ah E (e :: es) a) (hg : Gl X x := by rfl) (hdb : (x == ("__debug__" : Str)) = false := by decide)
    (he : starEach (e :: es) X.env = (false, eval e X.env) :: starEach es X.env := by rfl) (hpl : (backTo pos (starEach es X.env)).any (·.1) = false := by rfl) : PF X ah E (.Call (.Name x p) (e :: es) [] pos) (cFn n Fn a) := by
  obtain ⟨C, f, fd, ps, F, hm, M, hb⟩ := G
  obtain ⟨t, q, s⟩ := ha
  exact ⟨_, pe_make M F hr hg hm hb .nil passes0 q hdb he hpl, re_mk (c := dc X ah) s⟩
end
end FD
set_option Elab.async false
set_option linter.all false
set_option maxRecDepth 100000
set_option maxHeartbeats 2000000
namespace FD
open PySem L2 PyProof.Rows
/-! ### the drawing hand -/
def handV (q : Addr) (g : Gh) : List V := [.ref q, .int g.i, .int g.c, .int g.r, .int g.n]
theorem Rep.hand_at {F : Fx} {ρ g σ H S} (R : Rep F ρ g σ H S) {a : Addr} (e : F.c.ah = some a) : ∃ q, H a = some (.lst (handV q g)) ∧ S q = some (.lst (g.xs.map V.int)) ∧ S a = none := by
  have h := R.hand
  unfold HandAt at h
  rw [e] at h
  obtain ⟨h1, q, h2, h3⟩ := h
  exact ⟨q, h2, h3, h1⟩
theorem Dns.ints {c : DC} {S : Hp} : ∀ xs : List Int, Dns c S (xs.map V.int) (xs.map D.int)
  | [] => .nil
  | x :: xs => .cons (.int x) (Dns.ints xs)
/-- the hand's things -/
def handD (k : Int) (g : Gh) : Option D :=
  if k = 0 then some (.lst (g.xs.map .int)) else if k = 1 then some (.int g.i) else if k = 2 then some (.int g.c) else if k = 3 then some (.int g.r) else if k = 4 then some (.int g.n) else none
@[simp] def cH (i : Nat) (k : Int) : FE := fun ρ g => match ρ[i]? with
  | some (.dt .hnd) => lift (handD k g) g
  | _ => none
section
variable {X : Cx} {ah : Option Addr} {c : DC}
theorem pf_h {E : L2.St → XK} (i : Nat) {k : Int} {x : Str} {p1 p2 pos : Pos} {j0} (hN : X.N[i]? = some x := by rfl) (hv : Vis X.env.scope x := by first | exact Or.inl rfl | exact Or.inr (Or.inl rfl) | exact Or.inr (Or.inr rfl)) (hd : (x == ("__debug__" : Str)) = false := by decide)
    (hcd : (x == ("__classdict__" : Str)) = false := by decide) (hs : PlainIx (.Constant (.int k) j0 p2) := by intro _ _; rfl) : PF X ah E (.Subscript (.Name x p1) (.Constant (.int k) j0 p2) pos) (cH i k) := by
  refine ⟨_, pe_ix ix_list (pe_var hN hv hd hcd) pe_int hs, ⟨fun F ρ g σ H S Q e R G => ?_⟩⟩
  simp only [cH] at G
  split at G
  case h_2 => exact G.elim
  rename_i hi
  obtain ⟨so, h1, v, rfl, hv⟩ := R.slots i _ hi
  cases hv with
  | hnd he =>
    rename_i a
    obtain ⟨q, hH, hS, hn⟩ := R.hand_at he
    unfold handD at G
    refine ⟨.ref a, h1, a, handV q g, k, ?_⟩
    by_cases k0 : k = 0
    · subst k0
      exact ⟨_, rfl, rfl, SqL.of hH, rfl, G.ret R (.lst hS (Dns.ints _))⟩
    rw [if_neg k0] at G
    by_cases k1 : k = 1
    · subst k1
      exact ⟨_, rfl, rfl, SqL.of hH, rfl, G.ret R (.int _)⟩
    rw [if_neg k1] at G
    by_cases k2 : k = 2
    · subst k2
      exact ⟨_, rfl, rfl, SqL.of hH, rfl, G.ret R (.int _)⟩
    rw [if_neg k2] at G
    by_cases k3 : k = 3
    · subst k3
      exact ⟨_, rfl, rfl, SqL.of hH, rfl, G.ret R (.int _)⟩
    rw [if_neg k3] at G
    by_cases k4 : k = 4
    · subst k4
      exact ⟨_, rfl, rfl, SqL.of hH, rfl, G.ret R (.int _)⟩
    rw [if_neg k4] at G
    exact G.elim
def handPut (k : Int) (v : Int) (g : Gh) : Option Gh :=
  if k = 1 then some { g with i := v } else if k = 2 then some { g with c := v } else if k = 3 then some { g with r := v } else if k = 4 then some { g with n := v } else none
theorem Rep.handWrite {F : Fx} {ρ g σ H S} (R : Rep F ρ g σ H S) {a q : Addr} {g' : Gh} (e : F.c.ah = some a) (hq : S q = some (.lst (g'.xs.map V.int))) : Rep F ρ g' σ (upd H a (.lst (handV q g'))) S := by
  obtain ⟨_, _, _, hn⟩ := R.hand_at e
  refine ⟨fun b o h => by rw [upd_ne (ne_of_none h hn)]; exact R.sub _ _ h, ?_, fun b o h1 h2 => ?_, R.stay, fun i en h => ?_, R.apart⟩
  · unfold HandAt
    rw [e]
    exact ⟨hn, q, upd_same, hq⟩
  · have ne : b ≠ a := fun z => h2 (by rw [e, z])
    rw [upd_ne ne]; exact R.keep b o h1 h2
  · obtain ⟨so, h1, h2⟩ := R.slots i en h
    refine ⟨so, h1, ?_⟩
    cases en with
    | un => trivial
    | dt d => exact h2
    | own ys =>
      obtain ⟨p, us, c1, c2, c3, c4, c5, c6⟩ := h2
      have ne : p ≠ a := fun z => c4 (by rw [e, z])
      exact ⟨p, us, c1, c2, c3, c4, by rw [upd_ne ne]; exact c5, c6⟩
@[simp] def sH (i : Nat) (k : Int) (a : FE) : FS := fun ρ g => match ρ[i]? with
  | some (.dt .hnd) => (a ρ g).bd fun y g1 => match y with
    | .int v => match handPut k v g1 with
      | some g2 => some (.ok (.nx ρ) g2)
      | none => none
    | _ => none
  | _ => none
theorem pfs_h {E : XK} (i : Nat) {k : Int} {x : Str} {e : Expr} {a : FE} {p1 p2 p3 pos : Pos} {j0} (ha : PF X ah (fun _ => E) e a) (hN : X.N[i]? = some x := by rfl) (hv : Vis X.env.scope x := by first | exact Or.inl rfl | exact Or.inr (Or.inl rfl) | exact Or.inr (Or.inr rfl)) (hd : (x == ("__debug__" : Str)) = false := by decide)
    (hcd : (x == ("__classdict__" : Str)) = false := by decide)
    (hsub : ∀ v, assign (.Subscript (.Name x p1) (.Constant (.int k) j0 p2) p3) X.env v = (do
      let ov ← holding [v] (eval (.Name x p1) X.env)
      let iv ← holding [v, ov] (eval (.Constant (.int k) j0 p2) X.env)
      standAt p3
      holding [v, ov, iv] (setItem ov iv v)
      release [v, ov, iv] []) := by intro _; rfl)
    (hs : swapsWithSole [.Subscript (.Name x p1) (.Constant (.int k) j0 p2) p3] e pos.line X.env = pure false := by rfl) (hw : swappedStores [.Subscript (.Name x p1) (.Constant (.int k) j0 p2) p3] e X.env = pure none := by rfl)
    (h1 : (assignEach [.Subscript (.Name x p1) (.Constant (.int k) j0 p2) p3] X.env).map (·.2) = [assign (.Subscript (.Name x p1) (.Constant (.int k) j0 p2) p3) X.env] := by rfl) :
    PFS X ah E (.Assign [.Subscript (.Name x p1) (.Constant (.int k) j0 p2) p3] e pos) (sH i k a) := by
  obtain ⟨t, q, r⟩ := ha
  refine ⟨_, ps_asg q (pg_sub (pe_var hN hv hd hcd) pe_int set_list hsub) hs hw h1, ⟨fun F ρ g σ H S Z e R G => ?_⟩⟩
  simp only [sH] at G
  split at G
  case h_2 => exact G.elim
  rename_i hi
  refine r.stepS e R G fun H1 S1 g1 y d sm R1 hy G => ?_
  split at G
  case h_2 => exact G.elim
  rename_i v
  cases hy.intE
  obtain ⟨so, h1, w, rfl, hw⟩ := R1.slots i _ hi
  cases hw with
  | hnd he =>
    rename_i a
    obtain ⟨q, hH, hS, hn⟩ := R1.hand_at he
    unfold handPut at G
    refine ⟨.ref a, h1, a, handV q g1, k, ?_⟩
    by_cases k1 : k = 1
    · subst k1
      exact ⟨1, rfl, rfl, hH, rfl, G _ _ S1 (Same.refl _) (R1.handWrite (g' := { g1 with i := v }) he hS)⟩
    rw [if_neg k1] at G
    by_cases k2 : k = 2
    · subst k2
      exact ⟨2, rfl, rfl, hH, rfl, G _ _ S1 (Same.refl _) (R1.handWrite (g' := { g1 with c := v }) he hS)⟩
    rw [if_neg k2] at G
    by_cases k3 : k = 3
    · subst k3
      exact ⟨3, rfl, rfl, hH, rfl, G _ _ S1 (Same.refl _) (R1.handWrite (g' := { g1 with r := v }) he hS)⟩
    rw [if_neg k3] at G
    by_cases k4 : k = 4
    · subst k4
      exact ⟨4, rfl, rfl, hH, rfl, G _ _ S1 (Same.refl _) (R1.handWrite (g' := { g1 with n := v }) he hS)⟩
    rw [if_neg k4] at G
    exact G.elim

/-! ### a list from a list of ints that is not tracked: _law_hand; and the law's first row -/
/-- what _law_hand promises -/
def spHand (K : PySem.W.Frag) : Sp := fun vs H Q _ => ∃ (a : Addr) (xs : List Int), vs = [.ref a] ∧ SqL K H a (xs.map V.int) ∧
  ∀ q, H q = none → ∀ p, upd H q (.lst (xs.map V.int)) p = none → Q (.ref p) (upd (upd H q (.lst (xs.map V.int))) p (.lst [.ref q, .int 0, .int 0, .int 1, .int 0]))
end
end FD
set_option Elab.async false
set_option linter.all false
set_option maxRecDepth 100000
set_option maxHeartbeats 4000000
namespace FD
open PySem L2 PyProof.Rows
section
variable {X : Cx} {ah : Option Addr} {E : L2.St → XK} {c : DC}
/-! ### a < b < c -/
@[simp] def cChain (o1 o2 : D → D → Option D) (a b cc : FE) : FE := fun ρ g => (a ρ g).bd fun x g1 => (b ρ g1).bd fun y g2 => match o1 x y with
  | some (.bl true) => (cc ρ g2).bd fun z g3 => lift (o2 y z) g3
  | some (.bl false) => some (.ok (.bl false) g2)
  | _ => none
/-- a rule whose answer is a flag and leaves all as it is -/
def FlagS (c : DC) (r : R2) (op : D → D → Option D) : Prop := ∀ S H x y dx dy, Same S H → Dn c S x dx → Dn c S y dy → ∀ d, op dx dy = some d → ∃ k, d = .bl k ∧ ∀ Q : VK, Q (.bl k) H → r x y H Q
theorem fs_int {p : Int → Int → Bool} : FlagS c (rI0 fun i j => .bl (p i j)) (intD fun i j => some (.bl (p i j))) := by
  intro S H x y dx dy sm hx hy d e
  cases hx with
  | int i =>
    cases hy with
    | int j =>
      simp only [intD] at e
      cases e
      exact ⟨p i j, rfl, fun Q q => ⟨i, j, rfl, rfl, q⟩⟩
    | _ => simp [intD] at e
  | _ => simp [intD] at e
theorem re_chain {r r' : R2} {o1 o2 : D → D → Option D} {ta tb tc : TE} {a b cc : FE} (h1 : FlagS c r o1) (h2 : OpS c r' o2) (ha : RE c E ta a) (hb : RE c E tb b) (hc : RE c E tc cc) : RE c E (tChain r r' ta tb tc) (cChain o1 o2 a b cc) := by
  refine RG.bind (r := fun σ x H1 (Q : VK) => tb σ H1 fun y H2 => r x y H2 fun z H3 => ∃ k, z = .bl k ∧ (if k = true then tc σ H3 fun w' H4 => r' y w' H4 Q else Q (.bl false) H3)) (k := fun ρ x g1 => (b ρ g1).bd fun y g2 => match o1 x y with
  | some (.bl true) => (cc ρ g2).bd fun z g3 => lift (o2 y z) g3
  | some (.bl false) => some (.ok (.bl false) g2)
  | _ => none) ha fun F ρ g σ H S Q x d e R hx G => ?_
  refine hb.step e R G fun H1 S1 g1 y dy sm R1 hy G => ?_
  split at G
  · rename_i e1
    obtain ⟨k, ek, hr⟩ := h1 S1 H1 x y d dy R1.sub (hx.mono sm) hy _ e1
    cases ek
    refine hr _ ⟨true, rfl, ?_⟩
    rw [if_pos rfl]
    refine hc.step e R1 G fun H2 S2 g2 z dz sm2 R2 hz G => ?_
    exact h2 (E σ) F ρ g2 σ H2 S2 Q y z dy dz e R2 (hy.mono sm2) hz G
  · rename_i e1
    obtain ⟨k, ek, hr⟩ := h1 S1 H1 x y d dy R1.sub (hx.mono sm) hy _ e1
    cases ek
    refine hr _ ⟨false, rfl, ?_⟩
    rw [if_neg (by simp)]
    exact G.ret R1 (.bl false)
  · exact G.elim
theorem pf_chain {op op' : CmpOp} {r r' : R2} {o1 o2 : D → D → Option D} {e1 e2 e3 : Expr} {a b cc : FE} {pos} (ho : OpR X (compareOp op) r) (ho' : OpR X (compareOp op') r') (h1 : FlagS (dc X ah) r o1) (h2 : OpS (dc X ah) r' o2) (ha : PF X ah E e1 a) (hb : PF X ah E e2 b) (hc : PF X ah E e3 cc)
    (hm : lastMarks [op, op'] [e2, e3] = false := by with_unfolding_all rfl) : PF X ah E (.Compare e1 [op, op'] [e2, e3] pos) (cChain o1 o2 a b cc) := by
  obtain ⟨t, p, r1⟩ := ha
  obtain ⟨u, q, r2⟩ := hb
  obtain ⟨v, q', r3⟩ := hc
  exact ⟨_, pe_chain ho ho' p q q' hm, re_chain h1 h2 r1 r2 r3⟩
theorem pft_chain {op op' : CmpOp} {r r' : R2} {o1 o2 : D → D → Option D} {e1 e2 e3 : Expr} {a b cc : FE} {pos} (ho : OpR X (compareOp op) r) (ho' : OpR X (compareOp op') r') (h1 : FlagS (dc X ah) r o1) (h2 : OpS (dc X ah) r' o2) (ha : PF X ah E e1 a) (hb : PF X ah E e2 b) (hc : PF X ah E e3 cc)
    (hm : lastMarks [op, op'] [e2, e3] = false := by with_unfolding_all rfl) : PFT X ah E (.Compare e1 [op, op'] [e2, e3] pos) (cT (cChain o1 o2 a b cc)) := by
  obtain ⟨t, p, r1⟩ := ha
  obtain ⟨u, q, r2⟩ := hb
  obtain ⟨v, q', r3⟩ := hc
  exact ⟨_, pt_chain ho ho' p q q' hm, rt_of (re_chain h1 h2 r1 r2 r3)⟩
/-! ### -a -/
def negD : D → Option D
  | .int i => some (.int (-i))
  | _ => none
theorem pf_neg {e : Expr} {a : FE} {pos} (ha : PF X ah E e a) : PF X ah E (.UnaryOp .USub e pos) (c1 negD a) := by
  obtain ⟨t, p, r⟩ := ha
  refine ⟨_, pe_un un_neg p, ?_⟩
  refine RG.bind (r := fun σ x H1 (Q : VK) => rU (fun i => .int (-i)) x H1 Q) (k := fun ρ x g1 => lift (negD x) g1) r fun F ρ g σ H S Q x d e R hx G => ?_
  cases hx <;> simp only [negD, lift] at G <;> first | exact G.elim | exact ⟨_, rfl, G.ret R (.int _)⟩
/-! ### a * b -/
abbrev rMulD (K : PySem.W.Frag) : R2 := R2.or (L2.rI CMul fun i j => .int (i * j)) (R2.or (rRepT K) rRep)
theorem op_mulD : OpR X (binaryOp .Mult) (rMulD X.K) := OpR.or op_mul (OpR.or op_repT op_rep)
theorem Dns.rep {S : Hp} {vs : List V} {ds : List D} (h : Dns c S vs ds) : ∀ n : Nat, Dns c S (List.replicate n vs).flatten (List.replicate n ds).flatten
  | 0 => .nil
  | n + 1 => by
    rw [List.replicate_succ, List.replicate_succ, List.flatten_cons, List.flatten_cons]
    exact h.append (Dns.rep h n)
theorem os_mul : OpS c (rMulD c.K) mulD := by
  intro E F ρ g σ H S Q x y dx dy e R hx hy G
  subst e
  cases hy with
  | int j =>
    cases hx with
    | int i =>
      simp only [mulD] at G
      by_cases h : small64 i ∨ small64 j
      · rw [if_pos h] at G
        exact .inl ⟨i, j, rfl, rfl, h, G.ret R (.int _)⟩
      · rw [if_neg h] at G; exact G.elim
    | tup h hs =>
      rename_i a vs ds
      simp only [mulD] at G
      by_cases hl : ds ≠ [] ∧ 2 ≤ j ∧ j ≤ 1000 ∧ ds.length ≤ 1000 ∧ ds.length * j.toNat ≤ 1000
      · rw [if_pos hl] at G
        refine .inr (.inl ⟨a, j, vs, rfl, rfl, Same.tup R.sub h, fun z => hl.1 ?_, hl.2.1, hl.2.2.1, by rw [hs.length]; exact hl.2.2.2.1, fun p hp => G.new R hp (.tup (SqT.of upd_same) ((hs.rep _).mono (R.tosame _ hp)))⟩)
        subst z; cases hs; rfl
      · rw [if_neg hl] at G; exact G.elim
    | lst h hs =>
      rename_i a vs ds
      simp only [mulD] at G
      by_cases hl : -(2 ^ 63) ≤ j ∧ j < 2 ^ 63 ∧ ds.length * j.toNat ≤ 1000
      · rw [if_pos hl] at G
        exact .inr (.inr ⟨a, j, vs, rfl, rfl, R.sub _ _ h, hl.1, hl.2.1, by rw [hs.length]; exact line_of hl.2.2, fun p hp => G.new R hp (.lst upd_same ((hs.rep _).mono (R.tosame _ hp)))⟩)
      · rw [if_neg hl] at G; exact G.elim
    | _ => simp only [mulD, lift] at G; exact G.elim
  | _ => cases dx <;> simp only [mulD, lift] at G <;> exact G.elim
/-! ### zip(a, b), both lists or both tuples -/
def zipD : List D → Option (List D)
  | [.lst xs, .lst ys] => some ((xs.zip ys).map fun p => .tup [p.1, p.2])
  | [.tup xs, .tup ys] => some ((xs.zip ys).map fun p => .tup [p.1, p.2])
  | _ => none
@[simp] def iZ (a : FA) : FI := fun ρ g => (a ρ g).bd fun xs g1 => lift (zipD xs) g1
theorem zip_at {xs ys : List D} {i : Nat} {d : D} (h : ((xs.zip ys).map fun p => D.tup [p.1, p.2])[i]? = some d) : ∃ x y, xs[i]? = some x ∧ ys[i]? = some y ∧ d = .tup [x, y] := by
  rw [List.getElem?_map, Option.map_eq_some_iff] at h
  obtain ⟨⟨x, y⟩, h1, rfl⟩ := h
  rw [List.getElem?_zip_eq_some] at h1
  exact ⟨x, y, h1.1, h1.2, rfl⟩
theorem zip_len {xs ys : List D} : ((xs.zip ys).map fun p => D.tup [p.1, p.2]).length = min xs.length ys.length := by simp
theorem pfi_zip {e e2 : Expr} {f : FA} {p pos tpos : Pos} {elts : List Expr} {kk : Nat} (hm : X.mg "zip" = none) (ha : PFA X ah E [e, e2] f) (hg : Gl X "zip" := by rfl)
    (hs : starEach [e, e2] X.env = (false, eval e X.env) :: starEach [e2] X.env := by rfl) (hpl : (backTo pos (starEach [e2] X.env)).any (·.1) = false := by rfl) : PFI X ah E (.Tuple elts kk tpos) (.Call (.Name "zip" p) [e, e2] [] pos) (iZ f) := by
  obtain ⟨t, q, r⟩ := ha
  refine ⟨_, RZ.pi_zipA hg hm q hs hpl, ?_⟩
  refine RG.bind (rel' := rI) (r := fun σ vs H1 (R : It → Hp → Prop) => ∃ a b xs ys, vs = [.ref a, .ref b] ∧ ((SqL X.K H1 a xs ∧ SqL X.K H1 b ys ∧ R (Itz X.K a b) H1) ∨ (SqT X.K H1 a xs ∧ SqT X.K H1 b ys ∧ R (RZ.ItzT X.K a b) H1))) (k := fun ρ xs g1 => lift (zipD xs) g1) r fun F ρ g σ H S Q x d e R hx G => ?_
  unfold zipD at G
  split at G
  · rename_i xs ys
    obtain ⟨v, w, rfl, hv, hw⟩ := hx.two
    cases hv with
    | lst h1 s1 =>
    cases hw with
    | lst h2 s2 =>
    rename_i a vs b ws
    refine ⟨a, b, vs, ws, rfl, .inl ⟨SqL.of (R.sub _ _ h1), SqL.of (R.sub _ _ h2), G.ret R ?_⟩⟩
    show WalkOf F.c _ _ _
    rw [e]
    refine ⟨fun F' ρ g σ H S1 e' sm R => ?_, fun F' ρ g σ H S1 i d e' sm R hd => ?_⟩
    · have a1 : SqL X.K H a vs := SqL.of (R.sub _ _ (sm _ _ h1))
      have a2 : SqL X.K H b ws := SqL.of (R.sub _ _ (sm _ _ h2))
      refine ⟨vs, ws, a1, a2, ?_⟩
      have := zip_len (xs := xs) (ys := ys)
      have l1 := s1.length
      have l2 := s2.length
      omega
    · obtain ⟨dx, dy, g1, g2, rfl⟩ := zip_at hd
      obtain ⟨vx, k1, n1⟩ := s1.get g1
      obtain ⟨vy, k2, n2⟩ := s2.get g2
      have a1 : SqL X.K H a vs := SqL.of (R.sub _ _ (sm _ _ h1))
      have a2 : SqL X.K H b ws := SqL.of (R.sub _ _ (sm _ _ h2))
      refine ⟨⟨vs, ws, vx, vy, a1, a2, k1, k2⟩, fun x H' y => ?_⟩
      obtain ⟨T, x', y', rfl, nT, rfl, f1, f2⟩ := y
      have := f1 vs a1
      rw [k1] at this; cases this
      have := f2 ws a2
      rw [k2] at this; cases this
      have st := R.tosame (.tup [vx, vy]) nT
      exact ⟨_, st, R.up _ nT, .tup (SqT.of upd_same) (.cons ((n1.mono sm).mono st) (.cons ((n2.mono sm).mono st) .nil))⟩
  · rename_i xs ys
    obtain ⟨v, w, rfl, hv, hw⟩ := hx.two
    cases hv with
    | tup h1 s1 =>
    cases hw with
    | tup h2 s2 =>
    rename_i a vs b ws
    refine ⟨a, b, vs, ws, rfl, .inr ⟨Same.tup R.sub h1, Same.tup R.sub h2, G.ret R ?_⟩⟩
    show WalkOf F.c _ _ _
    rw [e]
    refine ⟨fun F' ρ g σ H S1 e' sm R => ?_, fun F' ρ g σ H S1 i d e' sm R hd => ?_⟩
    · have a1 : SqT X.K H a vs := Same.tup R.sub (Same.tup sm h1)
      have a2 : SqT X.K H b ws := Same.tup R.sub (Same.tup sm h2)
      refine ⟨vs, ws, a1, a2, ?_⟩
      have := zip_len (xs := xs) (ys := ys)
      have l1 := s1.length
      have l2 := s2.length
      omega
    · obtain ⟨dx, dy, g1, g2, rfl⟩ := zip_at hd
      obtain ⟨vx, k1, n1⟩ := s1.get g1
      obtain ⟨vy, k2, n2⟩ := s2.get g2
      have a1 : SqT X.K H a vs := Same.tup R.sub (Same.tup sm h1)
      have a2 : SqT X.K H b ws := Same.tup R.sub (Same.tup sm h2)
      refine ⟨⟨vs, ws, vx, vy, a1, a2, k1, k2⟩, fun x H' y => ?_⟩
      obtain ⟨T, x', y', rfl, nT, rfl, f1, f2⟩ := y
      have := f1 vs a1
      rw [k1] at this; cases this
      have := f2 ws a2
      rw [k2] at this; cases this
      have st := R.tosame (.tup [vx, vy]) nT
      exact ⟨_, st, R.up _ nT, .tup (SqT.of upd_same) (.cons ((n1.mono sm).mono st) (.cons ((n2.mono sm).mono st) .nil))⟩
  · exact G.elim

/-! ### len(set(t)), sorted(set(t)) of a tuple of ints -/
def intsOf : List D → Option (List Int)
  | [] => some []
  | .int i :: ds => (intsOf ds).map (i :: ·)
  | _ => none
theorem intsOf_ok {S : Hp} : ∀ {vs : List V} {ds : List D} {ns : List Int}, Dns c S vs ds → intsOf ds = some ns → vs = ns.map V.int
  | _, _, _, .nil, e => by simp [intsOf] at e; subst e; rfl
  | _, _, _, .cons h hs, e => by
    cases h <;> simp only [intsOf] at e <;> try cases e
    rw [Option.map_eq_some_iff] at e
    obtain ⟨bs, e1, rfl⟩ := e
    rw [intsOf_ok hs e1]; rfl
/-- how many unlike ones -/
def unlike (ns : List Int) : Nat := ns.eraseDups.length
theorem eraseDups_nodup (ns : List Int) : ns.eraseDups.Nodup := by
  induction h : ns.length using Nat.strongRecOn generalizing ns with
  | ind n ih =>
    cases ns with
    | nil => simp
    | cons a as =>
      rw [List.eraseDups_cons, List.nodup_cons]
      refine ⟨fun hm => ?_, ih _ (by rw [← h]; exact Nat.lt_succ_of_le (List.length_filter_le _ _)) _ rfl⟩
      rw [List.mem_eraseDups] at hm
      simp at hm
theorem unlike_of {ns out : List Int} (nd : out.Nodup) (h : ∀ k, k ∈ out ↔ k ∈ ns) : out.length = unlike ns :=
  (List.perm_ext_iff_of_nodup nd (eraseDups_nodup ns)).mpr (fun k => by rw [h k, List.mem_eraseDups]) |>.length_eq
def tLenSetT (K : PySem.W.Frag) (ta : TE) : TE := fun σ H Q => ta σ H fun x H1 => ∃ (l : Addr) (ns : List Int), x = .ref l ∧ SqT K H1 l (ns.map V.int) ∧ ns.length ≤ 1000 ∧ Q (.int (unlike ns : Nat)) H1
theorem pe_lenSetT {a : Expr} {ta : TE} {p p2 q pos : Pos} (hg : Gl X "len") (hm : X.mg "len" = none) (hg2 : Gl X "set") (hm2 : X.mg "set" = none) (ha : PE X a ta) (hc : X.calm = true)
    (na : starEach [a] X.env = (false, eval a X.env) :: starEach [] X.env) : PE X (.Call (.Name "len" p) [.Call (.Name "set" p2) [a] [] q] [] pos) (tLenSetT X.K ta) := by
  refine ⟨fun pins s σ H Q I h => ?_⟩
  refine Call_ (ld_blt I hg hm boot_len ?_)
  refine PyProof.Rows.callWith_builtin1 (PyProof.Rows.args_cons ?_ rfl) rfl rfl
  refine Call_ (ld_blt I hg2 hm2 boot_set ?_)
  refine PyProof.Rows.callWith_type1 (PyProof.Rows.args_cons (thn (ha.run pins s σ H _ I h) fun v s1 ⟨x, H1, I1, r1, q1⟩ => PyProof.Rows.args_nil ?_) na) na rfl
  obtain ⟨l, ns, rfl, hq, hl, q1⟩ := q1
  cases r1
  obtain ⟨its, r, pl, hz⟩ := I1.tuple hq
  have hi : IntsAre its.toArray.toList ns := RZ.intsAre_vals (by simpa using r)
  refine call_set_tupI ns (I1.ok.hd hc) (show s1.heap.IsTuple l its.toArray from pl) hi (by unfold scanBound; omega) fun h' tk c R1 hcn k => ?_
  refine PyProof.Rows.args_nil ?_
  obtain ⟨o, es, ep, t, ho, hex, hd, g, nd, hm3, hb, hf, hn, hr, hl2⟩ := R1
  have I2 : Inv X pins σ H1 { s1 with heap := h', toks := tk } := I1.kept fun b o e => k b o e
  have hu : es.size = unlike ns := by
    have := unlike_of (ns := ns) nd fun j => by rw [← hm3 j, decide_eq_true_eq]
    rw [← this, List.length_map, Array.length_toList]
  exact call_len_set ho hex hd hf (by rw [hn]; omega) ⟨.int (unlike ns : Nat), H1, I2.tok _, ⟨_, by rw [← hu]⟩, q1⟩
def tSortSetT (K : PySem.W.Frag) (ta : TE) : TE := fun σ H Q => ta σ H fun x H1 => ∃ (l : Addr) (ns : List Int), x = .ref l ∧ SqT K H1 l (ns.map V.int) ∧ ns.length ≤ 60 ∧
  ∀ out : List Int, out.Pairwise (· < ·) → (∀ k, k ∈ out ↔ k ∈ ns) → ∀ p, H1 p = none → Q (.ref p) (upd H1 p (.lst (out.map V.int)))
theorem pe_sortSetT {a : Expr} {ta : TE} {p p2 q pos : Pos} (hg : Gl X "sorted") (hm : X.mg "sorted" = none) (hg2 : Gl X "set") (hm2 : X.mg "set" = none) (ha : PE X a ta) (hc : X.calm = true)
    (na : starEach [a] X.env = (false, eval a X.env) :: starEach [] X.env) : PE X (.Call (.Name "sorted" p) [.Call (.Name "set" p2) [a] [] q] [] pos) (tSortSetT X.K ta) := by
  refine ⟨fun pins s σ H Q I h => ?_⟩
  refine Call_ (ld_blt I hg hm (by decide +kernel : bootBuiltins "sorted" = some (.builtin "sorted")) ?_)
  refine PyProof.Rows.callWith_builtin1 (PyProof.Rows.args_cons ?_ rfl) rfl rfl
  refine Call_ (ld_blt I hg2 hm2 boot_set ?_)
  refine PyProof.Rows.callWith_type1 (PyProof.Rows.args_cons (thn (ha.run pins s σ H _ I h) fun v s1 ⟨x, H1, I1, r1, q1⟩ => PyProof.Rows.args_nil ?_) na) na rfl
  obtain ⟨l, ns, rfl, hq, hl, q1⟩ := q1
  cases r1
  obtain ⟨its, r, pl, hz⟩ := I1.tuple hq
  have hi : IntsAre its.toArray.toList ns := RZ.intsAre_vals (by simpa using r)
  refine call_set_tupI ns (I1.ok.hd hc) (show s1.heap.IsTuple l its.toArray from pl) hi (by unfold scanBound; omega) fun h' tk c R1 hcn k => ?_
  refine PyProof.Rows.args_nil ?_
  have I2 : Inv X pins σ H1 { s1 with heap := h', toks := tk } := I1.kept fun b o e => k b o e
  obtain ⟨s2, hs2⟩ : ∃ s2 : Shared, s2 = { s1 with heap := h', toks := tk } := ⟨_, rfl⟩
  have R2 : SetR X.w s2.heap s1.heap.objs.size (fun j => decide (j ∈ ns)) c := by rw [hs2]; exact R1
  rw [← hs2] at I2 ⊢
  refine sorted_set (s := s2) R2 (I1.ok.hd hc) (by omega : c < 64) fun s' p out c' ms k' g o hp hg' hi' hs hm' hl' => ?_
  have hlen : (ms.map V.int).length ≤ sizeLine := by rw [List.length_map, hl', sizeLine_eq]; omega
  have hn : H1 p = none := I2.hok.fresh hp
  have J : Inv X pins σ (upd H1 p (.lst (ms.map V.int))) { s2 with heap := s'.heap, gens := s'.gens, drawn := s'.drawn, toks := s'.toks } :=
    I2.call (ch := []) (Un.laid k' hp hn) (I2.hok.laid k' hp ⟨hlen, out.toList, c', vals_of_ints hi', hg'⟩) (by rw [g]; exact I2.bare) (fun _ z => nomatch z)
  have e : s' = { s2 with heap := s'.heap, gens := s'.gens, drawn := s'.drawn, toks := s'.toks } := by
    cases s'
    cases s2
    cases o
    rfl
  rw [e]
  exact ⟨.ref p, _, J, rfl, q1 ms hs (fun j => by rw [hm' j, decide_eq_true_eq]) p hn⟩
def lenSetD : D → Option D
  | .tup ds => (intsOf ds).bind fun ns => if ns.length ≤ 1000 then some (.int (unlike ns : Nat)) else none
  | _ => none
theorem pf_lenSet {e : Expr} {a : FE} {p p2 q pos : Pos} (hm : X.mg "len" = none) (hm2 : X.mg "set" = none) (ha : PF X ah E e a) (hg : Gl X "len" := by rfl) (hg2 : Gl X "set" := by rfl) (hc : X.calm = true := by rfl)
    (na : starEach [e] X.env = (false, eval e X.env) :: starEach [] X.env := by rfl) : PF X ah E (.Call (.Name "len" p) [.Call (.Name "set" p2) [e] [] q] [] pos) (c1 lenSetD a) := by
  obtain ⟨t, u, r⟩ := ha
  refine ⟨_, pe_lenSetT hg hm hg2 hm2 u hc na, ?_⟩
  refine RG.bind (r := fun σ x H1 (Q : VK) => ∃ (l : Addr) (ns : List Int), x = .ref l ∧ SqT X.K H1 l (ns.map V.int) ∧ ns.length ≤ 1000 ∧ Q (.int (unlike ns : Nat)) H1) (k := fun ρ x g1 => lift (lenSetD x) g1) r fun F ρ g σ H S Q x d e R hx G => ?_
  cases hx with
  | tup h hs =>
    simp only [lenSetD] at G
    rename_i ds
    cases qi : intsOf ds with
    | none => rw [qi] at G; exact G.elim
    | some ns =>
      rw [qi] at G
      have hv := intsOf_ok hs qi
      subst hv
      simp only [Option.bind_some] at G
      by_cases hl : ns.length ≤ 1000
      · rw [if_pos hl] at G
        exact ⟨_, ns, rfl, Same.tup R.sub h, hl, G.ret R (.int _)⟩
      · rw [if_neg hl] at G; exact G.elim
  | _ => simp only [lenSetD, lift] at G; exact G.elim
/-- the unlike ones, ascending -/
def sortSet (ns : List Int) : List Int := ns.eraseDups.mergeSort (fun a b => decide (a ≤ b))
theorem sortSet_of {ns out : List Int} (hs : out.Pairwise (· < ·)) (h : ∀ k, k ∈ out ↔ k ∈ ns) : out = sortSet ns := by
  have hp : out.Perm (sortSet ns) := (List.perm_ext_iff_of_nodup (hs.imp fun {a b} h => (by omega : a ≠ b)) ((eraseDups_nodup ns).perm (List.mergeSort_perm _ _).symm)).mpr fun k => by
    rw [h k]
    exact ((List.mergeSort_perm _ _).mem_iff.trans List.mem_eraseDups).symm
  have h3 := List.pairwise_mergeSort (le := fun a b : Int => decide (a ≤ b)) (fun a b c h1 h2 => by simp at *; omega) (fun a b => by simp; omega) ns.eraseDups
  exact List.Perm.eq_of_pairwise (le := fun a b : Int => a ≤ b) (fun a b _ _ h1 h2 => by omega) (hs.imp fun {a b} h => by omega) (h3.imp fun {a b} h => by simpa using h) hp
def sortSetD : D → Option D
  | .tup ds => (intsOf ds).bind fun ns => if ns.length ≤ 60 then some (.lst ((sortSet ns).map .int)) else none
  | _ => none
theorem pf_sortSet {e : Expr} {a : FE} {p p2 q pos : Pos} (hm : X.mg "sorted" = none) (hm2 : X.mg "set" = none) (ha : PF X ah E e a) (hg : Gl X "sorted" := by rfl) (hg2 : Gl X "set" := by rfl) (hc : X.calm = true := by rfl)
    (na : starEach [e] X.env = (false, eval e X.env) :: starEach [] X.env := by rfl) : PF X ah E (.Call (.Name "sorted" p) [.Call (.Name "set" p2) [e] [] q] [] pos) (c1 sortSetD a) := by
  obtain ⟨t, u, r⟩ := ha
  refine ⟨_, pe_sortSetT hg hm hg2 hm2 u hc na, ?_⟩
  refine RG.bind (r := fun σ x H1 (Q : VK) => ∃ (l : Addr) (ns : List Int), x = .ref l ∧ SqT X.K H1 l (ns.map V.int) ∧ ns.length ≤ 60 ∧
  ∀ out : List Int, out.Pairwise (· < ·) → (∀ k, k ∈ out ↔ k ∈ ns) → ∀ p, H1 p = none → Q (.ref p) (upd H1 p (.lst (out.map V.int)))) (k := fun ρ x g1 => lift (sortSetD x) g1) r fun F ρ g σ H S Q x d e R hx G => ?_
  cases hx with
  | tup h hs =>
    simp only [sortSetD] at G
    rename_i ds
    cases qi : intsOf ds with
    | none => rw [qi] at G; exact G.elim
    | some ns =>
      rw [qi] at G
      have hv := intsOf_ok hs qi
      subst hv
      simp only [Option.bind_some] at G
      by_cases hl : ns.length ≤ 60
      · rw [if_pos hl] at G
        refine ⟨_, ns, rfl, Same.tup R.sub h, hl, fun out h1 h2 p hp => ?_⟩
        have := sortSet_of h1 h2
        subst this
        exact G.new R hp (.lst upd_same (Dns.ints _))
      · rw [if_neg hl] at G; exact G.elim
  | _ => simp only [sortSetD, lift] at G; exact G.elim
end
end FD
set_option Elab.async false
set_option linter.all false
set_option maxRecDepth 100000
set_option maxHeartbeats 4000000
namespace FD
open PySem L2 PyProof.Rows
/-! ### try: .. except X as n: return (c, n.f) -/
/-- a block whose error is wished for at the slots of its start -/
structure RSw (c : DC) (E : L2.St → XK) (t : TS) (f : FS) : Prop where
  run : ∀ (F : Fx) (ρ : List En) (g : Gh) (σ : L2.St) (H S : Hp) (Z : Ends), F.c = c → Rep F ρ g σ H S → GotS F S (E σ) Z (f ρ g) → t Z σ H
def PFw (X : Cx) (ah : Option Addr) (E : L2.St → XK) (s : Stmt) (f : FS) : Prop := ∃ t, PS X s t ∧ RSw (dc X ah) E t f
def PFws (X : Cx) (ah : Option Addr) (E : L2.St → XK) (s : List Stmt) (f : FS) : Prop := ∃ t, PSs X s t ∧ RSw (dc X ah) E t f
section
variable {X : Cx} {ah : Option Addr} {E : L2.St → XK} {c : DC}
theorem GotS.noE {F : Fx} {S : Hp} {E : XK} {Z : Ends} {m : M Fl} (G : GotS F S E Z (noX m)) : GotS F S E0 Z m := by
  cases m with
  | none => exact G
  | some o => cases o with
    | ok fl g => cases fl <;> exact G
    | ex _ _ _ _ => exact G.elim
theorem RG.stepW {β α : Type} {rel : Rl β α} {t : TX β} {fa : List En → Gh → M α} (ha : RG rel c E t fa) {F : Fx} {ρ : List En} {g : Gh} {σ : L2.St} {H S : Hp} {Z : Ends} {k : α → Gh → M Fl} {r : β → Hp → Prop}
    (e : F.c = c) (R : Rep F ρ g σ H S) (G : GotS F S (E σ) Z ((fa ρ g).bd k)) (hk : ∀ H1 S1 g1 b a, Same S S1 → Rep F ρ g1 σ H1 S1 → rel c S1 b a → GotS F S1 (E σ) Z (k a g1) → r b H1) : t σ H r := by
  refine ha.run F ρ g σ H S _ e R ?_
  cases h : fa ρ g with
  | none => simp only [M.bd, h] at G; exact G
  | some o => cases o with
    | ok a g1 =>
      simp only [M.bd, h] at G
      exact fun b H1 S1 sm R1 rl => hk H1 S1 g1 b a sm R1 (e ▸ rl) (G.mono sm)
    | ex cc ks ds g1 => simp only [M.bd, h] at G; exact G
theorem pfw_set (i : Nat) {x : Str} {e : Expr} {a : FE} {pos' pos : Pos} (hN : X.N.Nodup) (ha : PF X ah E e a) (hi : X.N[i]? = some x := by rfl) (hx : Loc X.env.scope x := by first | exact Or.inl rfl | exact Or.inr rfl) (hs : swapsWith e (some (.Name x pos')) pos.line X.env = pure false := by rfl)
    (hf : X.fn x = true ∨ X.env.scope.names.lookup x = some .local := by first | exact .inl rfl | exact .inr rfl) : PFw X ah E (.Assign [.Name x pos'] e pos) (sAsg a (gN i)) := by
  obtain ⟨t, p, r⟩ := ha
  refine ⟨_, ps_set hN hi hx p hs hf, ⟨fun F ρ g σ H S Z e R G => ?_⟩⟩
  exact r.stepW e R G fun H1 S1 g1 y d sm R1 hy G => G _ H1 S1 (Same.refl _) (R1.set i (e ▸ hy))
theorem pfw_ret {e : Expr} {a : FE} {pos : Pos} (ha : PF X ah E e a) : PFw X ah E (.Return (some e) pos) (sRet a) := by
  obtain ⟨t, p, r⟩ := ha
  refine ⟨_, ps_ret p, ⟨fun F ρ g σ H S Z e R G => ?_⟩⟩
  exact r.stepW e R G fun H1 S1 g1 y d sm R1 hy G => G y H1 S1 (Same.refl _) R1.bare (e ▸ hy)
theorem pfw_expr {e : Expr} {a : FE} {pos : Pos} (ha : PF X ah E e a) (hs : swapsWith e none pos.line X.env = pure false := by rfl) : PFw X ah E (.Expr e pos) (sDrop a) := by
  obtain ⟨t, p, r⟩ := ha
  refine ⟨_, ps_expr p hs, ⟨fun F ρ g σ H S Z e R G => ?_⟩⟩
  exact r.stepW e R G fun H1 S1 g1 y d sm R1 hy G => G σ H1 S1 (Same.refl _) R1
@[simp] def sNoX (b : FS) : FS := fun ρ g => noX (b ρ g)
theorem pfws_cons {s : Stmt} {rest : List Stmt} {a b : FS} (ha : PFw X ah E s a) (hb : PFSs X ah E0 rest b) : PFws X ah E (s :: rest) (sSeq a (sNoX b)) := by
  obtain ⟨t, p, r⟩ := ha
  obtain ⟨u, q, s⟩ := hb
  refine ⟨_, pss_cons p q, ⟨fun F ρ g σ H S Z e R G => r.run F ρ g σ H S _ e R ?_⟩⟩
  unfold sSeq at G
  cases h : a ρ g with
  | none => rw [h] at G; exact G
  | some o => cases o with
    | ok f g1 => cases f with
      | nx ρ1 => rw [h] at G; exact fun σ' H' S' sm R' => s.run F ρ1 g1 σ' H' S' Z e R' (GotS.mono (GotS.noE G) sm)
      | bk ρ1 => rw [h] at G; exact G
      | ct ρ1 => rw [h] at G; exact G
      | rt d => rw [h] at G; exact G
    | ex cc ks ds g1 => rw [h] at G; exact G
theorem pfws_one {s : Stmt} {a : FS} (ha : PFw X ah E s a) : PFws X ah E [s] a := by
  obtain ⟨t, p, r⟩ := ha
  exact ⟨_, pss_one p, r⟩
/-- a call of a def that may raise, wished for -/
theorem Got.frameW {F : Fx} {ρ g σ H S} {Q : VK} {E : XK} {m : M D} (R : Rep F ρ g σ H S) (G : Got Dn F ρ σ S E Q m) : Got Dn ⟨F.c, H, S⟩ [] [] S E Q m := Got.frame R G
@[simp] def cFnX (n : Nat) (Fn : List D → Gh → M D) (a : FA) : FE := fun ρ g => (a ρ g).bd fun xs g1 => if xs.length = n then Fn xs g1 else none
theorem pf_callX {W : WX} {x : Str} {k n : Nat} {Fn : List D → Gh → M D} {e : Expr} {es : List Expr} {a : FA} {p pos : Pos} (tk : Takes X W) (G : DefOk X.prog X.w X.K X.mg X.base (L2.CX X.prog X.w) x k n Fn) (hr : Room k X.A) (ha : PFA X ah (WE W) (e :: es) a) (hg : Gl X x := by rfl) (hdb : (x == ("__debug__" : Str)) = false := by decide)
    (he : starEach (e :: es) X.env = (false, eval e X.env) :: starEach es X.env := by rfl) (hpl : (backTo pos (starEach es X.env)).any (·.1) = false := by rfl) : PF X ah (WE W) (.Call (.Name x p) (e :: es) [] pos) (cFnX n Fn a) := by
  obtain ⟨f, fd, ps, F, hm, hk, hb⟩ := G
  obtain ⟨t, q, s⟩ := ha
  refine ⟨_, pe_callS F hr hg hm hk hb (fun σ => passAt tk σ) q hdb he hpl, ?_⟩
  refine RG.bind (r := fun σ vs H1 (Q : VK) => spF X.K X.mg n Fn vs H1 Q (WE W σ)) (k := fun ρ xs g1 => if xs.length = n then Fn xs g1 else none) s fun F ρ g σ H S Q vs ds e R hx G => ?_
  by_cases hl : ds.length = n
  case neg => rw [if_neg hl] at G; exact G.elim
  rw [if_pos hl] at G
  have eK : F.c = dc X ah := e
  refine ⟨ah, S, g, ds, hl, ?_, hx, ?_⟩
  · have := R.sub_frame; rw [eK] at this; exact this
  · have := Got.frame R G; rw [eK] at this; exact this
/-- making a thing by an __init__ that may raise, wished for -/
def tMakeS (C : Addr) (sp : Sp) (E : L2.St → XK) (t : TA) : TE := fun σ H Q => t σ H fun vs H1 => ∀ x dx, H1 x = none → H1 dx = none → dx ≠ x →
  sp (.ref x :: vs) (upd (upd H1 dx (.own x)) x (.ins C dx [])) (fun v H2 => v = .non ∧ Q (.ref x) H2) (E σ)
theorem pe_makeS {CX : CXT} {k : Nat} {f C : Addr} {fd : FuncData} {ps : List Str} {sp : Sp} {x : Str} {p pos : Pos} {e : Expr} {es : List Expr} {t : TA} (M : Mk X.K C f) (F : FnOk X.prog X.w X.K X.mg X.base CX k f fd ps sp) (hr : Room (k + 1) X.A) (hg : Gl X x) (hm : X.mg x = some (.ref C)) (hb : Binds X.K fd ps []) (hx : ∀ σ, PassesAt CX X σ (E σ))
    (ha : PA X (e :: es) t) (hdb : (x == ("__debug__" : Str)) = false := by decide) (he : starEach (e :: es) X.env = (false, eval e X.env) :: starEach es X.env := by rfl) (hpl : (backTo pos (starEach es X.env)).any (·.1) = false := by rfl) :
    PE X (.Call (.Name x p) (e :: es) [] pos) (tMakeS C sp E t) := by
  refine ⟨fun pins s σ H Q I h => ?_⟩
  refine wpAny_Call_Name_kw (ld_glob I hg hm ?_ hdb)
  refine PySem.W.callWith_K (h₀ := X.base) I.ok.mod.kin M.kp (thn (ha.run pos pins s σ H _ I h) fun us s1 ⟨vs, H1, I, r, h⟩ => ⟨I.kIn, ?_⟩) he hpl
  have hq := h (s1.heap.objs.size + 1) s1.heap.objs.size (I.hok.fresh (Nat.le_succ _)) (I.hok.fresh (Nat.le_refl _)) (Nat.ne_of_lt (Nat.lt_succ_self _))
  have I2 := Inv.made (C := C) I
  have r2 : Vals (V.ref (s1.heap.objs.size + 1) :: vs) (Value.ref (s1.heap.objs.size + 1) :: us) := .cons rfl r
  have hl : (Value.ref (s1.heap.objs.size + 1) :: us ++ []).length = ps.length := by
    have e := r2.length
    rw [F.len _ _ _ _ hq] at e
    simpa using e.symm
  have hbb := hb _ (Value.ref (s1.heap.objs.size + 1) :: us) I2.kIn hl
  rw [List.append_nil] at hbb
  refine wpAny_call (make_map (f := f) I.kIn M.makes M.init (beq_iff_eq.mp M.fn) (codeAny_mono (F.run _ X.stack _ _ ⟨Value.ref (s1.heap.objs.size + 1) :: us, []⟩ (Value.ref (s1.heap.objs.size + 1) :: us) _ _ (E σ) (hr.make C us [])
    (I2.env0.make C us []) hbb r2 hq) fun r s' hq' => ?_))
  cases r with
  | error e => exact hx σ pins _ _ e s' I2 hq'
  | ok fl =>
    cases fl with
    | ret u =>
      obtain ⟨v, H', I3, rv, ev, q3⟩ := I2.after hq'
      subst ev
      exact ⟨rv, ⟨V.ref (s1.heap.objs.size + 1), H', I3, rfl, q3⟩⟩
    | next => exact False.elim hq'
    | brk => exact False.elim hq'
    | cont => exact False.elim hq'
theorem re_mkW {C : Addr} {n : Nat} {Fn : List D → Gh → M D} {t : TA} {a : FA} (ha : RA c E t a) : RE c E (tMakeS C (spMk c.K c.mg C n Fn) E t) (cFnX n Fn a) := by
  refine RG.bind (r := fun σ vs H1 (Q : VK) => ∀ x dx, H1 x = none → H1 dx = none → dx ≠ x →
    spMk c.K c.mg C n Fn (.ref x :: vs) (upd (upd H1 dx (.own x)) x (.ins C dx [])) (fun v H2 => v = .non ∧ Q (.ref x) H2) (E σ)) (k := fun ρ xs g1 => if xs.length = n then Fn xs g1 else none) ha fun F ρ g σ H S Q vs ds e R hx G => ?_
  intro x dx nx ndx ne
  by_cases hl : ds.length = n
  case neg => rw [if_neg hl] at G; exact G.elim
  rw [if_pos hl] at G
  subst e
  have R0 := R.sub_frame
  have sx : S x = none := R.sub.free nx
  have sdx : S dx = none := R.sub.free ndx
  have nxa := R.new_ah nx
  have ndxa := R.new_ah ndx
  -- the heap with the new thing
  have R1 : Rep ⟨F.c, H, S⟩ [] g [] (upd (upd H dx (.own x)) x (.ins C dx [])) S := by
    refine (R0.write1 sdx ndx ndxa).write1 sx ?_ nxa
    exact nx
  refine ⟨F.c.ah, S, g, x, dx, vs, ds, rfl, hl, upd_same, sx, ?_, hx, nxa, ?_⟩
  · exact R1.sub_frame
  · have back : ∀ {g' H' S'}, Same S S' → Rep ⟨F.c, (fun b => if b = x then none else upd (upd H dx (.own x)) x (.ins C dx []) b), S⟩ [] g' [] H' S' → Rep ⟨F.c, H, S⟩ [] g' [] H' S' := fun {g' H' S'} sm B => by
      refine ⟨B.sub, B.hand, fun b o h1 h2 => B.keep b o ?_ h2, fun b h1 h2 => B.stay b ?_ h2, fun i e h => by simp at h, fun i j p xs ys h => by simp at h⟩
      · have n1 : b ≠ x := ne_of_none h1 nx
        have n2 : b ≠ dx := ne_of_none h1 ndx
        show (if b = x then none else upd (upd H dx (.own x)) x (.ins C dx []) b) = some o
        rw [if_neg n1, upd_ne n1, upd_ne n2]; exact h1
      · have n1 : b ≠ x := fun z => h1 (by rw [z]; exact nx)
        have n2 : b ≠ dx := fun z => h1 (by rw [z]; exact ndx)
        show (if b = x then none else upd (upd H dx (.own x)) x (.ins C dx []) b) ≠ none
        rw [if_neg n1, upd_ne n1, upd_ne n2]; exact h1
    cases h : Fn ds g with
    | none => rw [h] at G; exact G
    | some o => cases o with
      | ex cc ks es g1 => rw [h] at G; exact fun A dd H' S' m sm B z => G A dd H' S' m sm (R.bare.back sm (back sm B)) z
      | ok d g1 =>
        rw [h] at G
        intro H' S' fs sm hx' hs' B ⟨cn, ks, es, ed, hm, hk, hv⟩
        subst ed
        have B' := back sm B
        refine ⟨rfl, ?_⟩
        -- from now on the thing stands
        have B2 : Rep ⟨F.c, H, S⟩ [] g1 [] H' (upd S' x (.ins C dx fs)) := by
          have sm' : Same S' (upd S' x (.ins C dx fs)) := Same.upd_new hs'
          refine ⟨fun b o e => ?_, ?_, B'.keep, fun b e h => ?_, fun i e h => by simp at h, fun i j p xs ys h => by simp at h⟩
          · by_cases hb : b = x
            · subst hb; rw [upd_same] at e; cases e; exact hx'
            · rw [upd_ne hb] at e; exact B'.sub _ _ e
          · have h := B'.hand
            unfold HandAt at h ⊢
            cases ea : F.c.ah with
            | none => trivial
            | some a =>
              simp only [ea] at h
              obtain ⟨k1, q, k2, k3⟩ := h
              have ne : a ≠ x := fun z => nxa (by rw [ea, z])
              exact ⟨by rw [upd_ne ne]; exact k1, q, k2, sm' _ _ k3⟩
          · have n1 : b ≠ x := fun z => e (by rw [z]; exact nx)
            rw [upd_ne n1]; exact B'.stay b e h
        refine G (.ref x) H' _ (sm.trans (Same.upd_new hs')) (R.back (sm.trans (Same.upd_new hs')) B2) ?_
        exact .obj hm upd_same hk (hv.mono (Same.upd_new hs'))
theorem pf_mkX {W : WX} {x : Str} {k n : Nat} {Fn : List D → Gh → M D} {e : Expr} {es : List Expr} {a : FA} {p pos : Pos} (tk : Takes X W) (G : MkOk X.prog X.w X.K X.mg X.base x k n Fn) (hr : Room (k + 1) X.A) (ha : PFA X ah (WE W) (e :: es) a) (hg : Gl X x := by rfl) (hdb : (x == ("__debug__" : Str)) = false := by decide)
    (he : starEach (e :: es) X.env = (false, eval e X.env) :: starEach es X.env := by rfl) (hpl : (backTo pos (starEach es X.env)).any (·.1) = false := by rfl) : PF X ah (WE W) (.Call (.Name x p) (e :: es) [] pos) (cFnX n Fn a) := by
  obtain ⟨C, f, fd, ps, F, hm, M, hb⟩ := G
  obtain ⟨t, q, s⟩ := ha
  exact ⟨_, pe_makeS M F hr hg hm hb (fun σ => passAt tk σ) q hdb he hpl, re_mkW (c := dc X ah) s⟩

/-- the suite: return (c, n.f) -/
theorem choose_ws {W : WX} {body : List Stmt} {fb : FS} (h : ∀ (pn : List (Addr × Obj)) (xe : Value → Shared → Prop), Takes (X.tr pn xe) W → PassesOwn (model X.prog X.w) X.A X.env xe → PFws (X.tr pn xe) ah (WE W) body fb) :
    ∃ tb : TS, (∀ pn xe, Takes (X.tr pn xe) W → PassesOwn (model X.prog X.w) X.A X.env xe → PSs (X.tr pn xe) body tb) ∧ RSw (dc X ah) (WE W) tb fb := by
  refine ⟨fun Z σ H => ∀ pn xe (h1 : Takes (X.tr pn xe) W) (h2 : PassesOwn (model X.prog X.w) X.A X.env xe), (h pn xe h1 h2).choose Z σ H, fun pn xe h1 h2 => ⟨fun pins s σ H Z I hw => (h pn xe h1 h2).choose_spec.1.run pins s σ H Z I (hw pn xe h1 h2)⟩, ⟨fun F ρ g σ H S Z e R G pn xe h1 h2 => ?_⟩⟩
  exact (h pn xe h1 h2).choose_spec.2.run F ρ g σ H S Z e R G
@[simp] def sTry1 (fb : FS) (x f : Str) (i : Nat) (e0 : D) : FS := fun ρ g => match fb ρ g with
  | some (.ex c ks ds g1) => if c = x ∧ (ρ[i]?).isSome = true then match (ks.zip ds).lookup f with
    | some d => some (.ok (.rt (.tup [e0, d])) g1)
    | none => none
    else none
  | m => m
theorem pfs_try1 {E : XK} (i : Nat) {x n f : Str} {body : List Stmt} {fb : FS} {s0 : Str} {j0 : _} {np pn1 pa pt pr p0 pos pos' : Pos} {kk : Nat} (hN : X.N.Nodup) (G : ExcOk X.prog X.w X.K X.mg X.base x f)
    (hbody : ∀ (W : WX) (pn : List (Addr × Obj)) (xe : Value → Shared → Prop), Takes (X.tr pn xe) W → PassesOwn (model X.prog X.w) X.A X.env xe → PFws (X.tr pn xe) ah (WE W) body fb)
    (hs : X.stack = X.env :: X.outer := by rfl) (hf : X.env.frame = some X.env.locals := by rfl) (hi : X.N[i]? = some n := by rfl) (hln : X.env.kindOf n = some .local := by rfl) (hg : Gl X x := by rfl) (hdb : (x == ("__debug__" : Str)) = false := by decide)
    (hd : (n == ("__debug__" : Str)) = false := by decide) (hcd : (n == ("__classdict__" : Str)) = false := by decide) (hv : Vis X.env.scope n := by first | exact Or.inl rfl | exact Or.inr (Or.inl rfl) | exact Or.inr (Or.inr rfl))
    (hat : attributeBase (.Name n pn1) f X.env (eval (.Name n pn1) X.env) = eval (.Name n pn1) X.env := by rfl)
    (he1 : starEach [.Constant (.str s0) j0 p0, .Attribute (.Name n pn1) f pa] X.env = (false, eval (.Constant (.str s0) j0 p0) X.env) :: starEach [.Attribute (.Name n pn1) f pa] X.env := by rfl)
    (he2 : starEach [.Attribute (.Name n pn1) f pa] X.env = (false, eval (.Attribute (.Name n pn1) f pa) X.env) :: starEach [] X.env := by rfl) :
    PFS X ah E (.Try body [.ExceptHandler (some (.Name x np)) (some n) [.Return (some (.Tuple [.Constant (.str s0) j0 p0, .Attribute (.Name n pn1) f pa] kk pt)) pr] pos'] [] [] pos) (sTry1 fb x f i (.str s0)) := by
  obtain ⟨C, fI, fd, ps, hm, T, xf, hno, iC, tI, FI, hb, te⟩ := G
  have ch := fun W => choose_ws (X := X) (ah := ah) (W := W) (hbody W)
  refine ⟨_, ps_try_as (i := i) (c := .ref C) (tb := fun W => (ch W).choose) (ts := fun a cls d => tRet (tTup (tCons (tC (.str s0)) (tCons (tXf a cls d C f (tVar i)) tNil)))) (Wout := fun _ _ _ _ => False) hs hf hN hi hln ⟨hg, hdb, .inl hm⟩ takes0 (fun W pn xe tk hp => (ch W).choose_spec.1 pn xe tk hp)
    (fun a oe cls d pn hz hof => pss_one (ps_ret (pe_tup (pa_cons pe_str (pa_cons (pe_xf xf hno hz hof (pe_var hi hv hd hcd) hat) pa_nil he2) he1)))), ⟨fun F ρ g σ H S Z e R G => ?_⟩⟩
  refine (ch _).choose_spec.2.run F ρ g σ H S Z e R ?_
  simp only [sTry1] at G
  cases h : fb ρ g with
  | none => rw [h] at G; exact G
  | some o => cases o with
    | ok fl g1 => rw [h] at G; cases fl <;> exact G
    | ex cc ks ds g1 =>
      rw [h] at G
      dsimp only at G
      by_cases hc : cc = x ∧ (ρ[i]?).isSome = true
      case neg => rw [if_neg hc] at G; exact G.elim
      rw [if_pos hc] at G
      obtain ⟨rfl, hsome⟩ := hc
      cases q : (ks.zip ds).lookup f with
      | none => rw [q] at G; exact G.elim
      | some d =>
        rw [q] at G
        intro A dd H' S' hA sm R' hx
        have hA' : A = C := by
          rw [e] at hA
          have : some (Value.ref A) = some (Value.ref C) := hA.symm.trans hm
          injection this with this
          injection this
        subst hA'
        refine ⟨true, te, fun _ a na => ?_, fun z => by cases z⟩
        obtain ⟨fs, h1, h2, h3⟩ := hx
        have hne : fs ≠ [] := fun z => by
          subst z
          cases h3
          subst h2
          simp at q
        cases dd with
        | none => exact absurd h1 hne
        | some dx =>
          obtain ⟨v, k1, k2⟩ := lookup_Dn h2 h3 q
          have hi' : i < σ.length := by
            obtain ⟨en, hen⟩ := Option.isSome_iff_exists.mp hsome
            obtain ⟨so, k, _⟩ := R.slots i en hen
            exact (List.getElem?_eq_some_iff.mp k).1
          refine ⟨.ref a, by rw [List.getElem?_set_self hi'], rfl, rfl, dx, fs, v, rfl, R'.sub _ _ h1, k1, ?_⟩
          refine ⟨line_of (by simp), fun p hp => ?_⟩
          refine G (.ref p) _ (upd S' p (.tup [.str s0, v])) (sm.trans (R'.tosame _ hp)) (R'.up _ hp) ?_
          exact .tup (SqT.of upd_same) (.cons (.str s0) (.cons (k2.mono (R'.tosame _ hp)) .nil))
end
end FD
set_option Elab.async false
set_option linter.all false
set_option maxRecDepth 100000
set_option maxHeartbeats 4000000
namespace FD
open PySem L2 PyProof.Rows
section
variable {X : Cx} {ah : Option Addr} {E : L2.St → XK} {c : DC}
/-! ### is True, is False -/
theorem is_bool_gen {M : Model} {A : Around} {E : Value → Shared → Prop} {s : Shared} {Q : Value → Shared → Prop} {v : Value} {b : Bool} (hn : ∀ x, v ≠ .builtin x) (h : Q (.bool (v == .bool b)) s) : wpAny M A (compareOp .Is v (.bool b)) Q E s := by
  refine wpAny_is_plain ?_ h
  cases v <;> first | rfl | exact absurd rfl (hn _)
theorem isnot_bool_gen {M : Model} {A : Around} {E : Value → Shared → Prop} {s : Shared} {Q : Value → Shared → Prop} {v : Value} {b : Bool} (hn : ∀ x, v ≠ .builtin x) (h : Q (.bool (!(v == .bool b))) s) : wpAny M A (compareOp .IsNot v (.bool b)) Q E s := by
  refine wpAny_isNot_plain ?_ h
  cases v <;> first | rfl | exact absurd rfl (hn _)
theorem RelV.bool_iff {x : V} {v : Value} (r : RelV x v) (b : Bool) : (v == Value.bool b) = decide (x = .bl b) ∧ ∀ y, v ≠ .builtin y := by
  cases x with
  | non => cases r; exact ⟨rfl, fun y z => by cases z⟩
  | bl a => cases r; exact ⟨by cases a <;> cases b <;> rfl, fun y z => by cases z⟩
  | int _ => obtain ⟨t, rfl⟩ := r; exact ⟨rfl, fun y z => by cases z⟩
  | str _ => obtain ⟨t, rfl⟩ := r; exact ⟨rfl, fun y z => by cases z⟩
  | byt _ => obtain ⟨t, rfl⟩ := r; exact ⟨rfl, fun y z => by cases z⟩
  | flt _ => obtain ⟨t, rfl⟩ := r; exact ⟨rfl, fun y z => by cases z⟩
  | ref _ => cases r; exact ⟨rfl, fun y z => by cases z⟩
  | ty _ => cases r; exact ⟨rfl, fun y z => by cases z⟩
abbrev rIsBl : R2 := fun x y H Q => ∃ b, y = .bl b ∧ Q (.bl (decide (x = .bl b))) H
abbrev rNotBl : R2 := fun x y H Q => ∃ b, y = .bl b ∧ Q (.bl (!decide (x = .bl b))) H
theorem op_isBlA : OpR X (compareOp .Is) rIsBl := by
  intro pins s σ H x y v u Q I rx ry h
  obtain ⟨b, rfl, q⟩ := h
  cases ry
  obtain ⟨h1, h2⟩ := RelV.bool_iff rx b
  exact is_bool_gen h2 ⟨.bl _, H, I, by rw [h1]; rfl, q⟩
theorem op_notBlA : OpR X (compareOp .IsNot) rNotBl := by
  intro pins s σ H x y v u Q I rx ry h
  obtain ⟨b, rfl, q⟩ := h
  cases ry
  obtain ⟨h1, h2⟩ := RelV.bool_iff rx b
  exact isnot_bool_gen h2 ⟨.bl _, H, I, by rw [h1]; rfl, q⟩
def isBlB (b : Bool) : D → Bool
  | .bl k => k == b
  | _ => false
def isBlD : D → D → Option D
  | d, .bl b => some (.bl (isBlB b d))
  | _, _ => none
theorem Dn.bl_iff {S : Hp} {v : V} {d : D} (h : Dn c S v d) (b : Bool) : decide (v = .bl b) = isBlB b d := by
  cases h <;> simp [isBlB]
  rename_i k
  cases k <;> cases b <;> rfl
theorem os_isBl : OpS c rIsBl isBlD := by
  intro E F ρ g σ H S Q x y dx dy e R hx hy G
  cases hy <;> simp only [isBlD, lift] at G <;> first | exact G.elim | skip
  exact ⟨_, rfl, by rw [hx.bl_iff]; exact G.ret R (.bl _)⟩

/-! ### constants of the module -/
def ConstOk (K : PySem.W.Frag) (mg : Str → Option Value) (x : Str) (d : D) : Prop := ∃ v u, mg x = some u ∧ RelV v u ∧ ∀ ah S, Dn ⟨K, mg, ah⟩ S v d
theorem pf_const {x : Str} {d : D} {pos : Pos} (h : ConstOk X.K X.mg x d) (hg : Gl X x := by rfl) (hd : (x == ("__debug__" : Str)) = false := by decide) : PF X ah E (.Name x pos) (cD d) := by
  obtain ⟨v, u, h1, h2, h3⟩ := h
  exact ⟨_, pe_glob hg h1 h2 hd, re_c fun S => h3 ah S⟩
def strsV (zs : List Str) : List V := zs.map .str
def strsD (zs : List Str) : List D := zs.map .str
theorem Dns.strs {c : DC} {S : Hp} : ∀ zs : List Str, Dns c S (strsV zs) (strsD zs)
  | [] => .nil
  | z :: zs => .cons (.str z) (Dns.strs zs)

/-! ### == of things of the class Play, by its own __eq__ -/
/-- type(a) is type(b) -/
def tyEqD : D → D → Option D
  | .obj c _ _, .obj c' _ _ => if c = "Play" ∧ c' = "Play" then some (.bl true) else none
  | .obj c _ _, .tup _ => if c = "Play" then some (.bl false) else none
  | _, _ => none
/-- what type(x) gives -/
def rType (K : PySem.W.Frag) : List V → Hp → VK → Prop := fun xs H Q => (∃ a C dx fs, xs = [V.ref a] ∧ H a = some (.ins C dx fs) ∧ Q (.ref C) H) ∨ (∃ a vs, xs = [V.ref a] ∧ SqT K H a vs ∧ Q (.ty "tuple") H)
theorem call_typeD : CallR X (.type "type") (rType X.K) := by
  intro pins s σ H xs us Q I r h
  rcases h with h | ⟨a, vs, rfl, ht, q⟩
  · exact cr_type pins s σ H xs us Q I r h
  · obtain ⟨u, rfl, rx⟩ := vals1 r
    cases rx
    obtain ⟨its, rv, p, _⟩ := I.tuple ht
    exact call_type_of p.typeIs (by decide +kernel) ⟨.ty "tuple", H, I, rfl, q⟩
abbrev rIsTy (K : PySem.W.Frag) : R2 := fun x y H Q => (∃ a b, x = V.ref a ∧ y = V.ref b ∧ (a = b ∨ (PySem.W.makesIn K a = true ∧ PySem.W.makesIn K b = true)) ∧ Q (.bl (decide (a = b))) H) ∨ (∃ a n, x = V.ref a ∧ y = .ty n ∧ Q (.bl false) H)
theorem op_isTyD : OpR X (compareOp .Is) (rIsTy X.K) := by
  intro pins s σ H x y v u Q I rx ry h
  rcases h with h | ⟨a, n, rfl, rfl, q⟩
  · exact op_is_cls pins s σ H x y v u Q I rx ry h
  · cases rx; cases ry
    exact wpAny_is_plain rfl ⟨.bl false, H, I, rfl, q⟩
def isPlay : D → Bool
  | .obj c _ _ => c == "Play"
  | _ => false
@[simp] def cTyEq (a b : FE) : FE := fun ρ g => (a ρ g).bd fun x g1 => if isPlay x = true then (b ρ g1).bd fun y g2 => lift (tyEqD x y) g2 else none
theorem pf_tyEq {e1 e2 : Expr} {a b : FE} {p1 p2 q1 q2 pos : Pos} (hm : X.mg "type" = none) (ha : PF X ah E e1 a) (hb : PF X ah E e2 b) (hg : Gl X "type" := by rfl)
    (h1 : starEach [e1] X.env = (false, eval e1 X.env) :: starEach [] X.env := by rfl) (h2 : starEach [e2] X.env = (false, eval e2 X.env) :: starEach [] X.env := by rfl)
    (k1 : (backTo q1 (starEach [] X.env)).any (·.1) = false := by rfl) (k2 : (backTo q2 (starEach [] X.env)).any (·.1) = false := by rfl) :
    PF X ah E (.Compare (.Call (.Name "type" p1) [e1] [] q1) [.Is] [.Call (.Name "type" p2) [e2] [] q2] pos) (cTyEq a b) := by
  obtain ⟨t, p, r1⟩ := ha
  obtain ⟨u, q, r2⟩ := hb
  refine ⟨_, pe_cmpR op_isTyD (pe_callTy call_typeD hg hm (by decide +kernel) (pa_cons p pa_nil h1) (by decide) (by decide) h1 k1) (pe_callTy call_typeD hg hm (by decide +kernel) (pa_cons q pa_nil h2) (by decide) (by decide) h2 k2) (nomark _), ?_⟩
  refine RG.bind (r := fun σ x H1 (Q : VK) => rType X.K [x] H1 fun tx H2 => u σ H2 fun y H3 => rType X.K [y] H3 fun ty H4 => rIsTy X.K tx ty H4 Q) (k := fun ρ x g1 => if isPlay x = true then (b ρ g1).bd fun y g2 => lift (tyEqD x y) g2 else none) r1 fun F ρ g σ H S Q x d e R hx G => ?_
  by_cases hp : isPlay d = true
  case neg => rw [if_neg hp] at G; exact G.elim
  rw [if_pos hp] at G
  cases hx with
  | obj m h k hs =>
    rename_i cn fs ks ds
    have hc : cn = "Play" := by simpa [isPlay] using hp
    subst hc
    refine .inl ⟨_, _, _, _, rfl, R.sub _ _ h, ?_⟩
    refine r2.step e R G fun H1 S1 g1 y dy sm R1 hy G => ?_
    cases hy with
    | obj m' h' k' hs' =>
      rename_i cn' fs' ks' ds'
      dsimp only [tyEqD] at G
      by_cases hc' : cn' = "Play"
      · subst hc'
        rw [if_pos ⟨rfl, rfl⟩] at G
        have : some (Value.ref _) = some (Value.ref _) := m.symm.trans m'
        injection this with this
        injection this with this
        subst this
        exact .inl ⟨_, _, _, _, rfl, R1.sub _ _ h', .inl ⟨_, _, rfl, rfl, .inl rfl, by rw [decide_eq_true rfl]; exact G.ret R1 (.bl true)⟩⟩
      · rw [if_neg (fun z => hc' z.2)] at G; exact G.elim
    | tup h' hs' =>
      dsimp only [tyEqD] at G
      rw [if_pos rfl] at G
      exact .inr ⟨_, _, rfl, Same.tup R1.sub h', .inr ⟨_, _, rfl, rfl, G.ret R1 (.bl false)⟩⟩
    | _ => simp only [tyEqD, lift] at G; exact G.elim
  | _ => simp [isPlay] at hp
/-- a == b, a of the class Play -/
def EqOk (P : Program) (w : World) (K : PySem.W.Frag) (mg : Str → Option Value) (base : Heap) (k : Nat) (Fn : List D → Gh → M D) : Prop :=
  ∃ C f fd ps, mg "Play" = some (.ref C) ∧ FnOk P w K mg base CX0 k f fd ps (spF K mg 2 Fn) ∧ Binds K fd ps [] ∧ PySem.W.findIn K (.ref C) "__eq__" = some (some (.ref f)) ∧ PySem.W.isFn K (.ref f) = true ∧ PySem.W.subIn K (.type "tuple") (.ref C) = some false
def rEqP (K : PySem.W.Frag) (mg : Str → Option Value) (Fn : List D → Gh → M D) : R2 := fun x y H Q => ∃ a C dx fs b, x = .ref a ∧ mg "Play" = some (.ref C) ∧ H a = some (.ins C dx fs) ∧ y = .ref b ∧ ((∃ dy gs, H b = some (.ins C dy gs)) ∨ ∃ vs, SqT K H b vs) ∧
  spF K mg 2 Fn [x, y] H (fun v H' => ∃ k, v = .bl k ∧ Q (.bl k) H') E0
theorem op_eqP {k : Nat} {Fn : List D → Gh → M D} (hr : Room k X.A) (G : EqOk X.prog X.w X.K X.mg X.base k Fn) : OpR X (compareOp .Eq) (rEqP X.K X.mg Fn) := by
  intro pins s σ H x y v u Q I rx ry h
  obtain ⟨C, f, fd, ps, hmP, F, hb, hs, hf, hsub⟩ := G
  obtain ⟨a, C', dx, fs, b, rfl, hm', ha, rfl, hy, hsp⟩ := h
  have : C' = C := by
    have : some (Value.ref C') = some (Value.ref C) := hm'.symm.trans hmP
    injection this with this
    injection this
  subst this
  cases rx
  cases ry
  show wpAny (model X.prog X.w) X.A (richCompare .Eq (.ref a) (.ref b)) (EP X pins σ Q) X.xe s
  obtain ⟨mA, J, _⟩ := ins_get I.hok ha
  obtain ⟨od, J, _⟩ := J.look
  obtain ⟨m, hF⟩ := I.fr
  have main : ∀ tb, PySem.W.Looks (model X.prog X.w) s.heap (typeOf (.ref b)) tb → PySem.W.notFirst X.K C' tb = true → wpAny (model X.prog X.w) X.A (richCompare .Eq (.ref a) (.ref b)) (EP X pins σ Q) X.xe s := fun tb htb hn => by
    refine PySem.W.cmp_K (op := .Eq) (tb := tb) hr.units0 hF I.ok.mod.kin J htb hn hs hf ?_
    have hl := F.len _ _ _ _ hsp
    have r2 : Vals [V.ref a, V.ref b] [Value.ref a, Value.ref b] := .cons rfl (.cons rfl .nil)
    refine wpAny_call (codeAny_mono (F.run X.A X.stack s H ⟨[.ref a, .ref b], []⟩ [.ref a, .ref b] [.ref a, .ref b] _ E0 hr I.env0 (by
      have := hb s [.ref a, .ref b] I.kIn (by simpa using hl)
      simpa using this) r2 hsp) fun r s' hq => ?_)
    cases r with
    | error e => exact False.elim hq
    | ok fl =>
      cases fl with
      | ret w =>
        obtain ⟨z, H', I', rz, k, ez, q⟩ := I.after hq
        subst ez
        cases rz
        exact ⟨.bl k, H', I', rfl, q⟩
      | next => exact False.elim hq
      | brk => exact False.elim hq
      | cont => exact False.elim hq
  rcases hy with ⟨dy, gs, hb'⟩ | ⟨vs, ht⟩
  · obtain ⟨mB, J', _⟩ := ins_get I.hok hb'
    obtain ⟨od', J', _⟩ := J'.look
    exact main (.ref C') J'.type (by simp [PySem.W.notFirst])
  · obtain ⟨its, rv, p, _⟩ := I.tuple ht
    obtain ⟨o, ho, hc, _⟩ := p
    exact main (.type "tuple") (fun A Q E s' kk q => wpAny_typeOf ⟨o, kk _ _ ho, hc⟩ q) (by simp [PySem.W.notFirst, hsub])
@[simp] def cEqP (Fn : List D → Gh → M D) (a b : FE) : FE := fun ρ g => (a ρ g).bd fun x g1 => (b ρ g1).bd fun y g2 => if isPlay x = true ∧ (isPlay y || isTyB "tuple" y) = true then match noX (Fn [x, y] g2) with
  | some (.ok (.bl k) g3) => some (.ok (.bl k) g3)
  | _ => none
  else none
theorem re_eqP {Fn : List D → Gh → M D} {ta tb : TE} {a b : FE} (ha : RE c E ta a) (hb : RE c E tb b) : RE c E (tOp (rEqP c.K c.mg Fn) ta tb) (cEqP Fn a b) := by
  refine RG.bind (r := fun σ x H1 (Q : VK) => tb σ H1 fun y H2 => rEqP c.K c.mg Fn x y H2 Q) (k := fun ρ x g1 => (b ρ g1).bd fun y g2 => if isPlay x = true ∧ (isPlay y || isTyB "tuple" y) = true then match FD.noX (Fn [x, y] g2) with
  | some (.ok (.bl k) g3) => some (.ok (D.bl k) g3)
  | _ => none
  else none) ha fun F ρ g σ H S Q x dx e R hx G => ?_
  refine hb.step e R G fun H1 S1 g1 y dy sm R1 hy G2 => ?_
  clear G
  have hx := hx.mono sm
  by_cases hp : isPlay dx = true ∧ (isPlay dy || isTyB "tuple" dy) = true
  case neg => rw [if_neg hp] at G2; exact G2.elim
  rw [if_pos hp] at G2
  obtain ⟨hp, hpy⟩ := hp
  cases h : Fn [dx, dy] g1 with
  | none => rw [h] at G2; exact G2.elim
  | some o => cases o with
    | ex _ _ _ _ => rw [h] at G2; exact G2.elim
    | ok d g3 =>
      rw [h] at G2
      simp only [FD.noX] at G2
      cases d <;> try exact G2.elim
      rename_i k
      cases hx with
      | obj m hh kk hs =>
        rename_i cn fs ks ds
        have hc : cn = "Play" := by simpa [isPlay] using hp
        subst hc
        have hxx : Dn c S1 (.ref _) (.obj "Play" ks ds) := .obj m hh kk hs
        subst e
        rename_i a0 C0 dx0
        have fin : ∀ b, y = .ref b → ((∃ dy gs, H1 b = some (.ins C0 dy gs)) ∨ ∃ vs, SqT F.c.K H1 b vs) → rEqP F.c.K F.c.mg Fn (.ref a0) y H1 Q := fun b hyb hkind => by
          refine ⟨_, _, _, _, b, rfl, m, R1.sub _ _ hh, hyb, hkind, F.c.ah, S1, g1, [.obj "Play" ks ds, dy], rfl, R1.sub_frame, .cons hxx (.cons hy .nil), ?_⟩
          refine Got.frame (ρ := ρ) (σ := σ) R1 ?_
          rw [h]
          exact fun v H' S' sm R' hv => ⟨k, hv.blE, G2 (.bl k) H' S' sm R' (.bl k)⟩
        cases hy with
        | obj m' h' k' hs' => 
          rename_i cn' fs' ks' ds'
          have hc' : cn' = "Play" := by simpa [isPlay, isTyB] using hpy
          subst hc'
          have e2 := m.symm.trans m'
          injection e2 with e2
          injection e2 with e2
          subst e2
          exact fin _ rfl (.inl ⟨_, _, R1.sub _ _ h'⟩)
        | tup h' hs' => exact fin _ rfl (.inr ⟨_, Same.tup R1.sub h'⟩)
        | _ => simp [isPlay, isTyB] at hpy
      | _ => simp [isPlay] at hp
theorem pf_eqP {k : Nat} {Fn : List D → Gh → M D} {e1 e2 : Expr} {a b : FE} {pos} (hr : Room k X.A) (G : EqOk X.prog X.w X.K X.mg X.base k Fn) (ha : PF X ah E e1 a) (hb : PF X ah E e2 b) : PF X ah E (.Compare e1 [.Eq] [e2] pos) (cEqP Fn a b) := by
  obtain ⟨t, p, r1⟩ := ha
  obtain ⟨u, q, r2⟩ := hb
  exact ⟨_, pe_cmpR (op_eqP hr G) p q (nomark _), re_eqP (c := dc X ah) r1 r2⟩
end
end FD
set_option Elab.async false
set_option linter.all false
set_option maxRecDepth 100000
set_option maxHeartbeats 4000000
namespace FD
open PySem L2 PyProof.Rows
theorem hu64 {k : Nat} {A : Around} (hr : Room k A) : A.units + 64 < cLine := by have := hr.un; omega
section
variable {X : Cx} {ah : Option Addr} {E : L2.St → XK} {c : DC}
theorem pft_eqP {k : Nat} {Fn : List D → Gh → M D} {e1 e2 : Expr} {a b : FE} {pos} (hr : Room k X.A) (G : EqOk X.prog X.w X.K X.mg X.base k Fn) (ha : PF X ah E e1 a) (hb : PF X ah E e2 b) : PFT X ah E (.Compare e1 [.Eq] [e2] pos) (cT (cEqP Fn a b)) := by
  obtain ⟨t, p, r1⟩ := ha
  obtain ⟨u, q, r2⟩ := hb
  exact ⟨_, pt_cmpR (op_eqP hr G) p q (nomark _), rt_of (re_eqP (c := dc X ah) r1 r2)⟩
end
/-- a def of the text, where it stands -/
def DefAt (K : PySem.W.Frag) (mg : Str → Option Value) (x : Str) (st : Stmt) (ps : List Str) : Prop := ∃ f fd, Fun K x x st f fd ∧ mg x = some (.ref f) ∧ Binds K fd ps []
theorem DefAt.ok {P : Program} {w : World} {K : PySem.W.Frag} {mg : Str → Option Value} {base : Heap} {x : Str} {st : Stmt} {N ps : List Str} {k n : Nat} {b : FS} (A : DefAt K mg x st ps) (Sc : FnScope N ps (defScope st)) (hn : ps.length = n) (hN : n ≤ N.length)
    (hb : ∀ (f : Addr) (cdv : Value) (A : Around) (outer : List Env) (s : Shared) (H : Hp) (E : XK) (ah : Option Addr), Room k (A.deeper (envOfC x (defScope st) s.heap.objs.size f cdv)) → PFSs ((cxOf CX0 P w K mg base N x (defScope st) f cdv A outer s H E).nox) ah E0 (defBody st) b) :
    DefOk P w K mg base CX0 x (k + 1) n fun ds g => noX (fnOf N.length b ds g) := by
  obtain ⟨f, fd, F, m, bn⟩ := A
  exact ⟨f, fd, ps, fd_ok F Sc hn hN (fun cdv A outer s H E ah hr => hb f cdv A outer s H E ah hr), m, F.kp, bn⟩
theorem DefAt.okX {P : Program} {w : World} {K : PySem.W.Frag} {mg : Str → Option Value} {base : Heap} {x : Str} {st : Stmt} {N ps : List Str} {k n : Nat} {b : FS} (A : DefAt K mg x st ps) (Sc : FnScope N ps (defScope st)) (hn : ps.length = n) (hN : n ≤ N.length)
    (hb : ∀ (f : Addr) (cdv : Value) (A : Around) (outer : List Env) (s : Shared) (H : Hp) (E : XK) (ah : Option Addr), Room k (A.deeper (envOfC x (defScope st) s.heap.objs.size f cdv)) → PFSs (cxOf (L2.CX P w) P w K mg base N x (defScope st) f cdv A outer s H E) ah E (defBody st) b) :
    DefOk P w K mg base (L2.CX P w) x (k + 1) n fun ds g => fnOf N.length b ds g := by
  obtain ⟨f, fd, F, m, bn⟩ := A
  exact ⟨f, fd, ps, fd_okX F Sc hn hN (fun cdv A outer s H E ah hr => hb f cdv A outer s H E ah hr), m, F.kp, bn⟩

/-! ### an __init__ that refuses twice and keeps two things -/
def exOf (m : M Fl) : M D := match m with
  | some (.ex c ks ds g) => some (.ex c ks ds g)
  | _ => none
def mkF2 (cn x1 x2 : Str) (q1 : FT) (r1 : FS) (q2 : FT) (r2 : FS) (N : Nat) (ds : List D) (g : Gh) : M D :=
  let ρ := En.un :: ds.map .dt ++ List.replicate (N - 3) .un
  (q1 ρ g).bd fun k g1 => if k = true then exOf (r1 ρ g1) else (q2 ρ g1).bd fun k2 g2 => if k2 = true then exOf (r2 ρ g2) else some (.ok (.obj cn [x1, x2] ds) g2)
theorem GotS.exOf {F F' : Fx} {S : Hp} {E : XK} {Z : Ends} {m : M Fl} {R : D → Gh → Prop} (w : ∀ {cc ks es g'}, GotX F' S E cc ks es g' → GotX F S E cc ks es g') (G : match FD.exOf m with
    | none => False
    | some (.ok d g) => R d g
    | some (.ex c ks ds g) => GotX F' S E c ks ds g) : GotS F S E Z m := by
  cases m with
  | none => exact G
  | some o => cases o with
    | ok fl g => exact G.elim
    | ex _ _ _ _ => exact w G
theorem mk_ok2 {P : Program} {w : World} {K : PySem.W.Frag} {mg : Str → Option Value} {base : Heap} {qual cn x1 x2 : Str} {st : Stmt} {f C : Addr} {fd : FuncData} {N : List Str} {k : Nat} {t1 t2 : Expr} {b1 b2 : Stmt} {i1 i2 a1 a2 a3 a4 a5 a6 a7 a8 : Pos} {q1 q2 : FT} {r1 r2 : FS}
    (F : Fun K "__init__" qual st f fd) (Sc : FnScope N [("self" : Str), x1, x2] (defScope st)) (hN : N = ("self" : Str) :: x1 :: x2 :: N.drop 3) (hcl : Cls K C) (hn1 : NoAttr K C x1) (hn2 : NoAttr K C x2) (hx : x1 ≠ x2) (hm : mg cn = some (.ref C))
    (hbody : defBody st = [.If t1 [b1] [] i1, .If t2 [b2] [] i2, .Assign [.Attribute (.Name "self" a1) x1 a2] (.Name x1 a3) a4, .Assign [.Attribute (.Name "self" a5) x2 a6] (.Name x2 a7) a8])
    (hl0 : (defScope st).names.lookup ("self" : Str) = some .local) (hl1 : (defScope st).names.lookup x1 = some .local) (hl2 : (defScope st).names.lookup x2 = some .local)
    (hd1 : (x1 == ("__debug__" : Str)) = false) (hc1 : (x1 == ("__classdict__" : Str)) = false) (hd2 : (x2 == ("__debug__" : Str)) = false) (hc2 : (x2 == ("__classdict__" : Str)) = false)
    (hb : ∀ (cdv : Value) (A : Around) (outer : List Env) (s : Shared) (H : Hp) (E : XK) (ah : Option Addr), Room k (A.deeper (envOfC qual (defScope st) s.heap.objs.size f cdv)) →
      PFT (cxOf (L2.CX P w) P w K mg base N qual (defScope st) f cdv A outer s H E) ah (fun _ => E) t1 q1 ∧ PFS (cxOf (L2.CX P w) P w K mg base N qual (defScope st) f cdv A outer s H E) ah E b1 r1 ∧
      PFT (cxOf (L2.CX P w) P w K mg base N qual (defScope st) f cdv A outer s H E) ah (fun _ => E) t2 q2 ∧ PFS (cxOf (L2.CX P w) P w K mg base N qual (defScope st) f cdv A outer s H E) ah E b2 r2) :
    FnOk P w K mg base (L2.CX P w) (k + 1) f fd [("self" : Str), x1, x2] (spMk K mg C 2 (mkF2 cn x1 x2 q1 r1 q2 r2 N.length)) := by
  refine F.okX Sc (fun vs H Q E h => ?_) (fun cdv A outer s H vs Q E hr h => ?_)
  · obtain ⟨ah, S, g, a, dx, vs', ds, rfl, hl, _, _, _, hv, _⟩ := h
    simp [hv.length, hl]
  · obtain ⟨ah, S, g, a, dx, vs', ds, rfl, hl, ha, hsa, R, hv, hah, G⟩ := h
    obtain ⟨⟨u1, p1, z1⟩, ⟨v1, p2, z2⟩, ⟨u2, p3, z3⟩, ⟨v2, p4, z4⟩⟩ := hb cdv A outer s H E ah hr
    rw [hbody]
    refine ⟨_, pss_cons (ps_if p1 (pss_one p2) pss_nil) (pss_cons (ps_if p3 (pss_one p4) pss_nil)
      (pss_cons (ps_fld (pe_var (i := 0) (by rw [show (cxOf (L2.CX P w) P w K mg base N qual (defScope st) f cdv A outer s H E).N = N from rfl, hN]; rfl) (.inl hl0) (by decide) (by decide)) (pe_var (i := 1) (by rw [show (cxOf (L2.CX P w) P w K mg base N qual (defScope st) f cdv A outer s H E).N = N from rfl, hN]; rfl) (.inl hl1) hd1 hc1) rfl)
      (pss_one (ps_fld (pe_var (i := 0) (by rw [show (cxOf (L2.CX P w) P w K mg base N qual (defScope st) f cdv A outer s H E).N = N from rfl, hN]; rfl) (.inl hl0) (by decide) (by decide)) (pe_var (i := 2) (by rw [show (cxOf (L2.CX P w) P w K mg base N qual (defScope st) f cdv A outer s H E).N = N from rfl, hN]; rfl) (.inl hl2) hd2 hc2) rfl)))), ?_⟩
    have hds : ∃ d1 d2, ds = [d1, d2] := by
      match ds, hl with
      | [d1, d2], _ => exact ⟨d1, d2, rfl⟩
    obtain ⟨d1, d2, rfl⟩ := hds
    obtain ⟨w1, w2, rfl, h1, h2⟩ := hv.two
    let Fr : Fx := ⟨⟨K, mg, ah⟩, H, S⟩
    let Fw : Fx := ⟨⟨K, mg, ah⟩, (fun b => if b = a then none else H b), S⟩
    have weak : ∀ {g' H' S'}, Rep Fr [] g' [] H' S' → Rep Fw [] g' [] H' S' := fun {g' H' S'} B => by
      refine ⟨B.sub, B.hand, fun b o h1 h2 => B.keep b o ?_ h2, fun b h1 h2 => B.stay b ?_ h2, fun i e h => by simp at h, fun i j p xs ys h => by simp at h⟩
      · show H b = some o
        have e : (if b = a then none else H b) = some o := h1
        split at e
        · cases e
        · exact e
      · intro e0
        apply h1
        have e0 : H b = none := e0
        show (if b = a then none else H b) = none
        rw [e0]; split <;> rfl
    have weakX : ∀ {S1 cc ks es g'}, GotX Fw S1 E cc ks es g' → GotX Fr S1 E cc ks es g' := fun {S1 cc ks es g'} hG A dd H' S' m sm B z => hG A dd H' S' m sm (weak B) z
    have hN3 : N.length = 3 + (N.length - 3) := by rw [hN]; simp; omega
    have R0 : Rep Fr (En.un :: [d1, d2].map .dt ++ List.replicate (N.length - 3) .un) g (start N [.ref a, w1, w2]) H S := by
      refine Rep.forget R (fun i en h => ?_) fun i j p xs ys h => ?_
      · match i, h with
        | 0, h => simp at h; subst h; exact ⟨some (.ref a), by simp [L2.start], trivial⟩
        | 1, h => simp at h; subst h; exact ⟨some w1, by simp [L2.start], w1, rfl, h1⟩
        | 2, h => simp at h; subst h; exact ⟨some w2, by simp [L2.start], w2, rfl, h2⟩
        | i + 3, h =>
          simp [List.getElem?_replicate] at h
          obtain ⟨h3, rfl⟩ := h
          refine ⟨none, ?_, trivial⟩
          simp [L2.start, List.getElem?_replicate]
          omega
      · match i, h with
        | 0, h => simp at h
        | 1, h => simp at h
        | 2, h => simp at h
        | i + 3, h => simp [List.getElem?_replicate] at h
    have hs0 : (start N [.ref a, w1, w2])[0]? = some (some (.ref a)) := by simp [L2.start]
    have hs1 : (start N [.ref a, w1, w2])[1]? = some (some w1) := by simp [L2.start]
    have hs2 : (start N [.ref a, w1, w2])[2]? = some (some w2) := by simp [L2.start]
    -- the two tests
    refine z1.run Fr _ g _ H S _ rfl R0 ?_
    unfold mkF2 at G
    dsimp only at G
    generalize hρ : (En.un :: [d1, d2].map .dt ++ List.replicate (N.length - 3) .un) = ρ at G R0 ⊢
    cases e1 : q1 ρ g with
    | none => rw [e1] at G; exact G.elim
    | some o1 => cases o1 with
      | ex _ _ _ _ => rw [e1] at G; exact weakX G
      | ok kk g1 =>
        rw [e1] at G
        simp only [M.bd] at G
        intro kb H1 S1 sm1 R1 hk
        have hk : kb = kk := hk
        subst hk
        cases kb with
        | true =>
          rw [if_pos rfl] at G ⊢
          refine z2.run Fr ρ g1 _ H1 S1 _ rfl R1 (GotS.mono ?_ sm1)
          exact GotS.exOf weakX G
        | false =>
          rw [if_neg (by simp)] at G ⊢
          refine z3.run Fr ρ g1 _ H1 S1 _ rfl R1 ?_
          cases e2 : q2 ρ g1 with
          | none => rw [e2] at G; exact G.elim
          | some o2 => cases o2 with
            | ex _ _ _ _ => rw [e2] at G; exact GotX.mono (weakX G) sm1
            | ok k2 g2 =>
              rw [e2] at G
              simp only at G
              intro kb2 H2 S2 sm2 R2 hk2
              have hk2 : kb2 = k2 := hk2
              subst hk2
              cases kb2 with
              | true =>
                rw [if_pos rfl] at G ⊢
                refine z4.run Fr ρ g2 _ H2 S2 _ rfl R2 (GotS.mono ?_ (sm1.trans sm2))
                exact GotS.exOf weakX G
              | false =>
                rw [if_neg (by simp)] at G ⊢
                have ka : H2 a = some (.ins C dx []) := R2.keep a _ ha hah
                have sa : (S2 a : Option HO) = none := R2.stay a (by show H a ≠ none; rw [ha]; simp) hsa
                have n12 : ¬ x2 = x1 := fun z => hx z.symm
                have pf : putF x2 w2 (putF x1 w1 []) = [(x1, w1), (x2, w2)] := by
                  show (if x1 = x2 then _ else (x1, w1) :: putF x2 w2 []) = _
                  rw [if_neg hx]
                  rfl
                refine ⟨w1, hs1, .ref a, hs0, a, C, dx, [], rfl, ka, hcl, hn1, by decide, ?_⟩
                refine ⟨w2, hs2, .ref a, hs0, a, C, dx, putF x1 w1 [], rfl, upd_same, hcl, hn2, by show 1 < 1000; decide, ?_⟩
                rw [upd_upd, pf]
                have smT := sm1.trans sm2
                have Rw : Rep Fw [] g2 [] (upd H2 a (.ins C dx [(x1, w1), (x2, w2)])) S2 := (weak R2.bare).write1 sa (by show (if a = a then none else H a) = none; rw [if_pos rfl]) hah
                exact G _ S2 [(x1, w1), (x2, w2)] smT upd_same sa Rw ⟨cn, [x1, x2], [d1, d2], rfl, hm, rfl, .cons (h1.mono smT) (.cons (h2.mono smT) .nil)⟩
end FD
set_option Elab.async false
set_option linter.all false
set_option maxRecDepth 100000
set_option maxHeartbeats 4000000
namespace FD
open PySem L2 PyProof.Rows
/-- def _law_hand(script): return [list(script), 0, 0, 1, 0] -/
theorem hand_ok {P : Program} {w : World} {K : PySem.W.Frag} {mg : Str → Option Value} {base : Heap} {x y : Str} {st : Stmt} {f : Addr} {fd : FuncData} {p1 p2 p3 p4 p5 p6 p7 p8 p9 : Pos} {j1 j2 j3 j4} (F : Fun K x x st f fd) (Sc : FnScope [y] [y] (defScope st)) (hl : mg "list" = none)
    (hb : defBody st = [.Return (some (.List [.Call (.Name "list" p1) [.Name y p2] [] p3, .Constant (.int 0) j1 p4, .Constant (.int 0) j2 p5, .Constant (.int 1) j3 p6, .Constant (.int 0) j4 p7] p8)) p9])
    (h1 : (defScope st).names.lookup y = some .local) (h2 : (defScope st).names.lookup ("list" : Str) = some .globalImplicit) (hd : (y == ("__debug__" : Str)) = false) (hcd : (y == ("__classdict__" : Str)) = false) : FnOk P w K mg base CX0 1 f fd [y] (spHand K) := by
  refine F.ok Sc (fun vs H Q E h => ?_) (fun cdv A outer s H vs Q E hr h => ?_)
  · obtain ⟨a, xs, rfl, _⟩ := h
    rfl
  · obtain ⟨a, xs, rfl, hS, k⟩ := h
    rw [hb]
    refine ⟨_, pss_one (ps_ret (pe_lst (pa_cons (pe_callTy call_list_of h2 hl (by decide +kernel) (pa_cons (pe_var (i := 0) rfl (.inl h1) hd hcd) pa_nil)) (pa_cons pe_int (pa_cons pe_int (pa_cons pe_int (pa_cons pe_int pa_nil))))))), ?_⟩
    refine ⟨_, rfl, a, _, rfl, .inl hS, fun q hq => ⟨line_of (by simp), fun p hp => k q hq p hp⟩⟩
/-- the law's promise -/
def spLaw (K : PySem.W.Frag) : Sp := fun vs H Q _ => ∃ (a : Addr) (ns : List Int), vs = [.ref a] ∧ SqL K H a (ns.map V.int) ∧ ns.length ≤ 63 ∧ ∀ H', Q (.bl true) H'
/-- law(script): hand = _law_hand(script); .. -/
theorem law_ok {P : Program} {w : World} {K : PySem.W.Frag} {mg : Str → Option Value} {base : Heap} {x y hn : Str} {xh : Str} {st : Stmt} {f fh : Addr} {fd fdh : FuncData} {N psh : List Str} {k : Nat} {rest : List Stmt} {b : FS} {p1 p2 p3 p4 p5 : Pos} (F : Fun K x x st f fd) (Sc : FnScope N [y] (defScope st)) (hN : N = y :: hn :: N.drop 2) (hk : 1 ≤ k)
    (GH : FnOk P w K mg base CX0 1 fh fdh psh (spHand K)) (hmh : mg xh = some (.ref fh)) (hkp : PySem.W.keepIn K (.ref fh) = true) (hbh : Binds K fdh psh [])
    (hbody : defBody st = .Assign [.Name hn p1] (.Call (.Name xh p2) [.Name y p3] [] p4) p5 :: rest)
    (hg : (defScope st).names.lookup xh = some .globalImplicit) (hy : (defScope st).names.lookup y = some .local) (hh : Loc (defScope st) hn) (hd : (y == ("__debug__" : Str)) = false) (hcd : (y == ("__classdict__" : Str)) = false) (hdx : (xh == ("__debug__" : Str)) = false)
    (hb : ∀ (cdv : Value) (A : Around) (outer : List Env) (s : Shared) (H : Hp) (E : XK) (ah : Option Addr), Room k (A.deeper (envOfC x (defScope st) s.heap.objs.size f cdv)) → PFSs ((cxOf CX0 P w K mg base N x (defScope st) f cdv A outer s H E).nox) ah E0 rest b)
    (hs : ∀ (cdv : Value) (A : Around) (outer : List Env) (s : Shared) (H : Hp) (E : XK), swapsWith (.Call (.Name xh p2) [.Name y p3] [] p4) (some (.Name hn p1)) p5.line ((cxOf CX0 P w K mg base N x (defScope st) f cdv A outer s H E).nox).env = pure false)
    (main : ∀ ns : List Int, ns.length ≤ 63 → ∃ g, b (.un :: .dt .hnd :: List.replicate (N.length - 2) .un) ⟨ns, 0, 0, 1, 0⟩ = some (.ok (.rt (.bl true)) g)) : FnOk P w K mg base CX0 (k + 1) f fd [y] (spLaw K) := by
  refine F.ok Sc (fun vs H Q E h => ?_) (fun cdv A outer s H vs Q E hr h => ?_)
  · obtain ⟨a, xs, rfl, _⟩ := h
    rfl
  · obtain ⟨a, ns, rfl, hS, hlen, kQ⟩ := h
    rw [hbody]
    have N0 : ((cxOf CX0 P w K mg base N x (defScope st) f cdv A outer s H E).nox).N = N := rfl
    have ch : ∀ ah, ∃ t, PSs ((cxOf CX0 P w K mg base N x (defScope st) f cdv A outer s H E).nox) rest t ∧ RS ⟨K, mg, ah⟩ E0 t b := fun ah => hb cdv A outer s H E ah hr
    -- one reading, wherever the hand stands
    let tr : TS := fun Z σ H => ∃ ah, (ch ah).choose Z σ H
    have ptr : PSs ((cxOf CX0 P w K mg base N x (defScope st) f cdv A outer s H E).nox) rest tr := ⟨fun pins s' σ H' Z I ⟨ah, hw⟩ => (ch ah).choose_spec.1.run pins s' σ H' Z I hw⟩
    have i0 : ((cxOf CX0 P w K mg base N x (defScope st) f cdv A outer s H E).nox).N[0]? = some y := by rw [N0, hN]; rfl
    have i1 : ((cxOf CX0 P w K mg base N x (defScope st) f cdv A outer s H E).nox).N[1]? = some hn := by rw [N0, hN]; rfl
    refine ⟨_, pss_cons (ps_set (i := 1) Sc.nd i1 hh (pe_call GH (hr.mono hk) hg hmh hkp hbh .nil pass0 (pa_cons (pe_var (i := 0) i0 (.inl hy) hd hcd) pa_nil) hdx) (hs cdv A outer s H E) (.inl rfl)) ptr, ?_⟩
    have hs0 : (start N [.ref a])[0]? = some (some (.ref a)) := by simp [L2.start]
    have hl : 2 ≤ N.length := by rw [hN]; simp
    refine ⟨_, hs0, a, ns, rfl, hS, fun q hq p hp => ⟨some p, ?_⟩⟩
    have nqp : p ≠ q := fun z => by rw [z, upd_same] at hp; cases hp
    obtain ⟨g, hm⟩ := main ns hlen
    refine (ch (some p)).choose_spec.2.run ⟨⟨K, mg, some p⟩, fun _ => none, fun _ => none⟩ (.un :: .dt .hnd :: List.replicate (N.length - 2) .un) ⟨ns, 0, 0, 1, 0⟩ _ _ (upd (fun _ => none) q (.lst (ns.map V.int))) _ rfl ?_ ?_
    · refine ⟨fun b o e => ?_, ?_, fun b o e => by simp at e, fun b e => by simp at e, fun i en h => ?_, fun i j p' xs ys h => ?_⟩
      · by_cases hb2 : b = q
        · subst hb2
          rw [upd_same] at e
          rw [upd_ne (Ne.symm nqp), upd_same]; exact e
        · rw [upd_ne hb2] at e; cases e
      · refine ⟨?_, q, ?_, ?_⟩
        · show upd (fun _ => none) q _ p = none
          rw [upd_ne nqp]
        · exact upd_same
        · exact upd_same
      · match i, h with
        | 0, h => simp at h; subst h; exact ⟨_, by rw [List.getElem?_set_ne (by decide)]; exact hs0, trivial⟩
        | 1, h =>
          simp at h; subst h
          exact ⟨some (.ref p), List.getElem?_set_self (by simp [L2.start]; omega), .ref p, rfl, .hnd rfl⟩
        | i + 2, h =>
          simp [List.getElem?_replicate] at h
          obtain ⟨h1, rfl⟩ := h
          refine ⟨none, ?_, trivial⟩
          rw [List.getElem?_set_ne (by omega)]
          simp [L2.start, List.getElem?_replicate]
          omega
      · match i, h with
        | 0, h => simp at h
        | 1, h => simp at h
        | i + 2, h => simp [List.getElem?_replicate] at h
    · rw [hm]
      intro v H' S' _ _ hv
      cases hv.blE
      exact kQ H'
end FD
set_option Elab.async false
set_option linter.all false
set_option maxRecDepth 100000
set_option maxHeartbeats 1000000
namespace FD
open PySem L2
/-! # Reckoning with the functions -/
@[simp] theorem noX_ok {α : Type} (a : α) (g : Gh) : noX (some (.ok a g)) = some (.ok a g) := rfl
@[simp] theorem noX_none {α : Type} : noX (none : M α) = none := rfl
theorem sSeq_nx {a b : FS} {ρ g ρ1 g1} (h : a ρ g = some (.ok (.nx ρ1) g1)) : sSeq a b ρ g = b ρ1 g1 := by unfold sSeq; rw [h]
theorem sSeq_rt {a b : FS} {ρ g d g1} (h : a ρ g = some (.ok (.rt d) g1)) : sSeq a b ρ g = some (.ok (.rt d) g1) := by unfold sSeq; rw [h]
/-! ### == -/
@[simp] theorem eqD_int (i j : Int) : eqD (.int i) (.int j) = some (.bl (i == j)) := by
  simp [eqD, eqB, D.py, SeqAt.shaped, PyData.canLay0, PyData.depth, PyData.eqv]
@[simp] theorem neD_int (i j : Int) : neD (.int i) (.int j) = some (.bl (!(i == j))) := by
  simp [neD, eqB, D.py, SeqAt.shaped, PyData.canLay0, PyData.depth, PyData.eqv]
@[simp] theorem eqD_bl (i j : Bool) : eqD (.bl i) (.bl j) = some (.bl (i == j)) := by
  simp [eqD, eqB, D.py, SeqAt.shaped, PyData.canLay0, PyData.depth, PyData.eqv]
@[simp] theorem neD_bl (i j : Bool) : neD (.bl i) (.bl j) = some (.bl (!(i == j))) := by
  simp [neD, eqB, D.py, SeqAt.shaped, PyData.canLay0, PyData.depth, PyData.eqv]
def okStr (z : Str) : Bool := PyData.canLay0 (.str z)
theorem eqD_str {a b : Str} (ha : okStr a = true) (hb : okStr b = true) : eqD (.str a) (.str b) = some (.bl (a == b)) := by
  unfold okStr at ha hb
  simp [eqD, eqB, D.py, SeqAt.shaped, PyData.depth, PyData.eqv, ha, hb]
theorem neD_str {a b : Str} (ha : okStr a = true) (hb : okStr b = true) : neD (.str a) (.str b) = some (.bl (!(a == b))) := by
  unfold okStr at ha hb
  simp [neD, eqB, D.py, SeqAt.shaped, PyData.depth, PyData.eqv, ha, hb]
/-! ### the order of ints -/
@[simp] theorem ltD_int (i j : Int) : ltD (.int i) (.int j) = some (.bl (decide (i < j))) := rfl
@[simp] theorem leD_int (i j : Int) : leD (.int i) (.int j) = some (.bl (decide (i ≤ j))) := rfl
@[simp] theorem gtD_int (i j : Int) : gtD (.int i) (.int j) = some (.bl (decide (j < i))) := rfl
@[simp] theorem geD_int (i j : Int) : geD (.int i) (.int j) = some (.bl (decide (j ≤ i))) := rfl
@[simp] theorem addD_int (i j : Int) : addD (.int i) (.int j) = some (.int (i + j)) := rfl
@[simp] theorem subD_int (i j : Int) : subD (.int i) (.int j) = some (.int (i - j)) := rfl
theorem modD_int {i j : Int} (h : j ≠ 0) : modD (.int i) (.int j) = some (.int (i.fmod j)) := by simp [modD, intD, h]
theorem divD_int {i j : Int} (h : j ≠ 0) (h2 : j.natAbs < 1073741824) : divD (.int i) (.int j) = some (.int (i.fdiv j)) := by simp [divD, intD, h, h2]
theorem mulD_int {i j : Int} (h : small64 i ∨ small64 j) : mulD (.int i) (.int j) = some (.int (i * j)) := by
  show (if small64 i ∨ small64 j then _ else _) = _
  rw [if_pos h]
@[simp] theorem negD_int (i : Int) : negD (.int i) = some (.int (-i)) := rfl
@[simp] theorem lenD_tup (xs : List D) : lenD [.tup xs] = some (.int xs.length) := rfl
@[simp] theorem lenD_lst (xs : List D) : lenD [.lst xs] = some (.int xs.length) := rfl
@[simp] theorem tupleD_lst (xs : List D) : tupleD [.lst xs] = some (.tup xs) := rfl
@[simp] theorem tupleD_tup (xs : List D) : tupleD [.tup xs] = some (.tup xs) := rfl
@[simp] theorem seqOf_tup (xs : List D) : seqOf (.tup xs) = some xs := rfl
@[simp] theorem seqOf_lst (xs : List D) : seqOf (.lst xs) = some xs := rfl
@[simp] theorem intOf_int (i : Int) : intOf [.int i] = some (.int i) := rfl
@[simp] theorem isND_non (d : D) : isND d .non = some (.bl (isNonB d)) := by cases d <;> rfl
@[simp] theorem notND_non (d : D) : notND d .non = some (.bl (!isNonB d)) := by cases d <;> rfl
@[simp] theorem isBlD_bl (d : D) (b : Bool) : isBlD d (.bl b) = some (.bl (isBlB b d)) := by cases d <;> rfl
theorem atI_nat {α : Type} {xs : List α} {k : Nat} : atI xs (k : Int) = xs[k]? := by
  unfold atI ixN
  by_cases h : k < xs.length
  · simp [h]
  · simp [h]
theorem atI_of {α : Type} {xs : List α} {i : Int} (h : 0 ≤ i) : atI xs i = xs[i.toNat]? := by
  obtain ⟨k, rfl⟩ := Int.eq_ofNat_of_zero_le h
  rw [atI_nat]; rfl
theorem ixD_tup {xs : List D} {i : Int} (h : 0 ≤ i) : ixD (.tup xs) (.int i) = xs[i.toNat]? := atI_of h
theorem ixD_lst {xs : List D} {i : Int} (h : 0 ≤ i) : ixD (.lst xs) (.int i) = xs[i.toNat]? := atI_of h
/-! ### blocks -/
theorem compD_map {gs : FG} {fe : FE} {F : D → D} {ρ : List En} {g : Gh} : ∀ {ds : List D}, (∀ d ∈ ds, ∃ ρ1, gs d ρ = some ρ1 ∧ fe ρ1 g = some (.ok (F d) g)) → compD gs tY fe ds ρ g = some (.ok (ds.map F) g)
  | [], _ => rfl
  | d :: ds, h => by
    obtain ⟨ρ1, h1, h2⟩ := h d List.mem_cons_self
    have ih := compD_map (ds := ds) fun e he => h e (List.mem_cons_of_mem _ he)
    simp [compD, h1, h2, ih]
theorem compD_filter {gs : FG} {ft : FT} {fe : FE} {p : D → Bool} {F : D → D} {ρ : List En} {g : Gh} : ∀ {ds : List D}, (∀ d ∈ ds, ∃ ρ1, gs d ρ = some ρ1 ∧ ft ρ1 g = some (.ok (p d) g) ∧ fe ρ1 g = some (.ok (F d) g)) → compD gs ft fe ds ρ g = some (.ok ((ds.filter p).map F) g)
  | [], _ => rfl
  | d :: ds, h => by
    obtain ⟨ρ1, h1, h2, h3⟩ := h d List.mem_cons_self
    have ih := compD_filter (ds := ds) fun e he => h e (List.mem_cons_of_mem _ he)
    cases hp : p d <;> simp [compD, h1, h2, h3, ih, hp, List.filter_cons]
@[simp] theorem flags_map {α : Type} (p : α → Bool) : ∀ ds : List α, flags (ds.map fun d => .bl (p d)) = some (ds.map p)
  | [] => rfl
  | d :: ds => by simp [flags, flags_map p ds]
theorem allD_map {α : Type} (p : α → Bool) (ds : List α) : allD [.lst (ds.map fun d => .bl (p d))] = some (.bl (ds.all p)) := by
  simp [allD]
/-- every draw's end -/
def Sat {α : Type} (m : M α) (P : α → Gh → Prop) : Prop := ∃ a g, m = some (.ok a g) ∧ P a g
theorem Sat.bd {α β : Type} {m : M α} {k : α → Gh → M β} {P : α → Gh → Prop} {Q : β → Gh → Prop} (h : Sat m P) (hk : ∀ a g, P a g → Sat (k a g) Q) : Sat (m.bd k) Q := by
  obtain ⟨a, g, rfl, p⟩ := h
  exact hk a g p
theorem Sat.ok {α : Type} {a : α} {g : Gh} {P : α → Gh → Prop} (h : P a g) : Sat (some (.ok a g)) P := ⟨a, g, rfl, h⟩
theorem Sat.imp {α : Type} {m : M α} {P Q : α → Gh → Prop} (h : Sat m P) (hq : ∀ a g, P a g → Q a g) : Sat m Q := by
  obtain ⟨a, g, e, p⟩ := h
  exact ⟨a, g, e, hq a g p⟩
theorem Sat.seq {a b : FS} {ρ : List En} {g : Gh} {P : Fl → Gh → Prop} {Q : Fl → Gh → Prop} (h : Sat (a ρ g) P) (hk : ∀ f g1, P f g1 → (∃ ρ1, f = .nx ρ1 ∧ Sat (b ρ1 g1) Q) ∨ ((∀ ρ1, f ≠ .nx ρ1) ∧ Q f g1)) : Sat (sSeq a b ρ g) Q := by
  obtain ⟨f, g1, e, p⟩ := h
  unfold sSeq
  rw [e]
  rcases hk f g1 p with ⟨ρ1, rfl, h2⟩ | ⟨hn, q⟩
  · exact h2
  · cases f with
    | nx ρ1 => exact absurd rfl (hn ρ1)
    | bk ρ1 => exact .ok q
    | ct ρ1 => exact .ok q
    | rt d => exact .ok q
theorem p62 : (2 : Int) ^ 62 = 4611686018427387904 := by decide +kernel
theorem rng1_int {j : Int} (h0 : 0 ≤ j) (h : j ≤ 100000) : rng1 [.int j] = some (rngD 0 j.toNat) := by
  unfold rng1
  have c1 : -(2 ^ 62) ≤ j := by rw [p62]; omega
  have c2 : j < 2 ^ 62 := by rw [p62]; omega
  exact if_pos (ck_of ⟨c1, c2⟩)
theorem rng1_nat {n : Nat} (h : n ≤ 100000) : rng1 [.int (n : Nat)] = some (rngD 0 n) := by
  have := rng1_int (j := (n : Int)) (by omega) (by omega)
  rw [this]
  rfl
/-- the hand stands right -/
structure HOK (g : Gh) : Prop where
  i0 : 0 ≤ g.i
  r0 : 0 ≤ g.r
  r1 : g.r < 2147483647
end FD
set_option Elab.async false
set_option linter.all false
set_option maxRecDepth 100000
set_option maxHeartbeats 2000000
namespace FD
open PySem PySem.Spec PyProof.Rows L2
/-! # What the end of the top leaves, for this layer -/
theorem fun_of {K : PySem.W.Frag} {x qual : Str} {st : Stmt} {f : Addr} {fd : FuncData} (F : FunD K x qual (defArgs st) (defBody st) (defScope st) [] [] f fd) : Fun K x qual st f fd := by
  obtain ⟨oc, od, dV, kV, doc, pm, an, cdv, ct, osl, rfl, lk, hcd, hD, hK⟩ := F.ex
  rcases hD with ⟨_, rfl⟩ | ⟨e, _⟩
  · exact ⟨⟨oc, od, kV, doc, pm, an, cdv, ct, osl, rfl, lk, hcd⟩, F.kp⟩
  · exact absurd rfl e
def oexB (K : PySem.W.Frag) (C : Addr) : Bool := (match K.lookup C with
  | some ⟨.type c, _, .cls cd, sl⟩ => (match cd.mro, sl.toList with
    | .ref C' :: bm, [_, _, _, _, some (.builtin n), _] => c == "type" && (C' == C && (n == "ValueError.__new__" && (!cd.hasDel && (cd.hasDict && PySem.HandSPX.refsVE bm))))
    | _, _ => false)
  | _ => false) && (He.eqO (PySem.W.findIn K (.ref C) "__setattr__") (some (some (.builtin "object.__setattr__"))) && (decide (PySem.W.subIn K (.ref C) (.type "BaseException") = some true) && (decide (PySem.W.typeIn K (.ref C) = some (.type "type")) && PySem.W.keepIn K (.ref C))))
theorem oexB_ok {K : PySem.W.Frag} {C : Addr} (h : oexB K C = true) : OexC K C := by
  obtain ⟨h1, h⟩ := He.ba h
  obtain ⟨h2, h⟩ := He.ba h
  obtain ⟨h3, h⟩ := He.ba h
  obtain ⟨h4, h5⟩ := He.ba h
  refine ⟨?_, He.eqO_ok h2, of_decide_eq_true h3, of_decide_eq_true h4, h5⟩
  split at h1
  · rename_i c dd cd sl ho
    split at h1
    · rename_i C' bm k0 k1 k2 k3 n k5 hm hs
      simp only [Bool.and_eq_true, beq_iff_eq, Bool.not_eq_true'] at h1
      obtain ⟨rfl, rfl, rfl, hdel, hdc, ht⟩ := h1
      obtain ⟨nm, bs, mro, ns, qn, hd, sn, sub, ab, col, del⟩ := cd
      dsimp only at hm hdel hdc
      subst hm hdel hdc
      have hsl : sl = #[k0, k1, k2, k3, some (.builtin "ValueError.__new__"), k5] := by
        obtain ⟨l⟩ := sl
        simp only at hs
        rw [hs]
      subst hsl
      exact ⟨nm, qn, ns, bs, bm, sn, sub, ab, col, dd, k0, k1, k2, k3, k5, ho, ht⟩
    · cases h1
  · cases h1
/-- an own error with one field -/
def excB (K : PySem.W.Frag) (x f : Str) : Bool := He.eqO (PySem.W.nsIn K mainGlobals x) (some (some (.ref (He.ga K x)))) && (oexB K (He.ga K x) && (xfB K (He.ga K x) && (He.eqO (PySem.W.findIn K (.ref (He.ga K x)) f) (some none) && (He.eqO (PySem.W.findIn K (.ref (He.ga K x)) "__init__") (some (some (.ref (He.ma K (He.ga K x) "__init__")))) && (decide (PySem.W.typeIn K (.ref (He.ma K (He.ga K x) "__init__")) = some (.type "function")) && decide (PySem.W.exmOne K (.ref (He.ga K x)) (.ref (He.ga K x)) = some true))))))
theorem excB_ok {P : Program} {w : World} {K : PySem.W.Frag} {h : Heap} {mg : Str → Option Value} {base : Heap} {x f : Str} (X : K.In h) (G : h.Ns mainGlobals mg) (c : excB K x f = true) {fd : FuncData} {ps : List Str} (F : OexC K (He.ga K x) → FnOk P w K mg base CX0 1 (He.ma K (He.ga K x) "__init__") fd ps (spExI (He.ga K x) f)) (b : Binds K fd ps []) : ExcOk P w K mg base x f := by
  obtain ⟨c1, c⟩ := He.ba c
  obtain ⟨c2, c⟩ := He.ba c
  obtain ⟨c3, c⟩ := He.ba c
  obtain ⟨c4, c⟩ := He.ba c
  obtain ⟨c5, c⟩ := He.ba c
  obtain ⟨c6, c7⟩ := He.ba c
  exact ⟨_, _, fd, ps, He.glo_ok X G (x := x) c1, oexB_ok c2, xfB_ok c3, He.eqO_ok c4, He.eqO_ok c5, of_decide_eq_true c6, F (oexB_ok c2), b, of_decide_eq_true c7⟩
theorem excB_no {K : PySem.W.Frag} {x f : Str} (c : excB K x f = true) : PySem.W.findIn K (.ref (He.ga K x)) f = some none := by
  obtain ⟨c1, c⟩ := He.ba c
  obtain ⟨c2, c⟩ := He.ba c
  obtain ⟨c3, c⟩ := He.ba c
  exact He.eqO_ok (He.ba c).1
/-- a class whose things are told apart from the built-in ones -/
def clsIB (K : PySem.W.Frag) (x : Str) : Bool := He.eqO (PySem.W.findIn K (.ref (He.ga K x)) "__class__") (some (some (.builtin "object.__class__"))) && (He.eqO (PySem.W.specialIn K (.builtin "object.__class__") "__get__") (some (some (.builtin "getset_descriptor.__get__"))) && (decide (PySem.W.takesIn K (.builtin "object.__class__") = some true) && (decide (PySem.W.mroIn K (He.ga K x) (.type "object") = some true) && (["int", "bool", "str", "tuple", "list"].all fun t => decide (PySem.W.kitOne K (.ref (He.ga K x)) (.type t) = some false)))))
theorem clsIB_ok {K : PySem.W.Frag} {x : Str} (cl : Cls K (He.ga K x)) (c : clsIB K x = true) : ClsI K (He.ga K x) := by
  obtain ⟨c1, c⟩ := He.ba c
  obtain ⟨c2, c⟩ := He.ba c
  obtain ⟨c3, c⟩ := He.ba c
  obtain ⟨c4, c5⟩ := He.ba c
  exact ⟨cl, He.eqO_ok c1, He.eqO_ok c2, of_decide_eq_true c3, of_decide_eq_true c4, fun t ht => of_decide_eq_true (List.all_eq_true.mp c5 t (by
    rcases ht with rfl | rfl | rfl | rfl | rfl <;> simp))⟩
/-! ### constants -/
def ctB (K : PySem.W.Frag) (x : Str) (zs : List Str) : Bool := He.eqO (PySem.W.nsIn K mainGlobals x) (some (some (.ref (He.ga K x)))) && He.tupB K x (zs.map .str)
theorem ctB_ok {K : PySem.W.Frag} {h : Heap} {mg : Str → Option Value} {x : Str} {zs : List Str} (X : K.In h) (G : h.Ns mainGlobals mg) (c : ctB K x zs = true) : ConstOk K mg x (.tup (zs.map .str)) := by
  obtain ⟨c1, c2⟩ := He.ba c
  refine ⟨.ref (He.ga K x), _, He.glo_ok X G (x := x) c1, rfl, fun ah S => .tup (He.tupB_ok c2 S) ?_⟩
  have e : (zs.map He.Dv.str).map (He.Dv.v K) = strsV zs := by
    unfold strsV
    rw [List.map_map]
    rfl
  rw [e]
  exact Dns.strs zs
theorem ciOk {K : PySem.W.Frag} {h : Heap} {mg : Str → Option Value} {x : Str} {i : Int} (X : K.In h) (G : h.Ns mainGlobals mg) (c : (He.Fa.int x i).ok K = true) : ConstOk K mg x (.int i) := by
  obtain ⟨t, e⟩ := He.int_ok X G c
  exact ⟨.int i, _, e, ⟨t, rfl⟩, fun ah S => .int i⟩
/-! ### the Hook: the library's facts, and one Bool more -/
abbrev AlF : Type := He.AlD × Bool
def obsF (n : Nat) (fa : List He.Fa) (fn : List He.DefD) (ex : PySem.W.Frag → Bool) (g : Addr → Option Obj) : AlF := (He.obsD fa fn (He.frG g (He.asD g n)), ex (He.frG g (He.asD g n)))
def valF (fn : List He.DefD) : AlF := (He.valD fn, true)
def hookF (n : Nat) (fa : List He.Fa) (fn : List He.DefD) (ex : PySem.W.Frag → Bool) : PySem.W.Hook where
  α := AlF
  obs := fun s => obsF n fa fn ex s.heap.get?
  val := fun _ => valF fn
  says := fun _ h => ∃ K : PySem.W.Frag, K.In h ∧ He.SaysD fa fn K ∧ ex K = true
  of := fun _ _ e => ⟨_, He.frG_in, congrArg (fun z : AlF => z.1) e, congrArg (fun z : AlF => z.2) e⟩
  keeps := fun _ _ _ ⟨K, hK, c⟩ k => ⟨K, PySem.W.Frag.In.keeps hK k, c⟩
theorem obsF_eq {n : Nat} {fa : List He.Fa} {fn : List He.DefD} {ex : PySem.W.Frag → Bool} {g : Addr → Option Obj} {s : Shared} (h : ∀ a, g a = s.heap.get? a) : obsF n fa fn ex g = (hookF n fa fn ex).obs s := by
  have e : g = s.heap.get? := funext h
  rw [e] <;> rfl
end FD
set_option Elab.async false
set_option linter.all false
set_option maxRecDepth 100000
set_option maxHeartbeats 2000000
namespace FD
open PySem PySem.Spec PyProof.Rows L2
/-! # enumerate(t) of a tuple -/
theorem meets_enumT (t : Addr) (items : Array Value) (n : Nat) (cl : Value) (dct : Option Addr) (sl : Array (Option Value)) (hcl : cl = .type "tuple") :
    Meets (Builtin.«enumerate.__new__» ⟨[.type "enumerate", .ref t], []⟩) (fun _ Rr q => q.heap.get? t = some { cls := cl, dict := dct, data := .seq items n, slots := sl } ∧
      Rr (.ok (.ret (.ref (q.heap.push { cls := .type "tuple_iterator", data := .fields #[.ref t, .int 0 0] }).objs.size)))
        { q with heap := (q.heap.push { cls := .type "tuple_iterator", data := .fields #[.ref t, .int 0 0] }).push { cls := .type "enumerate", data := .fields #[.none, .bool false, .ref q.heap.objs.size, rawInt 0, .none, .none] } }) :=
  .of_wp fun prog w A Rr q h => by
    obtain ⟨hp, gg, dd, tk, os⟩ := q
    obtain ⟨hT, h⟩ := h
    subst hcl
    have sub1 := sub_enumerate
    have tT : Heap.IsTuple (Shared.heap ⟨hp, gg, dd, tk, os⟩) t items := ⟨_, hT, rfl, n, rfl⟩
    wp_walk using AutoSeq1.wpAny_loadPart' hT
    refine wpAny_stack_any fun st => wpAny_pure ?_
    split
    · rename_i c _ _ _ _ _
      cases (c == Value.type "enumerate") <;>
      · wp_walk using AutoSeq1.wpAny_loadPart' hT, wpAny_pyIter_tuple tT
        exact ⟨_, rfl, h⟩
    · wp_walk using AutoSeq1.wpAny_loadPart' hT, wpAny_pyIter_tuple tT
      exact ⟨_, rfl, h⟩
theorem call_enumT {prog : Program} {w : World} {A : Around} {E : Value → Shared → Prop} {q : Shared} {t : Addr} {items : Array Value} {Q : Value → Shared → Prop} (tT : q.heap.IsTuple t items)
    (h : ∀ h', IsEnum h' (q.heap.objs.size + 1) q.heap.objs.size 0 .none → h'.IsTupleIter q.heap.objs.size t 0 → (∀ b o, q.heap.get? b = some o → h'.get? b = some o) → Q (.ref (q.heap.objs.size + 1)) { q with heap := h' }) :
    wpAny (model prog w) A (call (.type "enumerate") [.ref t]) Q E q := by
  obtain ⟨⟨c, dct, dt, sl⟩, ht, hc, n, hd⟩ := tT
  replace hd : dt = .seq items n := hd
  subst hd
  refine callType_new F.called_enumerate (by decide) (F.typeCall_enumerate_1 _) (F.newCall_enumerate_1 _) (fun obj => F.args_object_init_2 obj _) F.entry_enumerate_new (meets_enumT t items n c dct sl hc) ⟨ht, ?_⟩
  generalize hh1 : q.heap.push { cls := .type "tuple_iterator", data := .fields #[.ref t, .int 0 0] } = h1
  have sz : h1.objs.size = q.heap.objs.size + 1 := by rw [← hh1]; exact Heap.size_push ..
  have g1 : h1.get? q.heap.objs.size = some { cls := .type "tuple_iterator", data := .fields #[.ref t, .int 0 0] } := by rw [← hh1]; exact Heap.get?_push_size _ rfl
  have ge : IsEnum (h1.push { cls := .type "enumerate", data := .fields #[.none, .bool false, .ref q.heap.objs.size, rawInt 0, .none, .none] }) (q.heap.objs.size + 1) q.heap.objs.size 0 .none := by
    have := Heap.get?_push_size h1 (o := { cls := .type "enumerate", data := .fields #[.none, .bool false, .ref q.heap.objs.size, rawInt 0, .none, .none] }) rfl
    rw [sz] at this; exact this
  show _ ∧ _
  rw [sz]
  exact ⟨⟨_, ge, rfl⟩, h _ ge ⟨_, Heap.get?_push_of_some _ g1, rfl, rfl⟩ fun b o x => Heap.get?_push_of_some _ (by rw [← hh1]; exact Heap.get?_push_of_some _ x)⟩
/-- the tuple at a, its items in new pairs with their places -/
def IteT (K : PySem.W.Frag) (a : Addr) : It :=
  ⟨fun i H => ∃ (xs : List V) (x : V), SqT K H a xs ∧ xs[i]? = some x, fun i H v H' => ∃ T x, v = .ref T ∧ H T = none ∧ H' = upd H T (.tup [.int (i : Nat), x]) ∧ ∀ xs, SqT K H a xs → xs[i]? = some x, fun i H => ∃ xs : List V, SqT K H a xs ∧ xs.length ≤ i⟩
theorem turn_enumT {P : Program} {w : World} {K : PySem.W.Frag} {elts : List Expr} {kk : Nat} {tpos : Pos} (a e it : Addr) :
    Turn P w K (.Tuple elts kk tpos) (IteT K a) [e, it] e (fun i h => ((∃ old, IsEnum h e it ((i : Nat) : Int) old) ∧ h.IsTupleIter it a i) ∧ e ≠ it ∧ a ≠ it ∧ e ≠ a) where
  mem := by simp
  obj := fun i h st b hb => by
    obtain ⟨⟨⟨old, ge⟩, o, ho, hc, hd⟩, _⟩ := st
    have z : b = e ∨ b = it := by simpa using hb
    rcases z with rfl | rfl
    · exact ⟨_, ge, fun v z => nomatch z⟩
    · exact ⟨o, ho, fun v z => by rw [hd] at z; cases z⟩
  keep := fun i h h' st k => ⟨⟨st.1.1.imp fun old ge => k e (by simp) _ ge, st.1.2.at fun o z => k it (by simp) o z⟩, st.2⟩
  item := by
    intro X e1 e2 e3 hc i pins s σ H E I hf st hg
    subst e1 e2 e3
    obtain ⟨⟨⟨old, ge⟩, hit⟩, ne, na, nea⟩ := st
    obtain ⟨xs, x, hq, hx⟩ := hg
    obtain ⟨its, rv, tp, hz⟩ := I.tuple hq
    obtain ⟨u, hu, ru⟩ := rv.get hx
    have le : e < s.heap.objs.size := Heap.lt_size ge
    have li : it < s.heap.objs.size := by obtain ⟨_, z, _⟩ := hit; exact Heap.lt_size z
    have D := Draws.tuple (prog := X.prog) (w := X.w) (A := X.A.in1) (I.ok.hd hc) it a na its.toArray
    have lt : i < its.toArray.size := by
      have := (List.getElem?_eq_some_iff.mp hu).1
      simpa using this
    refine wpAny_pyNext_enum_itemD D ge ⟨hit, tp⟩ lt ne (by simp [ne, nea]) fun y h' tk hy ho hst hT hsz hk => ?_
    have hy' : y = u := by
      have z1 : its[i]? = some y := by simpa using hy
      rw [hu] at z1
      exact (Option.some.inj z1).symm
    subst hy'
    refine ⟨_, rfl, wpAny_letOwnedTupleGo_enum (s := { s with heap := h', toks := tk + 1 }) ho fun h2 ge2 sb => ?_⟩
    have hT2 : h2.get? s.heap.objs.size = some { cls := .type "tuple", data := .seq #[.int i tk, y] } := (sb.2 _ (Nat.ne_of_gt le)).trans hT
    have new : ObjOk X.prog X.w (upd H s.heap.objs.size (.tup [.int (i : Nat), x])) h2 s.heap.objs.size (.tup [.int (i : Nat), x]) :=
      ⟨by show 2 ≤ sizeLine; decide, [.int i tk, y], .cons ⟨_, rfl⟩ (.cons ru .nil), ⟨_, hT2, rfl, _, rfl⟩⟩
    have I1 : Inv X pins σ (upd H s.heap.objs.size (.tup [.int (i : Nat), x])) { s with heap := h2, toks := tk + 1 } :=
      I.turnedNew (ch := [e, it]) (fun b ob hb z => (sb.2 b (fun y => hb (by simp [y]))).trans (hk b ob (fun y => hb (by simp [y])) (fun y => hb (by simp [y])) z)) hf (Nat.le_refl _) new
    refine ⟨.ref s.heap.objs.size, _, I1, rfl, ⟨_, x, rfl, I.hok.fresh (Nat.le_refl _), rfl, fun ys hys => by rw [I.tuple_inj hys hq]; exact hx⟩, ⟨⟨⟨y, ?_⟩, hst.1.at fun o z => (sb.2 it (Ne.symm ne)).trans z⟩, ne, na, nea⟩, fun b hb => ?_⟩
    · rw [show ((i + 1 : Nat) : Int) = (i : Int) + 1 by omega]; exact ge2
    · have lb : b < s.heap.objs.size := by
        have z : b = e ∨ b = it := by simpa using hb
        rcases z with rfl | rfl
        · exact le
        · exact li
      rw [upd_ne (Nat.ne_of_lt lb)]
      exact (hf b hb).1
  done := by
    intro X e1 e2 e3 hc i pins s σ H E I hf st hg
    subst e1 e2 e3
    obtain ⟨⟨⟨old, ge⟩, hit⟩, ne, na, nea⟩ := st
    obtain ⟨xs, hq, hx⟩ := hg
    obtain ⟨its, rv, tp, hz⟩ := I.tuple hq
    obtain ⟨f0, f1, f2, f3, f4, f5⟩ := hf it (by simp)
    have hl := rv.length
    unfold pyNext
    have hT : s.TypeIs (.ref e) "enumerate" := ⟨_, ge, rfl⟩
    refine wpAny_bind (wpAny_attempt (wpAny_callSpecial?_slot (name := Str.ofString "__next__") hT F.slot_enumerate_next (wpAny_call_entry F.slot_enumerate_next hT F.entry_enumerate_next ?_ (F.args_enumerate_next_1 _))))
    show wpAny _ _ (field (.ref e) 2 >>= _) _ _ _
    refine wpAny_bind (wpAny_field ge rfl (x := .ref it) rfl ?_)
    refine wpAny_bind (wpAny_nextOf_tuple_end (I.ok.hd hc) hit tp (i := i) (by simp; omega) fun h' x he' hx' => ?_)
    obtain ⟨o, ho, hcx⟩ := hx'
    refine wpAny_bind (wpAny_isInstance (T := "StopIteration") (b := true) ⟨o, ho, hcx⟩ isSubtype_stop ?_)
    exact wpAny_pure ⟨rfl, I.turned (t' := s.toks) (fun b o hb z => he' b o hb z) f0 f1 f3 f4 f5⟩
  self := fun A i s Q E st h => by
    obtain ⟨⟨⟨old, ge⟩, _⟩, _⟩ := st
    exact wpAny_pyIter_enum ge h
def iEnumA (K : PySem.W.Frag) (ta : TA) : TI := fun σ H R => ta σ H fun vs H1 => ∃ a xs, vs = [V.ref a] ∧ ((SqL K H1 a xs ∧ R (Ite K a) H1) ∨ (SqT K H1 a xs ∧ R (IteT K a) H1))
theorem pi_enumA {X : Cx} {e : Expr} {ta : TA} {p pos tpos : Pos} {elts : List Expr} {kk : Nat} (hg : Gl X "enumerate") (hm : X.mg "enumerate" = none) (ha : PA X [e] ta) (hs : starEach [e] X.env = [(false, eval e X.env)] := by rfl) :
    PI X (.Tuple elts kk tpos) (.Call (.Name "enumerate" p) [e] [] pos) (iEnumA X.K ta) := by
  refine ⟨fun pins s σ H Rr I h => ?_⟩
  refine Call_ (ld_blt I hg hm boot_enumerate (PyProof.Rows.callWith_type1 (thn (ha.run pos pins s σ H _ I h) fun us s1 ⟨vs, H1, I1, r1, qq⟩ => ?_) hs rfl))
  obtain ⟨a, xs, ex, qq⟩ := qq
  subst ex
  cases r1 with
  | cons r rr =>
    cases rr
    cases r
    have fresh2 : ∀ b, b ∈ [s1.heap.objs.size + 1, s1.heap.objs.size] → FpOk X pins H1 b := fun b hb => by
      have le : s1.heap.objs.size ≤ b := by
        have z : b = s1.heap.objs.size + 1 ∨ b = s1.heap.objs.size := by simpa using hb
        rcases z with rfl | rfl <;> omega
      exact I1.fpOk le (I1.hok.fresh le)
    rcases qq with ⟨hq, qq⟩ | ⟨hq, qq⟩
    · obtain ⟨its, rv, lp, hz⟩ := I1.list hq
      refine call_enumerate_list lp.isList fun h' he hit hsz hk => wpAny_pyIter_enum he ?_
      exact ⟨s1.heap.objs.size + 1, [s1.heap.objs.size + 1, s1.heap.objs.size], _, _, H1, rfl, I1.kept (t' := s1.toks) hk, turn_enum a (s1.heap.objs.size + 1) s1.heap.objs.size, ⟨⟨.none, he⟩, hit, Nat.succ_ne_self _⟩, fresh2, qq⟩
    · obtain ⟨its, rv, tp, hz⟩ := I1.tuple hq
      obtain ⟨o, ho, _⟩ := id tp
      have la : a < s1.heap.objs.size := Heap.lt_size ho
      refine call_enumT (show s1.heap.IsTuple a its.toArray from tp) fun h' he hit hk => wpAny_pyIter_enum he ?_
      exact ⟨s1.heap.objs.size + 1, [s1.heap.objs.size + 1, s1.heap.objs.size], _, _, H1, rfl, I1.kept (t' := s1.toks) hk, turn_enumT a (s1.heap.objs.size + 1) s1.heap.objs.size, ⟨⟨⟨.none, he⟩, hit⟩, Nat.succ_ne_self _, Nat.ne_of_lt la, Nat.ne_of_gt (Nat.lt_succ_of_lt la)⟩, fresh2, qq⟩
/-- each item with its place -/
def enumD : List D → Option (List D)
  | [.lst xs] => some (xs.zipIdx.map fun p => .tup [.int (p.2 : Nat), p.1])
  | [.tup xs] => some (xs.zipIdx.map fun p => .tup [.int (p.2 : Nat), p.1])
  | _ => none
@[simp] def iEn (a : FA) : FI := fun ρ g => (a ρ g).bd fun xs g1 => lift (enumD xs) g1
theorem enum_at {xs : List D} {i : Nat} {d : D} (h : (xs.zipIdx.map fun p => D.tup [.int (p.2 : Nat), p.1])[i]? = some d) : ∃ x, xs[i]? = some x ∧ d = .tup [.int (i : Nat), x] := by
  rw [List.getElem?_map, Option.map_eq_some_iff] at h
  obtain ⟨⟨x, j⟩, h1, rfl⟩ := h
  rw [List.getElem?_zipIdx, Option.map_eq_some_iff] at h1
  obtain ⟨y, h2, h3⟩ := h1
  cases h3
  exact ⟨x, h2, by simp⟩
section
variable {X : Cx} {ah : Option Addr} {E : L2.St → XK} {c : DC}
theorem pfi_enum {e : Expr} {f : FA} {p pos tpos : Pos} {elts : List Expr} {kk : Nat} (hm : X.mg "enumerate" = none) (ha : PFA X ah E [e] f) (hg : Gl X "enumerate" := by rfl)
    (hs : starEach [e] X.env = [(false, eval e X.env)] := by rfl) : PFI X ah E (.Tuple elts kk tpos) (.Call (.Name "enumerate" p) [e] [] pos) (iEn f) := by
  obtain ⟨t, q, r⟩ := ha
  refine ⟨_, pi_enumA hg hm q hs, ?_⟩
  refine RG.bind (rel' := rI) (r := fun σ vs H1 (R : It → Hp → Prop) => ∃ a xs, vs = [V.ref a] ∧ ((SqL X.K H1 a xs ∧ R (Ite X.K a) H1) ∨ (SqT X.K H1 a xs ∧ R (IteT X.K a) H1))) (k := fun ρ xs g1 => lift (enumD xs) g1) r fun F ρ g σ H S Q x d e R hx G => ?_
  have e0 := e
  unfold enumD at G
  split at G
  · rename_i xs
    obtain ⟨v, rfl, hv⟩ := hx.one
    cases hv with
    | lst h1 s1 =>
    rename_i a vs
    refine ⟨a, vs, rfl, .inl ⟨SqL.of (R.sub _ _ h1), G.ret R ?_⟩⟩
    show WalkOf F.c _ _ _
    rw [e]
    refine ⟨fun F' ρ g σ H S1 e' sm R => ?_, fun F' ρ g σ H S1 i d e' sm R hd => ?_⟩
    · refine ⟨vs, SqL.of (R.sub _ _ (sm _ _ h1)), ?_⟩
      have l1 := s1.length
      simp
      omega
    · obtain ⟨dx, g1, rfl⟩ := enum_at hd
      obtain ⟨vx, k1, n1⟩ := s1.get g1
      have a1 : SqL X.K H a vs := SqL.of (R.sub _ _ (sm _ _ h1))
      refine ⟨⟨vs, vx, a1, k1⟩, fun x H' y => ?_⟩
      obtain ⟨T, x', rfl, nT, rfl, f1⟩ := y
      have := f1 vs a1
      rw [k1] at this; cases this
      have st := R.tosame (.tup [.int (i : Nat), vx]) nT
      exact ⟨_, st, R.up _ nT, .tup (SqT.of upd_same) (.cons (.int _) (.cons ((n1.mono sm).mono st) .nil))⟩
  · rename_i xs
    obtain ⟨v, rfl, hv⟩ := hx.one
    cases hv with
    | tup h1 s1 =>
    rename_i a vs
    refine ⟨a, vs, rfl, .inr ⟨Same.tup R.sub h1, G.ret R ?_⟩⟩
    show WalkOf F.c _ _ _
    rw [e]
    refine ⟨fun F' ρ g σ H S1 e' sm R => ?_, fun F' ρ g σ H S1 i d e' sm R hd => ?_⟩
    · refine ⟨vs, Same.tup R.sub (Same.tup sm h1), ?_⟩
      have l1 := s1.length
      simp
      omega
    · obtain ⟨dx, g1, rfl⟩ := enum_at hd
      obtain ⟨vx, k1, n1⟩ := s1.get g1
      have a1 : SqT X.K H a vs := Same.tup R.sub (Same.tup sm h1)
      refine ⟨⟨vs, vx, a1, k1⟩, fun x H' y => ?_⟩
      obtain ⟨T, x', rfl, nT, rfl, f1⟩ := y
      have := f1 vs a1
      rw [k1] at this; cases this
      have st := R.tosame (.tup [.int (i : Nat), vx]) nT
      exact ⟨_, st, R.up _ nT, .tup (SqT.of upd_same) (.cons (.int _) (.cons ((n1.mono sm).mono st) .nil))⟩
  · exact G.elim
/-! ### what is never come to -/
theorem pf_dead {e : Expr} : PF X ah E e (fun _ _ => none) := ⟨fun _ _ _ => False, ⟨fun _ _ _ _ _ _ h => h.elim⟩, ⟨fun F ρ g σ H S Q e R G => G.elim⟩⟩
end
end FD
set_option Elab.async false
set_option linter.all false
set_option maxRecDepth 100000
set_option maxHeartbeats 2000000
namespace FD
open PySem PySem.Spec PyProof.Rows L2
/-! # ranges as values -/
section
variable {X : Cx} {ah : Option Addr} {c : DC}
theorem cr_range1 : CallR X (.type "range") (fun vs H Q => ∃ j, vs = [V.int j] ∧ ∀ p, H p = none → Q (.ref p) (upd H p (.rng 0 j))) := by
  intro pins s σ H vs us Q I r h
  obtain ⟨j, rfl, q⟩ := h
  obtain ⟨u1, rfl, t, rfl⟩ := vals1 r
  refine call_range_1 ⟨.ref s.heap.objs.size, upd H s.heap.objs.size (.rng 0 j), I.laid (t' := s.toks + 1 + 1) (fun b o e => Heap.get?_push_of_some _ e) (Nat.le_refl _) ?_, rfl, q _ (I.hok.fresh (Nat.le_refl _))⟩
  exact ⟨s.toks, t, s.toks + 1, Heap.get?_push_size _ rfl⟩
def rngV : List D → Option D
  | [.int j] => some (.rng 0 j)
  | _ => none
theorem cs_range1 : CallS c (fun vs H Q => ∃ j, vs = [V.int j] ∧ ∀ p, H p = none → Q (.ref p) (upd H p (.rng 0 j))) rngV := by
  intro E F ρ g σ H S Q vs ds e R hx G
  subst e
  unfold rngV at G
  split at G
  · obtain ⟨v, rfl, hv⟩ := hx.one
    cases hv.intE
    exact ⟨_, rfl, fun p hp => G.new R hp (.rng upd_same)⟩
  · exact G.elim
/-- the numbers of a range that stands -/
noncomputable def rngOf : D → Option (List D)
  | .rng i j => if ck (-(2 ^ 62) ≤ i ∧ i < 2 ^ 62 ∧ -(2 ^ 62) ≤ j ∧ j < 2 ^ 62) = true then some (rngD i (j - i).toNat) else none
  | _ => none
@[simp] noncomputable def iRv (a : FE) : FI := fun ρ g => (a ρ g).bd fun x g1 => lift (rngOf x) g1
def iRngV (te : TE) : TI := fun σ H R => te σ H fun x H1 => ∃ a i j, x = V.ref a ∧ H1 a = some (.rng i j) ∧ (-(2 ^ 62) ≤ i ∧ i < 2 ^ 62 ∧ -(2 ^ 62) ≤ j ∧ j < 2 ^ 62) ∧ R (Itr i (j - i).toNat) H1
theorem pi_rngV {tg e : Expr} {te : TE} (he : PE X e te) : PI X tg e (iRngV te) := by
  refine ⟨fun pins s σ H R I h => ?_⟩
  refine thn (he.run pins s σ H _ I h) fun v s1 ⟨x, H1, I1, rx, a, i, j, ex, ha, ⟨b1, b2, b3, b4⟩, q⟩ => ?_
  subst ex
  cases rx
  obtain ⟨t, u, v, ga⟩ := (show ObjOk X.prog X.w H1 s1.heap a (.rng i j) from I1.hok a _ ha)
  refine wpAny_pyIter_range (show IsRange s1.heap a i j 1 t u v from ga) (small_one b1 b2 b3 b4) ?_
  refine ⟨s1.heap.objs.size, [s1.heap.objs.size], _, _, H1, rfl, I1.kept (t' := s1.toks) fun b o e => Heap.get?_push_of_some _ e, turn_range _ i (j - i).toNat, ?_, fun b hb => ?_, q⟩
  · have e1 : i + ((0 : Nat) : Int) * 1 = i := by simp
    have e2 : (((j - i).toNat : Nat) : Int) - ((0 : Nat) : Int) = Builtin.Range.rangeSize i j 1 := by rw [rangeSize_one]; split <;> omega
    show IsRangeIter _ _ (i + ((0 : Nat) : Int) * 1) ((((j - i).toNat : Nat) : Int) - ((0 : Nat) : Int)) 1
    rw [e1, e2]
    exact Heap.get?_push_size _ rfl
  · have z : b = s1.heap.objs.size := by simpa using hb
    subst z
    exact I1.fpOk (Nat.le_refl _) (I1.hok.fresh (Nat.le_refl _))
theorem pfi_rngV {E : L2.St → XK} {tg e : Expr} {a : FE} (ha : PF X ah E e a) : PFI X ah E tg e (iRv a) := by
  obtain ⟨t, q, r⟩ := ha
  refine ⟨_, pi_rngV q, ?_⟩
  refine RG.bind (r := fun σ x H1 (R : It → Hp → Prop) => ∃ a i j, x = V.ref a ∧ H1 a = some (.rng i j) ∧ (-(2 ^ 62) ≤ i ∧ i < 2 ^ 62 ∧ -(2 ^ 62) ≤ j ∧ j < 2 ^ 62) ∧ R (Itr i (j - i).toNat) H1) (k := fun ρ x g1 => lift (rngOf x) g1) r fun F ρ g σ H S Q x d e R hx G => ?_
  unfold rngOf at G
  split at G
  · rename_i i j
    cases hx with
    | rng h =>
      by_cases hb : ck (-(2 ^ 62) ≤ i ∧ i < 2 ^ 62 ∧ -(2 ^ 62) ≤ j ∧ j < 2 ^ 62) = true
      · rw [if_pos hb] at G
        exact ⟨_, i, j, rfl, R.sub _ _ h, of_ck hb, G.ret R (walk_rng i _)⟩
      · rw [if_neg hb] at G; exact G.elim
  · exact G.elim
theorem pf_rng1 {E : L2.St → XK} {e : Expr} {a : FA} {p pos : Pos} (hm : X.mg "range" = none) (ha : PFA X ah E [e] a) (hg : Gl X "range" := by rfl) (he : starEach [e] X.env = (false, eval e X.env) :: starEach [] X.env := by rfl)
    (hpl : (backTo pos (starEach [] X.env)).any (·.1) = false := by rfl) : PF X ah E (.Call (.Name "range" p) [e] [] pos) (cCall rngV a) :=
  pf_callTy cr_range1 cs_range1 hm (by decide +kernel) ha hg (by decide) (by decide) he hpl
end
end FD
set_option Elab.async false
set_option linter.all false
set_option maxRecDepth 100000
set_option maxHeartbeats 2000000
namespace FD
open PySem PySem.Spec PyProof.Rows L2
/-! # A law whose body asks that nothing is being shown: the call from outside alone -/
/-- what a def's body does where nothing is being shown -/
def BodyG (P : Program) (w : World) (K : PySem.W.Frag) (mg : Str → Option Value) (base : Heap) (N : List Str) (x : Str) (st : Stmt) (k : Nat) (f : Addr) (sp : Sp) : Prop :=
  ∀ (cdv : Value) (A : Around) (outer : List Env) (s : Shared) (H : Hp) (vs : List V) (Q : VK) (E : XK), A.guards = some [] → Room k (A.deeper (envOfC x (defScope st) s.heap.objs.size f cdv)) → sp vs H Q E →
    ∃ t, PSs (cxOf CX0 P w K mg base N x (defScope st) f cdv A outer s H E) (defBody st) t ∧ t { nx := fun _ H' => Q .non H', rt := Q } (start N vs) H
theorem bodyG_call {P : Program} {w : World} {K : PySem.W.Frag} {mg : Str → Option Value} {base : Heap} {x : Str} {st : Stmt} {f : Addr} {fd : FuncData} {N ps : List Str} {k : Nat} {sp : Sp} (F : Fun K x x st f fd) (Sc : FnScope N ps (defScope st))
    (B : BodyG P w K mg base N x st k f sp) {A : Around} {outer : List Env} {s : Shared} {H : Hp} {args : Args} {us : List Value} {vs : List V} {Q : VK} {E : XK} (hgd : A.guards = some []) (hr : Room (k + 1) A) (ev : Env0 P w K mg base A outer s H) (hb : BindsTo s fd args (ps.zip us)) (rv : Vals vs us) (hl : vs.length = ps.length) (hsp : sp vs H Q E) :
    codeAny (model P w) A (.call (.ref f) args) (CR CX0 outer P w H s Q E) s := by
  obtain ⟨oc, od, kV, doc, pm, an, cdv, ct, osl, rfl, lk, hcd⟩ := F.ex
  have inK : K.In s.heap := ev.mod.kin.keeps fun b o z => (ev.bs b o z).1
  have nolim : s.heap.NoLimit := ev.mod.nolimit.keeps fun b o z => (ev.bs b o z).1
  have kinds : ∀ y ∈ ps.zip us, (defScope st).names.lookup y.1 = some .local ∨ ((defScope st).names.lookup y.1 = some .cell ∧ ((cellsFrom (s.heap.objs.size + 1) (defScope st).names []).lookup y.1).isSome = true) := fun y hy => by
    obtain ⟨m, v⟩ := y
    rcases Sc.par m (List.of_mem_zip hy).1 with z | z
    · exact .inl z
    · exact .inr ⟨z, PySem.W.cellsFrom_some _ _ _ (.inl z)⟩
  refine codeAny_call_function hr.depth (inK _ _ lk) rfl Sc.co Sc.gen rfl (PySem.W.codeRec_of inK hcd) (hb _ _ _ _ ?_)
  refine wpAny_newFunctionEnv_cells Sc.kind kinds fun env ee s1 ic => ?_
  subst ee
  refine ⟨nolim.keeps ic.toInCall.keep, codeAny_func ?_⟩
  obtain ⟨t, pt, tq⟩ := B cdv A outer s H vs Q E hgd (hr.deeper _) hsp
  have I0 : Inv (cxOf CX0 P w K mg base N x (defScope st) f cdv A outer s H E) [] (start N vs) H s1 := inv_start Sc hr.hd ev hl rv ic
  refine wpAny_mono (pt.run [] s1 (start N vs) H _ I0 tq) (fun fl s' z => ?_) fun e s' z => z
  cases fl with
  | ret u =>
    obtain ⟨v, σ', H', J, r1, q⟩ := z
    exact ⟨v, H', J.os, J.bare, J.base, J.hok, r1, q⟩
  | next =>
    obtain ⟨σ', H', J, q⟩ := z
    exact ⟨V.non, H', J.os, J.bare, J.base, J.hok, rfl, q⟩
  | brk =>
    obtain ⟨_, _, _, q⟩ := z
    exact q.elim
  | cont =>
    obtain ⟨_, _, _, q⟩ := z
    exact q.elim
/-- the heap at the call from outside: at most the script is tracked -/
theorem outside {P : Program} {w : World} {K : PySem.W.Frag} {mg mb : Str → Option Value} {a : Addr} {s₁ : Shared} {vs : List Value} {ns : List Int} (KX : K.In s₁.heap) (hns : s₁.heap.Ns mainGlobals mg) (hb : s₁.heap.Ns builtinsNs mb) (hbb : ∀ x : Str, x ≠ "__name__" → mb x = bootBuiltins x) (hlim : s₁.heap.NoLimit) (hg : s₁.gens = #[])
    (ha : s₁.heap.get? a = some { cls := .type "list", data := .seq vs.toArray }) (hi : IntsAre vs ns) (hl : ns.length ≤ sizeLine) :
    ∃ (H : Hp) (base : Heap), Only H ∧ SqL K H a (ns.map V.int) ∧ K.In base ∧ base.Ns mainGlobals mg ∧ Env0 P w K mg base callerA [] s₁ H := by
  have rv := vals_ints hi
  have lenV := hi.length
  have make : ∀ H : Hp, Only H → SqL K H a (ns.map V.int) → HOk P w H s₁.heap → (∀ b, H b ≠ none → b = a) → (H a ≠ none → K.lookup a = none) → ∃ (H : Hp) (base : Heap), Only H ∧ SqL K H a (ns.map V.int) ∧ K.In base ∧ base.Ns mainGlobals mg ∧ Env0 P w K mg base callerA [] s₁ H := fun H hO hS ok only notK => by
    have stay : ∀ {b : Addr} {o : Obj} {es : Array DictEntry} {ep : Nat}, s₁.heap.get? b = some o → o.data = .dict es ep → (hidT s₁.heap H).get? b = some o := fun {b o es ep} z dt => by
      refine hidT_get z ?_
      cases hz : H b with
      | none => rfl
      | some u =>
        have hb : b = a := only b (by rw [hz]; exact Option.some_ne_none _)
        rw [hb, ha] at z
        cases z
        cases dt
    have space : ∀ {b : Addr} {m : Str → Option Value}, s₁.heap.Ns b m → (hidT s₁.heap H).Ns b m := fun {b m} ⟨o, es, ep, z, dt, rest⟩ => ⟨o, es, ep, stay z dt, dt, rest⟩
    have inB : K.In (hidT s₁.heap H) := fun b o z => by
      refine hidT_get (KX b o z) ?_
      cases hz : H b with
      | none => rfl
      | some u =>
        have hb : b = a := only b (by rw [hz]; exact Option.some_ne_none _)
        subst hb
        rw [notK (by rw [hz]; exact Option.some_ne_none _)] at z
        cases z
    refine ⟨H, hidT s₁.heap H, hO, hS, inB, space hns, ⟨rfl, ⟨inB, space hns, ⟨mb, space hb, hbb⟩, ?_⟩, fun b o z => of_hidT z, Nat.le_of_eq (hidT_size _ _), trivial, fun b z => ?_, ok, .of_eq hg⟩⟩
    · obtain ⟨mc, n1, n2⟩ := hlim
      exact ⟨mc, space n1, n2⟩
    · exact absurd (show b ∈ ([] : List Addr) from z) List.not_mem_nil
  cases hk : K.lookup a with
  | some o =>
    have z := KX a o hk
    rw [ha] at z
    cases z
    exact make (fun _ => none) (fun _ => .inl rfl) (.inr ⟨_, vs.toArray, _, hk, rfl, rfl, rfl, by rw [List.size_toArray, lenV]; exact hl, by simpa using rv⟩) (fun b u z => nomatch (show (none : Option HO) = some u from z)) (fun b z => absurd rfl z) fun z => absurd rfl z
  | none =>
    have same : ∀ b u, (if b = a then some (HO.frz { cls := .type "list", data := .seq vs.toArray } (.lst (ns.map V.int))) else none) = some u → b = a ∧ u = HO.frz { cls := .type "list", data := .seq vs.toArray } (.lst (ns.map V.int)) := fun b u z => by
      by_cases hb : b = a
      · rw [if_pos hb] at z; exact ⟨hb, (Option.some.inj z).symm⟩
      · rw [if_neg hb] at z; cases z
    refine make (fun b => if b = a then some (.frz { cls := .type "list", data := .seq vs.toArray } (.lst (ns.map V.int))) else none) (fun b => ?_) (.inl (.inr ⟨_, if_pos rfl⟩)) (fun b u z => ?_) (fun b z => ?_) fun _ => hk
    · by_cases hb : b = a
      · exact .inr ⟨_, _, if_pos hb⟩
      · exact .inl (if_neg hb)
    · obtain ⟨rfl, rfl⟩ := same b u z
      exact ⟨ha, by rw [List.length_map]; exact hl, vs, _, rv, ha⟩
    · cases hz : (if b = a then some (HO.frz { cls := .type "list", data := .seq vs.toArray } (.lst (ns.map V.int))) else none) with
      | none => exact absurd hz z
      | some u => exact (same b u hz).1
theorem walk_G {l : PySem.W.OpenLaw} {n k : Nat} {q : Program} {loose : List Str} {XP : (Str → Option Value) → Heap → Prop} {YP : World → Heap → Prop} {d : DefRec} {x : Str} (hn : l.most = some n) (hn2 : n ≤ sizeLine) (hdf : d.params.defaults = []) (hr : Room (k + 1) callerA)
    (F : ∀ (w : World) (mg : Str → Option Value) (fa : Addr) (h : Heap), YP w h → h.Ns mainGlobals mg → mg d.name = some (.ref fa) →
      ∃ (K : PySem.W.Frag) (y : Str) (st : Stmt) (fd : FuncData) (N : List Str) (sp : Sp), K.In h ∧ Fun K y y st fa fd ∧ FnScope N [x] (defScope st) ∧ (∀ (s : Shared) (u : Value), BindsTo s fd ⟨[u], []⟩ [(x, u)]) ∧
        (∀ (H : Hp) (a : Addr) (ns : List Int), ns.length ≤ n → SqL K H a (ns.map V.int) → sp [.ref a] H (fun v _ => v = .bl true) fun _ _ _ => False) ∧
        ∀ base : Heap, K.In base → base.Ns mainGlobals mg → BodyG l.prog w K mg base N y st k fa sp) :
    PySem.W.WalkO q loose XP YP l.row.toRowW d [] (fun f vs => PySem.call f vs) := by
  refine Att.attach_call hn hdf fun w s₀ s₁ mg mb fa o pm cd doc a vs ns G Y ho hd hcd hmg hobj hints hlen hg => ?_
  obtain ⟨K, y, st, fd, N, sp, KX, Fu, Sc, hb, hsp, hB⟩ := F w mg fa _ Y G.T.g hmg
  obtain ⟨H, base, hO, hS, inB, nsB, ev⟩ := outside (P := l.prog) (w := w) KX G.T.g G.T.b G.T.builtins G.T.nolimit hg hobj hints (Nat.le_trans hlen hn2)
  refine codeAny_mono (bodyG_call Fu Sc (hB base inB nsB) (args := ⟨[.ref a], []⟩) (us := [.ref a]) (vs := [V.ref a]) rfl hr ev (hb s₁ (.ref a)) (.cons (show L2.RelV (V.ref a) (Value.ref a) from rfl) .nil) rfl (hsp H a ns hlen hS)) fun r s' z => ?_
  cases r with
  | error e => exact False.elim z
  | ok fl =>
    cases fl with
    | next => exact False.elim z
    | brk => exact False.elim z
    | cont => exact False.elim z
    | ret u =>
      obtain ⟨v, H', os, bare, un, ok', rv, qv⟩ := z
      have ev2 : v = .bl true := qv
      subst ev2
      cases (show u = Value.bool true from rv)
      refine ⟨rfl, OldK.of_keep fun b o zb => ?_, os, bare⟩
      rcases hO b with hz | ⟨ob, xs, hz⟩
      · exact un.keep b o zb hz (fun m => absurd (show b ∈ ([] : List Addr) from m) List.not_mem_nil) (fun m => absurd m List.not_mem_nil)
      · obtain ⟨e1, _⟩ := ev.hok b _ hz
        obtain ⟨e2, _⟩ := ok' b _ (un.frzs b ob _ hz)
        rw [zb] at e1
        cases e1
        exact e2
end FD
set_option Elab.async false
set_option linter.all false
set_option maxRecDepth 100000
set_option maxHeartbeats 2000000
namespace FD
open PySem PySem.Spec PyProof.Rows L2
/-! # repr(d) of data, where nothing is being shown -/
section
variable {X : Cx} {ah : Option Addr} {c : DC}
abbrev rReprD (K : PySem.W.Frag) : List V → Hp → VK → Prop := fun xs H Q => ∃ v p, xs = [v] ∧ Dp K H v p ∧ SeqAt.shaped p = true ∧ p.showable = true ∧ p.shown.length ≤ sizeLine ∧ Q (.str p.shown) H
theorem call_reprD (hg : X.A.guards = some []) (hu : X.A.units + 66 < cLine) : CallR X (.builtin "repr") (rReprD X.K) := by
  intro pins s σ H xs us Q I r h
  obtain ⟨v, p, rfl, hd, hs, hw, hz, q⟩ := h
  obtain ⟨u, rfl, ru⟩ := vals1 r
  have dep := SeqAt.depth_of_shaped hs
  have nod := PyData.hasDict_of_canLay p (SeqAt.canLay_of_shaped hs)
  obtain ⟨as, rd⟩ := Dp.reads I p v u hd ru
  cases hd with
  | non => cases ru; exact PySem.P.repr_of_none ⟨.str _, H, I.tok _, ⟨_, rfl⟩, q⟩
  | bl b => cases ru; exact PySem.P.repr_of_bool ⟨.str _, H, I.tok _, ⟨_, rfl⟩, q⟩
  | int i =>
    obtain ⟨t, rfl⟩ := ru
    exact PySem.P.repr_of_int (of_decide_eq_true hw) ⟨.str _, H, I.tok _, ⟨_, rfl⟩, q⟩
  | str x =>
    obtain ⟨t, rfl⟩ := ru
    exact PySem.P.repr_of_str ⟨.str _, H, I.tok _, ⟨_, rfl⟩, q⟩ hz
  | lst h hs' =>
    cases ru
    exact repr_of_reads' rd hw (PyData.noDict_hsm nod) hg (by omega) (fun _ _ z => z) (fun h' u tk hk => ⟨.str _, H, I.kept (t' := tk) hk, ⟨_, rfl⟩, q⟩) hz
  | tup h hs' =>
    cases ru
    exact repr_of_reads' rd hw (PyData.noDict_hsm nod) hg (by omega) (fun _ _ z => z) (fun h' u tk hk => ⟨.str _, H, I.kept (t' := tk) hk, ⟨_, rfl⟩, q⟩) hz
noncomputable def reprD : List D → Option D
  | [d] => match d.py with
    | some p => if ck (SeqAt.shaped p = true ∧ p.showable = true ∧ p.shown.length ≤ sizeLine) = true then some (.str p.shown) else none
    | none => none
  | _ => none
theorem cs_repr : CallS c (rReprD c.K) reprD := by
  intro E F ρ g σ H S Q vs ds e R hx G
  subst e
  unfold reprD at G
  split at G
  · rename_i d
    split at G
    · rename_i p hp
      obtain ⟨v, rfl, hv⟩ := hx.one
      by_cases hb : ck (SeqAt.shaped p = true ∧ p.showable = true ∧ p.shown.length ≤ sizeLine) = true
      · rw [if_pos hb] at G
        obtain ⟨b1, b2, b3⟩ := of_ck hb
        exact ⟨v, p, rfl, Dp.mono R.sub (hv.py hp), b1, b2, b3, G.ret R (.str _)⟩
      · rw [if_neg hb] at G; exact G.elim
    · exact G.elim
  · exact G.elim
theorem pf_repr {E : L2.St → XK} {e : Expr} {a : FA} {p pos : Pos} (hgd : X.A.guards = some []) (hu : X.A.units + 66 < cLine) (hm : X.mg "repr" = none) (ha : PFA X ah E [e] a) (hg : Gl X "repr" := by rfl)
    (he : starEach [e] X.env = (false, eval e X.env) :: starEach [] X.env := by rfl) (hpl : (backTo pos (starEach [] X.env)).any (·.1) = false := by rfl) : PF X ah E (.Call (.Name "repr" p) [e] [] pos) (cCall reprD a) :=
  pf_callB (call_reprD hgd hu) cs_repr hm (by decide +kernel) ha hg (by decide) (by decide) he hpl
end
/-- law(script) that shows data -/
theorem law_okG {P : Program} {w : World} {K : PySem.W.Frag} {mg : Str → Option Value} {base : Heap} {x y hn : Str} {xh : Str} {st : Stmt} {f fh : Addr} {fd fdh : FuncData} {N psh : List Str} {k : Nat} {rest : List Stmt} {b : FS} {p1 p2 p3 p4 p5 : Pos} (F : Fun K x x st f fd) (Sc : FnScope N [y] (defScope st)) (hN : N = y :: hn :: N.drop 2) (hk : 1 ≤ k)
    (GH : FnOk P w K mg base CX0 1 fh fdh psh (spHand K)) (hmh : mg xh = some (.ref fh)) (hkp : PySem.W.keepIn K (.ref fh) = true) (hbh : Binds K fdh psh [])
    (hbody : defBody st = .Assign [.Name hn p1] (.Call (.Name xh p2) [.Name y p3] [] p4) p5 :: rest)
    (hg : (defScope st).names.lookup xh = some .globalImplicit) (hy : (defScope st).names.lookup y = some .local) (hh : Loc (defScope st) hn) (hd : (y == ("__debug__" : Str)) = false) (hcd : (y == ("__classdict__" : Str)) = false) (hdx : (xh == ("__debug__" : Str)) = false)
    (hb : ∀ (cdv : Value) (A : Around) (outer : List Env) (s : Shared) (H : Hp) (E : XK) (ah : Option Addr), A.guards = some [] → Room k (A.deeper (envOfC x (defScope st) s.heap.objs.size f cdv)) → PFSs ((cxOf CX0 P w K mg base N x (defScope st) f cdv A outer s H E).nox) ah E0 rest b)
    (hs : ∀ (cdv : Value) (A : Around) (outer : List Env) (s : Shared) (H : Hp) (E : XK), swapsWith (.Call (.Name xh p2) [.Name y p3] [] p4) (some (.Name hn p1)) p5.line ((cxOf CX0 P w K mg base N x (defScope st) f cdv A outer s H E).nox).env = pure false)
    (main : ∀ ns : List Int, ns.length ≤ 63 → ∃ g, b (.un :: .dt .hnd :: List.replicate (N.length - 2) .un) ⟨ns, 0, 0, 1, 0⟩ = some (.ok (.rt (.bl true)) g)) : BodyG P w K mg base N x st k f (spLaw K) := by
  intro cdv A outer s H vs Q E hgd hr h
  obtain ⟨a, ns, rfl, hS, hlen, kQ⟩ := h
  rw [hbody]
  have N0 : ((cxOf CX0 P w K mg base N x (defScope st) f cdv A outer s H E).nox).N = N := rfl
  have ch : ∀ ah, ∃ t, PSs ((cxOf CX0 P w K mg base N x (defScope st) f cdv A outer s H E).nox) rest t ∧ RS ⟨K, mg, ah⟩ E0 t b := fun ah => hb cdv A outer s H E ah hgd hr
  -- one reading, wherever the hand stands
  let tr : TS := fun Z σ H => ∃ ah, (ch ah).choose Z σ H
  have ptr : PSs ((cxOf CX0 P w K mg base N x (defScope st) f cdv A outer s H E).nox) rest tr := ⟨fun pins s' σ H' Z I ⟨ah, hw⟩ => (ch ah).choose_spec.1.run pins s' σ H' Z I hw⟩
  have i0 : ((cxOf CX0 P w K mg base N x (defScope st) f cdv A outer s H E).nox).N[0]? = some y := by rw [N0, hN]; rfl
  have i1 : ((cxOf CX0 P w K mg base N x (defScope st) f cdv A outer s H E).nox).N[1]? = some hn := by rw [N0, hN]; rfl
  refine ⟨_, PSs.nox (pss_cons (ps_set (i := 1) Sc.nd i1 hh (pe_call GH (hr.mono hk) hg hmh hkp hbh .nil pass0 (pa_cons (pe_var (i := 0) i0 (.inl hy) hd hcd) pa_nil) hdx) (hs cdv A outer s H E) (.inl rfl)) ptr), ?_⟩
  have hs0 : (start N [.ref a])[0]? = some (some (.ref a)) := by simp [L2.start]
  have hl : 2 ≤ N.length := by rw [hN]; simp
  refine ⟨_, hs0, a, ns, rfl, hS, fun q hq p hp => ⟨some p, ?_⟩⟩
  have nqp : p ≠ q := fun z => by rw [z, upd_same] at hp; cases hp
  obtain ⟨g, hm⟩ := main ns hlen
  refine (ch (some p)).choose_spec.2.run ⟨⟨K, mg, some p⟩, fun _ => none, fun _ => none⟩ (.un :: .dt .hnd :: List.replicate (N.length - 2) .un) ⟨ns, 0, 0, 1, 0⟩ _ _ (upd (fun _ => none) q (.lst (ns.map V.int))) _ rfl ?_ ?_
  · refine ⟨fun b o e => ?_, ?_, fun b o e => by simp at e, fun b e => by simp at e, fun i en h => ?_, fun i j p' xs ys h => ?_⟩
    · by_cases hb2 : b = q
      · subst hb2
        rw [upd_same] at e
        rw [upd_ne (Ne.symm nqp), upd_same]; exact e
      · rw [upd_ne hb2] at e; cases e
    · refine ⟨?_, q, ?_, ?_⟩
      · show upd (fun _ => none) q _ p = none
        rw [upd_ne nqp]
      · exact upd_same
      · exact upd_same
    · match i, h with
      | 0, h => simp at h; subst h; exact ⟨_, by rw [List.getElem?_set_ne (by decide)]; exact hs0, trivial⟩
      | 1, h =>
        simp at h; subst h
        exact ⟨some (.ref p), List.getElem?_set_self (by simp [L2.start]; omega), .ref p, rfl, .hnd rfl⟩
      | i + 2, h =>
        simp [List.getElem?_replicate] at h
        obtain ⟨h1, rfl⟩ := h
        refine ⟨none, ?_, trivial⟩
        rw [List.getElem?_set_ne (by omega)]
        simp [L2.start, List.getElem?_replicate]
        omega
    · match i, h with
      | 0, h => simp at h
      | 1, h => simp at h
      | i + 2, h => simp [List.getElem?_replicate] at h
  · rw [hm]
    intro v H' S' _ _ hv
    cases hv.blE
    exact kQ H'
/-- a constant tuple of flat things -/
def cgB (K : PySem.W.Frag) (x : Str) (dvs : List He.Dv) : Bool := He.eqO (PySem.W.nsIn K mainGlobals x) (some (some (.ref (He.ga K x)))) && He.tupB K x dvs
theorem cgB_ok {K : PySem.W.Frag} {h : Heap} {mg : Str → Option Value} {x : Str} {dvs : List He.Dv} {ds : List D} (X : K.In h) (G : h.Ns mainGlobals mg) (c : cgB K x dvs = true) (hD : ∀ (C : DC) (S : Hp), Dns C S (dvs.map (He.Dv.v K)) ds) : ConstOk K mg x (.tup ds) := by
  obtain ⟨c1, c2⟩ := He.ba c
  exact ⟨.ref (He.ga K x), _, He.glo_ok X G (x := x) c1, rfl, fun ah S => .tup (He.tupB_ok c2 S) (hD _ S)⟩
section
variable {X : Cx} {ah : Option Addr}
def sDead : FS := fun _ _ => none
def cDead : FE := fun _ _ => none
theorem pf_deadE {E : L2.St → XK} {e : Expr} : PF X ah E e cDead := pf_dead
theorem pfs_dead {E : XK} {s : Stmt} : PFS X ah E s sDead := ⟨fun _ _ _ => False, ⟨fun _ _ _ _ _ _ h => h.elim⟩, ⟨fun F ρ g σ H S Z e R G => G.elim⟩⟩
end
theorem hu66 {k : Nat} {A : Around} (hr : Room k A) : A.units + 66 < cLine := by have := hr.un; omega
end FD
set_option Elab.async false
set_option linter.all false
set_option maxRecDepth 100000
set_option maxHeartbeats 2000000
namespace FD
open PySem PySem.Spec PyProof.Rows L2
/-! # t * 1 is t itself -/
theorem tuple_once (l : Addr) (items : Array Value) (n : Nat) (sl : Array (Option Value)) (dd : Option Addr) (u : Tok) :
    Meets (Builtin.«tuple.__mul__» ⟨[.ref l, .int 1 u], []⟩) (fun _ Rr q => q.heap.get? l = some { cls := .type "tuple", dict := dd, data := .seq items n, slots := sl } ∧ Rr (.ok (.ret (Value.ref l))) q) :=
  .of_wp fun prog w A Rr q h => by
    obtain ⟨hp, gg, d, tk, os⟩ := q
    obtain ⟨hT, h⟩ := h
    have f1 := AutoSeq1.idx_int
    wp_walk using AutoSeq1.wpAny_loadPart' hT
    repeat (first
      | (refine wpAny_ite_false (by decide) ?_; wp_walk using AutoSeq1.wpAny_loadPart' hT)
      | (refine wpAny_ite_true (by simp) ?_; wp_walk using AutoSeq1.wpAny_loadPart' hT))
    exact ⟨_, rfl, h⟩
section
variable {X : Cx} {c : DC}
abbrev rOnce (K : PySem.W.Frag) : R2 := fun x y H Q => ∃ l xs, x = V.ref l ∧ y = V.int 1 ∧ SqT K H l xs ∧ Q (.ref l) H
theorem op_once : OpR X (binaryOp .Mult) (rOnce X.K) := by
  intro pins s σ H x y v u Q I rx ry h
  obtain ⟨l, xs, rfl, rfl, hT, q⟩ := h
  cases rx
  obtain ⟨t, rfl⟩ := ry
  obtain ⟨its, r, ⟨⟨cls, dd, data, sl⟩, ho, hc, n, hd⟩, hs⟩ := I.tuple hT
  simp only at hc hd
  subst hc hd
  refine wpAny_binaryOp_repeat_ref (T := "tuple") (U := "int") (by decide) ⟨_, ho, rfl⟩ (fun s' => typeIs_int s' 1 t) noFill_tuple_mul F.fills_int_mul F.slot_int_rmul repeat_tuple F.slot_int_index.lookup ?_
  refine call_meets F.slot_int_rmul (typeIs_int s 1 t) F.entry_int_rmul (F.args_int_rmul_2 _ _) (int_rmul_tuple 1 t l its.toArray n dd sl) ⟨ho, rfl, ⟨_, ho, rfl⟩, ?_⟩
  exact call_meets F.slot_tuple_mul ⟨_, ho, rfl⟩ F.entry_tuple_mul (F.args_tuple_mul_2 _ _) (tuple_once l its.toArray n sl dd t) ⟨ho, .ref l, H, I, rfl, q⟩
/-- a * b, with t * 1 -/
def mulD2 (x y : D) : Option D := match x, y with
  | .tup xs, .int 1 => some (.tup xs)
  | _, _ => mulD x y
theorem op_mulD2 : OpR X (binaryOp .Mult) (R2.or (rOnce X.K) (rMulD X.K)) := OpR.or op_once op_mulD
theorem os_mul2 : OpS c (R2.or (rOnce c.K) (rMulD c.K)) mulD2 := by
  intro E F ρ g σ H S Q x y dx dy e R hx hy G
  unfold mulD2 at G
  split at G
  · cases hy.intE
    cases hx with
    | tup h hs =>
      subst e
      exact .inl ⟨_, _, rfl, rfl, Same.tup R.sub h, G.ret R (.tup h hs)⟩
  · exact .inr (os_mul E F ρ g σ H S Q x y dx dy e R hx hy G)
end
/-! # a, b = x, y -/
section
variable {X : Cx} {ah : Option Addr} {E : XK} {c : DC}
@[simp] def sPar (i j : Nat) (a : FA) : FS := fun ρ g => (a ρ g).bd fun xs g1 => match xs with
  | [x, y] => some (.ok (.nx ((ρ.set i (.dt x)).set j (.dt y))) g1)
  | _ => none
theorem pfs_par (i j : Nat) {x y : Str} {a b : Expr} {fa : FA} {px py pt pt2 pos : Pos} {kt k2 : _} (hc : X.calm = true) (hN : X.N.Nodup) (ha : PFA X ah (fun _ => E) [a, b] fa) (hij : i ≠ j := by decide) (hi : X.N[i]? = some x := by rfl) (hj : X.N[j]? = some y := by rfl)
    (hx : X.env.scope.names.lookup x = some .local := by rfl) (hy : X.env.scope.names.lookup y = some .local := by rfl)
    (hw : swappedStores [.Tuple [.Name x px, .Name y py] kt pt] (.Tuple [a, b] k2 pt2) X.env = pure (some [x, y]) := by rfl)
    (hs : swapsWithSole [.Tuple [.Name x px, .Name y py] kt pt] (.Tuple [a, b] k2 pt2) pos.line X.env = pure false := by rfl) :
    PFS X ah E (.Assign [.Tuple [.Name x px, .Name y py] kt pt] (.Tuple [a, b] k2 pt2) pos) (sPar i j fa) := by
  obtain ⟨t, p, r⟩ := ha
  refine ⟨_, ps_par hc hN hi hj hij hx hy p hw hs, ?_⟩
  refine RS.bind (r := fun Z σ vs H1 => ∃ v w, vs = [v, w] ∧ Z.nx ((σ.set i (some v)).set j (some w)) H1) (k := fun ρ xs g1 => match xs with
    | [x, y] => some (.ok (.nx ((ρ.set i (.dt x)).set j (.dt y))) g1)
    | _ => none) r fun F ρ g σ H S Z vs ds e R hx G => ?_
  split at G
  · obtain ⟨v, w, rfl, h1, h2⟩ := hx.two
    rw [← e] at h1 h2
    exact ⟨v, w, rfl, G _ H S (Same.refl S) ((R.set i h1).set j h2)⟩
  · exact G.elim
end
end FD
set_option Elab.async false
set_option linter.all false
set_option maxRecDepth 100000
set_option maxHeartbeats 4000000
namespace Kk02
open PySem L2 PyProof.Rows FD
/-! ### the text -/
def top (i : Nat) : Stmt := PySem.Challenge.pw_onepicture_k02_whole_manners_step_by_ste.main.body.getD i (.Pass ⟨0, 0, 0, 0⟩)
def k_FIRST_CELL : D := .tup [.int 0, .int 0, .non]
def k_MANNERS : D := .tup [.str "sweep", .str "twice", .str "borrow"]
def k_KINDS : D := .tup [.str "sweep", .str "twice", .str "borrow", .str "levels", .str "names", .str "near", .str "chain"]
def k_MOST_HANDS : D := .int 5
def k_MOST_DEEDS : D := .int 6
def k_MOST_ROUNDS : D := .int 6
def k_NEAR_MOST : D := .int 1000
def k_NUMBER_LIMIT : D := .int 1000
def k_LOT_LIMIT : D := .int 20
structure Txt (P : Program) (w : World) (K : PySem.W.Frag) (mg : Str → Option Value) (base : Heap) : Prop where
  b_all : mg "all" = none
  b_bool : mg "bool" = none
  b_enumerate : mg "enumerate" = none
  b_int : mg "int" = none
  b_isinstance : mg "isinstance" = none
  b_len : mg "len" = none
  b_list : mg "list" = none
  b_range : mg "range" = none
  b_repr : mg "repr" = none
  b_set : mg "set" = none
  b_str : mg "str" = none
  b_tuple : mg "tuple" = none
  b_type : mg "type" = none
  b_zip : mg "zip" = none
  c_FIRST_CELL : ConstOk K mg "FIRST_CELL" k_FIRST_CELL
  c_KINDS : ConstOk K mg "KINDS" k_KINDS
  c_LOT_LIMIT : ConstOk K mg "LOT_LIMIT" k_LOT_LIMIT
  c_MANNERS : ConstOk K mg "MANNERS" k_MANNERS
  c_MOST_DEEDS : ConstOk K mg "MOST_DEEDS" k_MOST_DEEDS
  c_MOST_HANDS : ConstOk K mg "MOST_HANDS" k_MOST_HANDS
  c_MOST_ROUNDS : ConstOk K mg "MOST_ROUNDS" k_MOST_ROUNDS
  c_NEAR_MOST : ConstOk K mg "NEAR_MOST" k_NEAR_MOST
  c_NUMBER_LIMIT : ConstOk K mg "NUMBER_LIMIT" k_NUMBER_LIMIT
  x_BadPlay : ExcOk P w K mg base "BadPlay" "part"
  play : ∀ C, mg "Play" = some (.ref C) → ClsI K C
  play_kind : ∀ C, mg "Play" = some (.ref C) → NoAttr K C "kind"
  play_inputs : ∀ C, mg "Play" = some (.ref C) → NoAttr K C "inputs"
abbrev s_many_hands : Stmt := top 39
theorem sc_many_hands : FnScope ["play"] ["play"] (defScope s_many_hands) := ⟨rfl, rfl, rfl, by decide +kernel, rfl, by decide +kernel, by decide +kernel⟩
noncomputable def b_many_hands : FS := (sSeq (sIf (cT (cOp eqD (c1 (fldD "kind") (cV 0)) (cD (.str "near")))) (sRet (cCall lenD (cC (cOp ixD (c1 (fldD "inputs") (cV 0)) (cD (.int 1))) cN))) sNx) (sRet (cCall lenD (cC (c1 (fldD "inputs") (cV 0)) cN))))
noncomputable def f_many_hands : List D → Gh → M D := fun ds g => noX (fnOf 1 b_many_hands ds g)
theorem d_many_hands {P : Program} {w : World} {K : PySem.W.Frag} {mg : Str → Option Value} {base : Heap} (T : Txt P w K mg base) (A : DefAt K mg "many_hands" s_many_hands ["play"])  : DefOk P w K mg base CX0 "many_hands" 1 1 f_many_hands :=
  A.ok sc_many_hands rfl (by decide) fun f cdv A outer s H E ah hr => by
    exact (pfss_cons (pfs_if (pft_cmp (op_eqD (hu64 hr)) os_eq (pf_fld (fun C h => ⟨(T.play C h).cl, T.play_kind C h⟩) (pf_v 0)) pf_str (nomark _)) (pfss_one (pfs_ret (pf_len T.b_len (pfa_cons (pf_ix ix_D os_ix (pf_fld (fun C h => ⟨(T.play C h).cl, T.play_inputs C h⟩) (pf_v 0)) pf_int (fun _ _ => rfl)) pfa_nil)))) pfss_nil) (pfss_one (pfs_ret (pf_len T.b_len (pfa_cons (pf_fld (fun C h => ⟨(T.play C h).cl, T.play_inputs C h⟩) (pf_v 0)) pfa_nil)))))
abbrev s_state_ahead : Stmt := top 12
theorem sc_state_ahead : FnScope ["script", "done"] ["script", "done"] (defScope s_state_ahead) := ⟨rfl, rfl, rfl, by decide +kernel, rfl, by decide +kernel, by decide +kernel⟩
noncomputable def b_state_ahead : FS := (sSeq (sIf (cT (cOp eqD (cV 1) (cCall lenD (cC (cV 0) cN)))) (sRet (cD .non)) sNx) (sRet (cTup (cC (cV 1) (cC (cD .non) (cC (cD .non) (cC (cTup cN) (cC (cD .non) cN))))))))
noncomputable def f_state_ahead : List D → Gh → M D := fun ds g => noX (fnOf 2 b_state_ahead ds g)
theorem d_state_ahead {P : Program} {w : World} {K : PySem.W.Frag} {mg : Str → Option Value} {base : Heap} (T : Txt P w K mg base) (A : DefAt K mg "state_ahead" s_state_ahead ["script", "done"])  : DefOk P w K mg base CX0 "state_ahead" 1 2 f_state_ahead :=
  A.ok sc_state_ahead rfl (by decide) fun f cdv A outer s H E ah hr => by
    exact (pfss_cons (pfs_if (pft_cmp (op_eqD (hu64 hr)) os_eq (pf_v 1) (pf_len T.b_len (pfa_cons (pf_v 0) pfa_nil)) (nomark _)) (pfss_one (pfs_ret pf_non)) pfss_nil) (pfss_one (pfs_ret (pf_tup (pfa_cons (pf_v 1) (pfa_cons pf_non (pfa_cons pf_non (pfa_cons (pf_tup pfa_nil) (pfa_cons pf_non pfa_nil)))))))))
abbrev s_first_in_manner : Stmt := top 13
theorem sc_first_in_manner : FnScope ["play", "hand"] ["play", "hand"] (defScope s_first_in_manner) := ⟨rfl, rfl, rfl, by decide +kernel, rfl, by decide +kernel, by decide +kernel⟩
noncomputable def b_first_in_manner : FS := (sRet (cTup (cC (cD k_FIRST_CELL) (cC (cFn 2 f_state_ahead (cC (cOp ixD (c1 (fldD "inputs") (cV 0)) (cV 1)) (cC (cD (.int 0)) cN))) cN))))
noncomputable def f_first_in_manner : List D → Gh → M D := fun ds g => noX (fnOf 2 b_first_in_manner ds g)
theorem d_first_in_manner {P : Program} {w : World} {K : PySem.W.Frag} {mg : Str → Option Value} {base : Heap} (T : Txt P w K mg base) (A : DefAt K mg "first_in_manner" s_first_in_manner ["play", "hand"]) (d_state_ahead : DefOk P w K mg base CX0 "state_ahead" 1 2 f_state_ahead) : DefOk P w K mg base CX0 "first_in_manner" 2 2 f_first_in_manner :=
  A.ok sc_first_in_manner rfl (by decide) fun f cdv A outer s H E ah hr => by
    exact (pfss_one (pfs_ret (pf_tup (pfa_cons (pf_const T.c_FIRST_CELL) (pfa_cons (pf_call d_state_ahead (hr.mono (by decide)) (pfa_cons (pf_ix ix_D os_ix (pf_fld (fun C h => ⟨(T.play C h).cl, T.play_inputs C h⟩) (pf_v 0)) (pf_v 1) (fun _ _ => rfl)) (pfa_cons pf_int pfa_nil))) pfa_nil)))))
abbrev s_first_of_hand : Stmt := top 60
theorem sc_first_of_hand : FnScope ["play", "hand"] ["play", "hand"] (defScope s_first_of_hand) := ⟨rfl, rfl, rfl, by decide +kernel, rfl, by decide +kernel, by decide +kernel⟩
noncomputable def b_first_of_hand : FS := (sSeq (sIf (cT (cOp inD (c1 (fldD "kind") (cV 0)) (cD k_MANNERS))) (sRet (cFn 2 f_first_in_manner (cC (cV 0) (cC (cV 1) cN)))) sNx) (sSeq (sIf (cT (cOp eqD (c1 (fldD "kind") (cV 0)) (cD (.str "levels")))) (sRet cDead) sNx) (sRet cDead)))
noncomputable def f_first_of_hand : List D → Gh → M D := fun ds g => noX (fnOf 2 b_first_of_hand ds g)
theorem d_first_of_hand {P : Program} {w : World} {K : PySem.W.Frag} {mg : Str → Option Value} {base : Heap} (T : Txt P w K mg base) (A : DefAt K mg "first_of_hand" s_first_of_hand ["play", "hand"]) (d_first_in_manner : DefOk P w K mg base CX0 "first_in_manner" 2 2 f_first_in_manner) : DefOk P w K mg base CX0 "first_of_hand" 3 2 f_first_of_hand :=
  A.ok sc_first_of_hand rfl (by decide) fun f cdv A outer s H E ah hr => by
    exact (pfss_cons (pfs_if (pft_cmp op_in_seq os_in (pf_fld (fun C h => ⟨(T.play C h).cl, T.play_kind C h⟩) (pf_v 0)) (pf_const T.c_MANNERS) rfl) (pfss_one (pfs_ret (pf_call d_first_in_manner (hr.mono (by decide)) (pfa_cons (pf_v 0) (pfa_cons (pf_v 1) pfa_nil))))) pfss_nil) (pfss_cons (pfs_if (pft_cmp (op_eqD (hu64 hr)) os_eq (pf_fld (fun C h => ⟨(T.play C h).cl, T.play_kind C h⟩) (pf_v 0)) pf_str (nomark _)) (pfss_one (pfs_ret pf_deadE)) pfss_nil) (pfss_one (pfs_ret pf_deadE))))
abbrev s_first_standing : Stmt := top 54
theorem sc_first_standing : FnScope ["play", "hands", "firsts", "cells", "states", "hand", "cell", "_", "state"] ["play"] (defScope s_first_standing) := ⟨rfl, rfl, rfl, by decide +kernel, rfl, by decide +kernel, by decide +kernel⟩
noncomputable def b_first_standing : FS := (sSeq (sAsg (cCall rngV (cC (cFn 1 f_many_hands (cC (cV 0) cN)) cN)) (gN 1)) (sSeq (sAsg (cLc (iRv (cV 1)) [5] (gN 5) tY (cFn 2 f_first_of_hand (cC (cV 0) (cC (cV 5) cN)))) (gN 2)) (sSeq (sAsg (cCall tupleD (cC (cLc (iS (cV 2)) [6, 7] (gT 2 (gsC (gN 6) (gsC (gN 7) gsN))) tY (cV 6)) cN)) (gN 3)) (sSeq (sAsg (cCall tupleD (cC (cLc (iS (cV 2)) [7, 8] (gT 2 (gsC (gN 7) (gsC (gN 8) gsN))) tY (cV 8)) cN)) (gN 4)) (sRet (cTup (cC (cV 3) (cC (cV 4) (cC (cCall tupleD (cC (cLc (iRv (cV 1)) [7] (gN 7) tY (cTup cN)) cN)) cN)))))))))
noncomputable def f_first_standing : List D → Gh → M D := fun ds g => noX (fnOf 9 b_first_standing ds g)
theorem d_first_standing {P : Program} {w : World} {K : PySem.W.Frag} {mg : Str → Option Value} {base : Heap} (T : Txt P w K mg base) (A : DefAt K mg "first_standing" s_first_standing ["play"]) (d_many_hands : DefOk P w K mg base CX0 "many_hands" 1 1 f_many_hands) (d_first_of_hand : DefOk P w K mg base CX0 "first_of_hand" 3 2 f_first_of_hand) : DefOk P w K mg base CX0 "first_standing" 4 1 f_first_standing :=
  A.ok sc_first_standing rfl (by decide) fun f cdv A outer s H E ah hr => by
    exact (pfss_cons (pfs_set 1 sc_first_standing.nd (pf_rng1 T.b_range (pfa_cons (pf_call d_many_hands (hr.mono (by decide)) (pfa_cons (pf_v 0) pfa_nil)) pfa_nil))) (pfss_cons (pfs_lc 2 [("hand", 5)] sc_first_standing.nd (pfi_rngV (pf_v 1)) (fun _ => (pfg_n 5 sc_first_standing.nd)) (fun _ => pfts_nil) (fun _ => (pf_call d_first_of_hand (hr.mono (by decide)) (pfa_cons (pf_v 0) (pfa_cons (pf_v 5) pfa_nil)))) (blkOk_by (N := ["play", "hands", "firsts", "cells", "states", "hand", "cell", "_", "state"]) (sc := defScope s_first_standing) (by decide +kernel)) (sw_true rfl rfl rfl (by decide +kernel))) (pfss_cons (pfs_set 3 sc_first_standing.nd (pf_callTy call_tuple_of cs_tuple T.b_tuple (by decide +kernel) (pfa_cons (pf_lc [("cell", 6), ("_", 7)] sc_first_standing.nd (pfi_seq (pf_v 2)) (fun _ => (pfg_tup rfl (pfgs_cons (pfg_n 6 sc_first_standing.nd) (pfgs_cons (pfg_n 7 sc_first_standing.nd) pfgs_nil)))) (fun _ => pfts_nil) (fun _ => (pf_v 6)) (blkOk_by (N := ["play", "hands", "firsts", "cells", "states", "hand", "cell", "_", "state"]) (sc := defScope s_first_standing) (by decide +kernel))) pfa_nil))) (pfss_cons (pfs_set 4 sc_first_standing.nd (pf_callTy call_tuple_of cs_tuple T.b_tuple (by decide +kernel) (pfa_cons (pf_lc [("_", 7), ("state", 8)] sc_first_standing.nd (pfi_seq (pf_v 2)) (fun _ => (pfg_tup rfl (pfgs_cons (pfg_n 7 sc_first_standing.nd) (pfgs_cons (pfg_n 8 sc_first_standing.nd) pfgs_nil)))) (fun _ => pfts_nil) (fun _ => (pf_v 8)) (blkOk_by (N := ["play", "hands", "firsts", "cells", "states", "hand", "cell", "_", "state"]) (sc := defScope s_first_standing) (by decide +kernel))) pfa_nil))) (pfss_one (pfs_ret (pf_tup (pfa_cons (pf_v 3) (pfa_cons (pf_v 4) (pfa_cons (pf_callTy call_tuple_of cs_tuple T.b_tuple (by decide +kernel) (pfa_cons (pf_lc [("_", 7)] sc_first_standing.nd (pfi_rngV (pf_v 1)) (fun _ => (pfg_n 7 sc_first_standing.nd)) (fun _ => pfts_nil) (fun _ => (pf_tup pfa_nil)) (blkOk_by (N := ["play", "hands", "firsts", "cells", "states", "hand", "cell", "_", "state"]) (sc := defScope s_first_standing) (by decide +kernel))) pfa_nil)) pfa_nil))))))))))
abbrev s_can_step : Stmt := top 55
theorem sc_can_step : FnScope ["play", "standing", "hand", "state"] ["play", "standing"] (defScope s_can_step) := ⟨rfl, rfl, rfl, by decide +kernel, rfl, by decide +kernel, by decide +kernel⟩
noncomputable def b_can_step : FS := (sRet (cCall tupleD (cC (cLc (iEn (cC (cOp ixD (cV 1) (cD (.int 1))) cN)) [2, 3] (gT 2 (gsC (gN 2) (gsC (gN 3) gsN))) (cT (cOp notND (cV 3) (cD .non))) (cV 2)) cN)))
noncomputable def f_can_step : List D → Gh → M D := fun ds g => noX (fnOf 4 b_can_step ds g)
theorem d_can_step {P : Program} {w : World} {K : PySem.W.Frag} {mg : Str → Option Value} {base : Heap} (T : Txt P w K mg base) (A : DefAt K mg "can_step" s_can_step ["play", "standing"])  : DefOk P w K mg base CX0 "can_step" 1 2 f_can_step :=
  A.ok sc_can_step rfl (by decide) fun f cdv A outer s H E ah hr => by
    exact (pfss_one (pfs_ret (pf_callTy call_tuple_of cs_tuple T.b_tuple (by decide +kernel) (pfa_cons (pf_lc [("hand", 2), ("state", 3)] sc_can_step.nd (pfi_enum T.b_enumerate (pfa_cons (pf_ix ix_D os_ix (pf_v 1) pf_int (fun _ _ => rfl)) pfa_nil)) (fun _ => (pfg_tup rfl (pfgs_cons (pfg_n 2 sc_can_step.nd) (pfgs_cons (pfg_n 3 sc_can_step.nd) pfgs_nil)))) (fun _ => (pfts_one (pft_cmp op_notN os_notN (pf_v 3) pf_non (nomark _)))) (fun _ => (pf_v 2)) (blkOk_by (N := ["play", "standing", "hand", "state"]) (sc := defScope s_can_step) (by decide +kernel))) pfa_nil))))
abbrev s_is_whole : Stmt := top 24
theorem sc_is_whole : FnScope ["thing"] ["thing"] (defScope s_is_whole) := ⟨rfl, rfl, rfl, by decide +kernel, rfl, by decide +kernel, by decide +kernel⟩
noncomputable def b_is_whole : FS := (sRet (cAndV (cIs "int" (cV 0)) (c1 nB (cIs "bool" (cV 0)))))
noncomputable def f_is_whole : List D → Gh → M D := fun ds g => noX (fnOf 1 b_is_whole ds g)
theorem d_is_whole {P : Program} {w : World} {K : PySem.W.Frag} {mg : Str → Option Value} {base : Heap} (T : Txt P w K mg base) (A : DefAt K mg "is_whole" s_is_whole ["thing"])  : DefOk P w K mg base CX0 "is_whole" 1 1 f_is_whole :=
  A.ok sc_is_whole rfl (by decide) fun f cdv A outer s H E ah hr => by
    exact (pfss_one (pfs_ret (pf_and (pf_is (t := "int") (by simp) T.play T.b_isinstance T.b_int (by decide +kernel) (pf_v 0)) (pf_one (pf_not (pf_is (t := "bool") (by simp) T.play T.b_isinstance T.b_bool (by decide +kernel) (pf_v 0)))))))
abbrev s_is_whole_within : Stmt := top 25
theorem sc_is_whole_within : FnScope ["least", "most", "thing"] ["least", "most", "thing"] (defScope s_is_whole_within) := ⟨rfl, rfl, rfl, by decide +kernel, rfl, by decide +kernel, by decide +kernel⟩
noncomputable def b_is_whole_within : FS := (sRet (cAndV (cFn 1 f_is_whole (cC (cV 2) cN)) (cChain leD leD (cV 0) (cV 2) (cV 1))))
noncomputable def f_is_whole_within : List D → Gh → M D := fun ds g => noX (fnOf 3 b_is_whole_within ds g)
theorem d_is_whole_within {P : Program} {w : World} {K : PySem.W.Frag} {mg : Str → Option Value} {base : Heap} (T : Txt P w K mg base) (A : DefAt K mg "is_whole_within" s_is_whole_within ["least", "most", "thing"]) (d_is_whole : DefOk P w K mg base CX0 "is_whole" 1 1 f_is_whole) : DefOk P w K mg base CX0 "is_whole_within" 2 3 f_is_whole_within :=
  A.ok sc_is_whole_within rfl (by decide) fun f cdv A outer s H E ah hr => by
    exact (pfss_one (pfs_ret (pf_and (pf_call d_is_whole (hr.mono (by decide)) (pfa_cons (pf_v 2) pfa_nil)) (pf_one (pf_chain op_le op_le fs_int os_le (pf_v 0) (pf_v 2) (pf_v 1))))))
abbrev s_is_number_below : Stmt := top 26
theorem sc_is_number_below : FnScope ["limit", "thing"] ["limit", "thing"] (defScope s_is_number_below) := ⟨rfl, rfl, rfl, by decide +kernel, rfl, by decide +kernel, by decide +kernel⟩
noncomputable def b_is_number_below : FS := (sRet (cFn 3 f_is_whole_within (cC (cD (.int 0)) (cC (cOp subD (cV 0) (cD (.int 1))) (cC (cV 1) cN)))))
noncomputable def f_is_number_below : List D → Gh → M D := fun ds g => noX (fnOf 2 b_is_number_below ds g)
theorem d_is_number_below {P : Program} {w : World} {K : PySem.W.Frag} {mg : Str → Option Value} {base : Heap} (T : Txt P w K mg base) (A : DefAt K mg "is_number_below" s_is_number_below ["limit", "thing"]) (d_is_whole_within : DefOk P w K mg base CX0 "is_whole_within" 2 3 f_is_whole_within) : DefOk P w K mg base CX0 "is_number_below" 3 2 f_is_number_below :=
  A.ok sc_is_number_below rfl (by decide) fun f cdv A outer s H E ah hr => by
    exact (pfss_one (pfs_ret (pf_call d_is_whole_within (hr.mono (by decide)) (pfa_cons pf_int (pfa_cons (pf_bin op_sub os_sub (pf_v 0) pf_int) (pfa_cons (pf_v 1) pfa_nil))))))
abbrev s_is_hand : Stmt := top 58
theorem sc_is_hand : FnScope ["play", "thing"] ["play", "thing"] (defScope s_is_hand) := ⟨rfl, rfl, rfl, by decide +kernel, rfl, by decide +kernel, by decide +kernel⟩
noncomputable def b_is_hand : FS := (sRet (cFn 2 f_is_number_below (cC (cFn 1 f_many_hands (cC (cV 0) cN)) (cC (cV 1) cN))))
noncomputable def f_is_hand : List D → Gh → M D := fun ds g => noX (fnOf 2 b_is_hand ds g)
theorem d_is_hand {P : Program} {w : World} {K : PySem.W.Frag} {mg : Str → Option Value} {base : Heap} (T : Txt P w K mg base) (A : DefAt K mg "is_hand" s_is_hand ["play", "thing"]) (d_many_hands : DefOk P w K mg base CX0 "many_hands" 1 1 f_many_hands) (d_is_number_below : DefOk P w K mg base CX0 "is_number_below" 3 2 f_is_number_below) : DefOk P w K mg base CX0 "is_hand" 4 2 f_is_hand :=
  A.ok sc_is_hand rfl (by decide) fun f cdv A outer s H E ah hr => by
    exact (pfss_one (pfs_ret (pf_call d_is_number_below (hr.mono (by decide)) (pfa_cons (pf_call d_many_hands (hr.mono (by decide)) (pfa_cons (pf_v 0) pfa_nil)) (pfa_cons (pf_v 1) pfa_nil)))))
abbrev s_check_turn : Stmt := top 59
theorem sc_check_turn : FnScope ["play", "standing", "hand"] ["play", "standing", "hand"] (defScope s_check_turn) := ⟨rfl, rfl, rfl, by decide +kernel, rfl, by decide +kernel, by decide +kernel⟩
noncomputable def b_check_turn : FS := (sSeq (sIf (cNot (cT (cFn 2 f_is_hand (cC (cV 0) (cC (cV 2) cN))))) sDead sNx) (sIf (cT (cOp isND (cOp ixD (cOp ixD (cV 1) (cD (.int 1))) (cV 2)) (cD .non))) sDead sNx))
noncomputable def f_check_turn : List D → Gh → M D := fun ds g => noX (fnOf 3 b_check_turn ds g)
theorem d_check_turn {P : Program} {w : World} {K : PySem.W.Frag} {mg : Str → Option Value} {base : Heap} (T : Txt P w K mg base) (A : DefAt K mg "check_turn" s_check_turn ["play", "standing", "hand"]) (d_is_hand : DefOk P w K mg base CX0 "is_hand" 4 2 f_is_hand) : DefOk P w K mg base CX0 "check_turn" 5 3 f_check_turn :=
  A.ok sc_check_turn rfl (by decide) fun f cdv A outer s H E ah hr => by
    exact (pfss_cons (pfs_if (pft_not (pft_val (pf_call d_is_hand (hr.mono (by decide)) (pfa_cons (pf_v 0) (pfa_cons (pf_v 2) pfa_nil))))) (pfss_one pfs_dead) pfss_nil) (pfss_one (pfs_if (pft_cmp op_isN os_isN (pf_ix ix_D os_ix (pf_ix ix_D os_ix (pf_v 1) pf_int (fun _ _ => rfl)) (pf_v 2) (fun _ _ => rfl)) pf_non (nomark _)) (pfss_one pfs_dead) pfss_nil)))
abbrev s_puts_next : Stmt := top 15
theorem sc_puts_next : FnScope ["play", "hand", "state"] ["play", "hand", "state"] (defScope s_puts_next) := ⟨rfl, rfl, rfl, by decide +kernel, rfl, by decide +kernel, by decide +kernel⟩
noncomputable def b_puts_next : FS := (sSeq (sIf (cT (cOp neD (cOp ixD (cOp ixD (cOp ixD (c1 (fldD "inputs") (cV 0)) (cV 1)) (cOp ixD (cV 2) (cD (.int 0)))) (cD (.int 0))) (cD (.str "put")))) (sRet (cD (.bl false))) sNx) (sRet (cOrV (cOp neD (c1 (fldD "kind") (cV 0)) (cD (.str "borrow"))) (cOp notND (cOp ixD (cV 2) (cD (.int 4))) (cD .non)))))
noncomputable def f_puts_next : List D → Gh → M D := fun ds g => noX (fnOf 3 b_puts_next ds g)
theorem d_puts_next {P : Program} {w : World} {K : PySem.W.Frag} {mg : Str → Option Value} {base : Heap} (T : Txt P w K mg base) (A : DefAt K mg "puts_next" s_puts_next ["play", "hand", "state"])  : DefOk P w K mg base CX0 "puts_next" 1 3 f_puts_next :=
  A.ok sc_puts_next rfl (by decide) fun f cdv A outer s H E ah hr => by
    exact (pfss_cons (pfs_if (pft_cmp (op_neD (hu64 hr)) os_ne (pf_ix ix_D os_ix (pf_ix ix_D os_ix (pf_ix ix_D os_ix (pf_fld (fun C h => ⟨(T.play C h).cl, T.play_inputs C h⟩) (pf_v 0)) (pf_v 1) (fun _ _ => rfl)) (pf_ix ix_D os_ix (pf_v 2) pf_int (fun _ _ => rfl)) (fun _ _ => rfl)) pf_int (fun _ _ => rfl)) pf_str (nomark _)) (pfss_one (pfs_ret pf_bl)) pfss_nil) (pfss_one (pfs_ret (pf_or (pf_cmp (op_neD (hu64 hr)) os_ne (pf_fld (fun C h => ⟨(T.play C h).cl, T.play_kind C h⟩) (pf_v 0)) pf_str (nomark _)) (pf_one (pf_cmp op_notN os_notN (pf_ix ix_D os_ix (pf_v 2) pf_int (fun _ _ => rfl)) pf_non (nomark _)))))))
abbrev s_behind_put : Stmt := top 17
theorem sc_behind_put : FnScope ["script", "cell", "state", "done", "ready"] ["script", "cell", "state"] (defScope s_behind_put) := ⟨rfl, rfl, rfl, by decide +kernel, rfl, by decide +kernel, by decide +kernel⟩
noncomputable def b_behind_put : FS := (sSeq (sPar 3 4 (cC (cOp ixD (cV 2) (cD (.int 0))) (cC (cOp ixD (cV 2) (cD (.int 4))) cN))) (sSeq (sAsg (cTup (cC (cOp addD (cOp ixD (cV 1) (cD (.int 0))) (cD (.int 1))) (cC (cOp ixD (cOp ixD (cV 0) (cV 3)) (cD (.int 1))) (cC (cV 4) cN)))) (gN 1)) (sRet (cTup (cC (cV 1) (cC (cFn 2 f_state_ahead (cC (cV 0) (cC (cOp addD (cV 3) (cD (.int 1))) cN))) (cC (cTup cN) cN)))))))
noncomputable def f_behind_put : List D → Gh → M D := fun ds g => noX (fnOf 5 b_behind_put ds g)
theorem d_behind_put {P : Program} {w : World} {K : PySem.W.Frag} {mg : Str → Option Value} {base : Heap} (T : Txt P w K mg base) (A : DefAt K mg "behind_put" s_behind_put ["script", "cell", "state"]) (d_state_ahead : DefOk P w K mg base CX0 "state_ahead" 1 2 f_state_ahead) : DefOk P w K mg base CX0 "behind_put" 2 3 f_behind_put :=
  A.ok sc_behind_put rfl (by decide) fun f cdv A outer s H E ah hr => by
    exact (pfss_cons (pfs_par 3 4 rfl sc_behind_put.nd (pfa_cons (pf_ix ix_D os_ix (pf_v 2) pf_int (fun _ _ => rfl)) (pfa_cons (pf_ix ix_D os_ix (pf_v 2) pf_int (fun _ _ => rfl)) pfa_nil))) (pfss_cons (pfs_set 1 sc_behind_put.nd (pf_tup (pfa_cons (pf_bin op_addD os_add (pf_ix ix_D os_ix (pf_v 1) pf_int (fun _ _ => rfl)) pf_int) (pfa_cons (pf_ix ix_D os_ix (pf_ix ix_D os_ix (pf_v 0) (pf_v 3) (fun _ _ => rfl)) pf_int (fun _ _ => rfl)) (pfa_cons (pf_v 4) pfa_nil))))) (pfss_one (pfs_ret (pf_tup (pfa_cons (pf_v 1) (pfa_cons (pf_call d_state_ahead (hr.mono (by decide)) (pfa_cons (pf_v 0) (pfa_cons (pf_bin op_addD os_add (pf_v 3) pf_int) pfa_nil))) (pfa_cons (pf_tup pfa_nil) pfa_nil))))))))
abbrev s_behind_picture : Stmt := top 19
theorem sc_behind_picture : FnScope ["script", "done", "picture"] ["script", "done", "picture"] (defScope s_behind_picture) := ⟨rfl, rfl, rfl, by decide +kernel, rfl, by decide +kernel, by decide +kernel⟩
noncomputable def b_behind_picture : FS := (sSeq (sIf (cT (cOp eqD (cOp ixD (cOp ixD (cV 0) (cV 1)) (cD (.int 0))) (cD (.str "put")))) (sRet (cTup (cC (cTup (cC (cV 1) (cC (cD .non) (cC (cD .non) (cC (cTup cN) (cC (cV 2) cN)))))) (cC (cTup cN) cN)))) sNx) (sRet (cTup (cC (cFn 2 f_state_ahead (cC (cV 0) (cC (cOp addD (cV 1) (cD (.int 1))) cN))) (cC (cTup (cC (cV 2) cN)) cN)))))
noncomputable def f_behind_picture : List D → Gh → M D := fun ds g => noX (fnOf 3 b_behind_picture ds g)
theorem d_behind_picture {P : Program} {w : World} {K : PySem.W.Frag} {mg : Str → Option Value} {base : Heap} (T : Txt P w K mg base) (A : DefAt K mg "behind_picture" s_behind_picture ["script", "done", "picture"]) (d_state_ahead : DefOk P w K mg base CX0 "state_ahead" 1 2 f_state_ahead) : DefOk P w K mg base CX0 "behind_picture" 2 3 f_behind_picture :=
  A.ok sc_behind_picture rfl (by decide) fun f cdv A outer s H E ah hr => by
    exact (pfss_cons (pfs_if (pft_cmp (op_eqD (hu64 hr)) os_eq (pf_ix ix_D os_ix (pf_ix ix_D os_ix (pf_v 0) (pf_v 1) (fun _ _ => rfl)) pf_int (fun _ _ => rfl)) pf_str (nomark _)) (pfss_one (pfs_ret (pf_tup (pfa_cons (pf_tup (pfa_cons (pf_v 1) (pfa_cons pf_non (pfa_cons pf_non (pfa_cons (pf_tup pfa_nil) (pfa_cons (pf_v 2) pfa_nil)))))) (pfa_cons (pf_tup pfa_nil) pfa_nil))))) pfss_nil) (pfss_one (pfs_ret (pf_tup (pfa_cons (pf_call d_state_ahead (hr.mono (by decide)) (pfa_cons (pf_v 0) (pfa_cons (pf_bin op_addD os_add (pf_v 1) pf_int) pfa_nil))) (pfa_cons (pf_tup (pfa_cons (pf_v 2) pfa_nil)) pfa_nil))))))
abbrev s_numbers_of : Stmt := top 20
theorem sc_numbers_of : FnScope ["cells", "cell"] ["cells"] (defScope s_numbers_of) := ⟨rfl, rfl, rfl, by decide +kernel, rfl, by decide +kernel, by decide +kernel⟩
noncomputable def b_numbers_of : FS := (sRet (cCall tupleD (cC (cLc (iS (cV 0)) [1] (gN 1) tY (cOp ixD (cV 1) (cD (.int 0)))) cN)))
noncomputable def f_numbers_of : List D → Gh → M D := fun ds g => noX (fnOf 2 b_numbers_of ds g)
theorem d_numbers_of {P : Program} {w : World} {K : PySem.W.Frag} {mg : Str → Option Value} {base : Heap} (T : Txt P w K mg base) (A : DefAt K mg "numbers_of" s_numbers_of ["cells"])  : DefOk P w K mg base CX0 "numbers_of" 1 1 f_numbers_of :=
  A.ok sc_numbers_of rfl (by decide) fun f cdv A outer s H E ah hr => by
    exact (pfss_one (pfs_ret (pf_callTy call_tuple_of cs_tuple T.b_tuple (by decide +kernel) (pfa_cons (pf_lc [("cell", 1)] sc_numbers_of.nd (pfi_seq (pf_v 0)) (fun _ => (pfg_n 1 sc_numbers_of.nd)) (fun _ => pfts_nil) (fun _ => (pf_ix ix_D os_ix (pf_v 1) pf_int (fun _ _ => rfl))) (blkOk_by (N := ["cells", "cell"]) (sc := defScope s_numbers_of) (by decide +kernel))) pfa_nil))))
abbrev s_borrowed : Stmt := top 22
theorem sc_borrowed : FnScope ["first", "now", "number", "cell"] ["first", "now"] (defScope s_borrowed) := ⟨rfl, rfl, rfl, by decide +kernel, rfl, by decide +kernel, by decide +kernel⟩
noncomputable def b_borrowed : FS := (sSeq (sFor (iZ (cC (cV 0) (cC (cV 1) cN))) (gT 2 (gsC (gN 2) (gsC (gN 3) gsN))) (sIf (cT (cOp geD (cOp ixD (cV 3) (cD (.int 0))) (cOp addD (cV 2) (cD (.int 2))))) (sRet (cOp ixD (cV 3) (cD (.int 2)))) sNx)) (sRet (cD .non)))
noncomputable def f_borrowed : List D → Gh → M D := fun ds g => noX (fnOf 4 b_borrowed ds g)
theorem d_borrowed {P : Program} {w : World} {K : PySem.W.Frag} {mg : Str → Option Value} {base : Heap} (T : Txt P w K mg base) (A : DefAt K mg "borrowed" s_borrowed ["first", "now"])  : DefOk P w K mg base CX0 "borrowed" 1 2 f_borrowed :=
  A.ok sc_borrowed rfl (by decide) fun f cdv A outer s H E ah hr => by
    exact (pfss_cons (pfs_for PassesOwn.never rfl (pfi_zip T.b_zip (pfa_cons (pf_v 0) (pfa_cons (pf_v 1) pfa_nil))) (pfg_tup rfl (pfgs_cons (pfg_n 2 sc_borrowed.nd) (pfgs_cons (pfg_n 3 sc_borrowed.nd) pfgs_nil))) (pfss_one (pfs_if (pft_cmp op_ge os_ge (pf_ix ix_D os_ix (pf_v 3) pf_int (fun _ _ => rfl)) (pf_bin op_addD os_add (pf_v 2) pf_int) (nomark _)) (pfss_one (pfs_ret (pf_ix ix_D os_ix (pf_v 3) pf_int (fun _ _ => rfl)))) pfss_nil))) (pfss_one (pfs_ret pf_non)))
abbrev s_picture_of_sweep : Stmt := top 21
theorem sc_picture_of_sweep : FnScope ["kind", "first", "last", "now", "cell"] ["kind", "first", "last", "now"] (defScope s_picture_of_sweep) := ⟨rfl, rfl, rfl, by decide +kernel, rfl, by decide +kernel, by decide +kernel⟩
noncomputable def b_picture_of_sweep : FS := (sSeq (sIf (cOr (cT (cOp eqD (cV 0) (cD (.str "sweep")))) (cT (cOp eqD (cFn 1 f_numbers_of (cC (cV 3) cN)) (cV 2)))) (sRet (cCall tupleD (cC (cLc (iS (cV 3)) [4] (gN 4) tY (cTup (cC (cOp ixD (cV 4) (cD (.int 0))) (cC (cOp ixD (cV 4) (cD (.int 1))) cN)))) cN))) sNx) (sSeq (sIf (cAnd (cT (cOp eqD (cV 0) (cD (.str "borrow")))) (cT (cOp notND (cV 1) (cD .non)))) (sRet (cFn 2 f_borrowed (cC (cV 1) (cC (cV 3) cN)))) sNx) (sRet (cD .non))))
noncomputable def f_picture_of_sweep : List D → Gh → M D := fun ds g => noX (fnOf 5 b_picture_of_sweep ds g)
theorem d_picture_of_sweep {P : Program} {w : World} {K : PySem.W.Frag} {mg : Str → Option Value} {base : Heap} (T : Txt P w K mg base) (A : DefAt K mg "picture_of_sweep" s_picture_of_sweep ["kind", "first", "last", "now"]) (d_numbers_of : DefOk P w K mg base CX0 "numbers_of" 1 1 f_numbers_of) (d_borrowed : DefOk P w K mg base CX0 "borrowed" 1 2 f_borrowed) : DefOk P w K mg base CX0 "picture_of_sweep" 2 4 f_picture_of_sweep :=
  A.ok sc_picture_of_sweep rfl (by decide) fun f cdv A outer s H E ah hr => by
    exact (pfss_cons (pfs_if (pft_w (pfw_or (pft_cmp (op_eqD (hu64 hr)) os_eq (pf_v 0) pf_str (nomark _)) (pfw_or1 (pft_cmp (op_eqD (hu64 hr)) os_eq (pf_call d_numbers_of (hr.mono (by decide)) (pfa_cons (pf_v 3) pfa_nil)) (pf_v 2) (nomark _))))) (pfss_one (pfs_ret (pf_callTy call_tuple_of cs_tuple T.b_tuple (by decide +kernel) (pfa_cons (pf_lc [("cell", 4)] sc_picture_of_sweep.nd (pfi_seq (pf_v 3)) (fun _ => (pfg_n 4 sc_picture_of_sweep.nd)) (fun _ => pfts_nil) (fun _ => (pf_tup (pfa_cons (pf_ix ix_D os_ix (pf_v 4) pf_int (fun _ _ => rfl)) (pfa_cons (pf_ix ix_D os_ix (pf_v 4) pf_int (fun _ _ => rfl)) pfa_nil)))) (blkOk_by (N := ["kind", "first", "last", "now", "cell"]) (sc := defScope s_picture_of_sweep) (by decide +kernel))) pfa_nil)))) pfss_nil) (pfss_cons (pfs_if (pft_w (pfw_and (pft_cmp (op_eqD (hu64 hr)) os_eq (pf_v 0) pf_str (nomark _)) (pfw_and1 (pft_cmp op_notN os_notN (pf_v 1) pf_non (nomark _))))) (pfss_one (pfs_ret (pf_call d_borrowed (hr.mono (by decide)) (pfa_cons (pf_v 1) (pfa_cons (pf_v 3) pfa_nil))))) pfss_nil) (pfss_one (pfs_ret pf_non))))
abbrev s_behind_look : Stmt := top 18
theorem sc_behind_look : FnScope ["play", "cells", "state", "hand", "now", "picture", "numbers", "done", "first", "last", "ready"] ["play", "cells", "state", "hand"] (defScope s_behind_look) := ⟨rfl, rfl, rfl, by decide +kernel, rfl, by decide +kernel, by decide +kernel⟩
noncomputable def b_behind_look : FS := (sSeq (sAsg (cV 2) (gT 5 (gsC (gN 7) (gsC (gN 8) (gsC (gN 9) (gsC (gN 4) (gsC (gN 10) gsN))))))) (sSeq (sAsg (cOp addD (cV 4) (cTup (cC (cOp ixD (cV 1) (cCall lenD (cC (cV 4) cN))) cN))) (gN 4)) (sSeq (sIf (cT (cOp ltD (cCall lenD (cC (cV 4) cN)) (cCall lenD (cC (cV 1) cN)))) (sRet (cTup (cC (cTup (cC (cV 7) (cC (cV 8) (cC (cV 9) (cC (cV 4) (cC (cV 10) cN)))))) (cC (cTup cN) cN)))) sNx) (sSeq (sAsg (cFn 4 f_picture_of_sweep (cC (c1 (fldD "kind") (cV 0)) (cC (cV 8) (cC (cV 9) (cC (cV 4) cN))))) (gN 5)) (sSeq (sIf (cT (cOp notND (cV 5) (cD .non))) (sRet (cFn 3 f_behind_picture (cC (cOp ixD (c1 (fldD "inputs") (cV 0)) (cV 3)) (cC (cV 7) (cC (cV 5) cN))))) sNx) (sSeq (sAsg (cFn 1 f_numbers_of (cC (cV 4) cN)) (gN 6)) (sSeq (sIf (cT (cOp isND (cV 8) (cD .non))) (sAsg (cV 6) (gN 8)) sNx) (sRet (cTup (cC (cTup (cC (cV 7) (cC (cV 8) (cC (cV 6) (cC (cTup cN) (cC (cV 10) cN)))))) (cC (cTup cN) cN)))))))))))
noncomputable def f_behind_look : List D → Gh → M D := fun ds g => noX (fnOf 11 b_behind_look ds g)
theorem d_behind_look {P : Program} {w : World} {K : PySem.W.Frag} {mg : Str → Option Value} {base : Heap} (T : Txt P w K mg base) (A : DefAt K mg "behind_look" s_behind_look ["play", "cells", "state", "hand"]) (d_picture_of_sweep : DefOk P w K mg base CX0 "picture_of_sweep" 2 4 f_picture_of_sweep) (d_behind_picture : DefOk P w K mg base CX0 "behind_picture" 2 3 f_behind_picture) (d_numbers_of : DefOk P w K mg base CX0 "numbers_of" 1 1 f_numbers_of) : DefOk P w K mg base CX0 "behind_look" 3 4 f_behind_look :=
  A.ok sc_behind_look rfl (by decide) fun f cdv A outer s H E ah hr => by
    exact (pfss_cons (pfs_asg (pf_v 2) (pfg_tup rfl (pfgs_cons (pfg_n 7 sc_behind_look.nd) (pfgs_cons (pfg_n 8 sc_behind_look.nd) (pfgs_cons (pfg_n 9 sc_behind_look.nd) (pfgs_cons (pfg_n 4 sc_behind_look.nd) (pfgs_cons (pfg_n 10 sc_behind_look.nd) pfgs_nil))))))) (pfss_cons (pfs_set 4 sc_behind_look.nd (pf_bin op_addD os_add (pf_v 4) (pf_tup (pfa_cons (pf_ix ix_D os_ix (pf_v 1) (pf_len T.b_len (pfa_cons (pf_v 4) pfa_nil)) (fun _ _ => rfl)) pfa_nil)))) (pfss_cons (pfs_if (pft_cmp op_lt os_lt (pf_len T.b_len (pfa_cons (pf_v 4) pfa_nil)) (pf_len T.b_len (pfa_cons (pf_v 1) pfa_nil)) (nomark _)) (pfss_one (pfs_ret (pf_tup (pfa_cons (pf_tup (pfa_cons (pf_v 7) (pfa_cons (pf_v 8) (pfa_cons (pf_v 9) (pfa_cons (pf_v 4) (pfa_cons (pf_v 10) pfa_nil)))))) (pfa_cons (pf_tup pfa_nil) pfa_nil))))) pfss_nil) (pfss_cons (pfs_set 5 sc_behind_look.nd (pf_call d_picture_of_sweep (hr.mono (by decide)) (pfa_cons (pf_fld (fun C h => ⟨(T.play C h).cl, T.play_kind C h⟩) (pf_v 0)) (pfa_cons (pf_v 8) (pfa_cons (pf_v 9) (pfa_cons (pf_v 4) pfa_nil)))))) (pfss_cons (pfs_if (pft_cmp op_notN os_notN (pf_v 5) pf_non (nomark _)) (pfss_one (pfs_ret (pf_call d_behind_picture (hr.mono (by decide)) (pfa_cons (pf_ix ix_D os_ix (pf_fld (fun C h => ⟨(T.play C h).cl, T.play_inputs C h⟩) (pf_v 0)) (pf_v 3) (fun _ _ => rfl)) (pfa_cons (pf_v 7) (pfa_cons (pf_v 5) pfa_nil)))))) pfss_nil) (pfss_cons (pfs_set 6 sc_behind_look.nd (pf_call d_numbers_of (hr.mono (by decide)) (pfa_cons (pf_v 4) pfa_nil))) (pfss_cons (pfs_if (pft_cmp op_isN os_isN (pf_v 8) pf_non (nomark _)) (pfss_one (pfs_set 8 sc_behind_look.nd (pf_v 6))) pfss_nil) (pfss_one (pfs_ret (pf_tup (pfa_cons (pf_tup (pfa_cons (pf_v 7) (pfa_cons (pf_v 8) (pfa_cons (pf_v 6) (pfa_cons (pf_tup pfa_nil) (pfa_cons (pf_v 10) pfa_nil)))))) (pfa_cons (pf_tup pfa_nil) pfa_nil))))))))))))
abbrev s_step_in_manner : Stmt := top 16
theorem sc_step_in_manner : FnScope ["play", "cells", "state", "hand", "news"] ["play", "cells", "state", "hand"] (defScope s_step_in_manner) := ⟨rfl, rfl, rfl, by decide +kernel, rfl, by decide +kernel, by decide +kernel⟩
noncomputable def b_step_in_manner : FS := (sSeq (sIf (cT (cFn 3 f_puts_next (cC (cV 0) (cC (cV 3) (cC (cV 2) cN))))) (sRet (cFn 3 f_behind_put (cC (cOp ixD (c1 (fldD "inputs") (cV 0)) (cV 3)) (cC (cOp ixD (cV 1) (cV 3)) (cC (cV 2) cN))))) sNx) (sSeq (sAsg (cFn 4 f_behind_look (cC (cV 0) (cC (cV 1) (cC (cV 2) (cC (cV 3) cN))))) (gT 2 (gsC (gN 2) (gsC (gN 4) gsN)))) (sRet (cTup (cC (cOp ixD (cV 1) (cV 3)) (cC (cV 2) (cC (cV 4) cN)))))))
noncomputable def f_step_in_manner : List D → Gh → M D := fun ds g => noX (fnOf 5 b_step_in_manner ds g)
theorem d_step_in_manner {P : Program} {w : World} {K : PySem.W.Frag} {mg : Str → Option Value} {base : Heap} (T : Txt P w K mg base) (A : DefAt K mg "step_in_manner" s_step_in_manner ["play", "cells", "state", "hand"]) (d_puts_next : DefOk P w K mg base CX0 "puts_next" 1 3 f_puts_next) (d_behind_put : DefOk P w K mg base CX0 "behind_put" 2 3 f_behind_put) (d_behind_look : DefOk P w K mg base CX0 "behind_look" 3 4 f_behind_look) : DefOk P w K mg base CX0 "step_in_manner" 4 4 f_step_in_manner :=
  A.ok sc_step_in_manner rfl (by decide) fun f cdv A outer s H E ah hr => by
    exact (pfss_cons (pfs_if (pft_val (pf_call d_puts_next (hr.mono (by decide)) (pfa_cons (pf_v 0) (pfa_cons (pf_v 3) (pfa_cons (pf_v 2) pfa_nil))))) (pfss_one (pfs_ret (pf_call d_behind_put (hr.mono (by decide)) (pfa_cons (pf_ix ix_D os_ix (pf_fld (fun C h => ⟨(T.play C h).cl, T.play_inputs C h⟩) (pf_v 0)) (pf_v 3) (fun _ _ => rfl)) (pfa_cons (pf_ix ix_D os_ix (pf_v 1) (pf_v 3) (fun _ _ => rfl)) (pfa_cons (pf_v 2) pfa_nil)))))) pfss_nil) (pfss_cons (pfs_asg (pf_call d_behind_look (hr.mono (by decide)) (pfa_cons (pf_v 0) (pfa_cons (pf_v 1) (pfa_cons (pf_v 2) (pfa_cons (pf_v 3) pfa_nil))))) (pfg_tup rfl (pfgs_cons (pfg_n 2 sc_step_in_manner.nd) (pfgs_cons (pfg_n 4 sc_step_in_manner.nd) pfgs_nil)))) (pfss_one (pfs_ret (pf_tup (pfa_cons (pf_ix ix_D os_ix (pf_v 1) (pf_v 3) (fun _ _ => rfl)) (pfa_cons (pf_v 2) (pfa_cons (pf_v 4) pfa_nil))))))))
abbrev s_step_of_hand : Stmt := top 63
theorem sc_step_of_hand : FnScope ["play", "cells", "state", "hand"] ["play", "cells", "state", "hand"] (defScope s_step_of_hand) := ⟨rfl, rfl, rfl, by decide +kernel, rfl, by decide +kernel, by decide +kernel⟩
noncomputable def b_step_of_hand : FS := (sSeq (sIf (cT (cOp inD (c1 (fldD "kind") (cV 0)) (cD k_MANNERS))) (sRet (cFn 4 f_step_in_manner (cC (cV 0) (cC (cV 1) (cC (cV 2) (cC (cV 3) cN)))))) sNx) (sSeq (sIf (cT (cOp eqD (c1 (fldD "kind") (cV 0)) (cD (.str "levels")))) (sRet cDead) sNx) (sRet cDead)))
noncomputable def f_step_of_hand : List D → Gh → M D := fun ds g => noX (fnOf 4 b_step_of_hand ds g)
theorem d_step_of_hand {P : Program} {w : World} {K : PySem.W.Frag} {mg : Str → Option Value} {base : Heap} (T : Txt P w K mg base) (A : DefAt K mg "step_of_hand" s_step_of_hand ["play", "cells", "state", "hand"]) (d_step_in_manner : DefOk P w K mg base CX0 "step_in_manner" 4 4 f_step_in_manner) : DefOk P w K mg base CX0 "step_of_hand" 5 4 f_step_of_hand :=
  A.ok sc_step_of_hand rfl (by decide) fun f cdv A outer s H E ah hr => by
    exact (pfss_cons (pfs_if (pft_cmp op_in_seq os_in (pf_fld (fun C h => ⟨(T.play C h).cl, T.play_kind C h⟩) (pf_v 0)) (pf_const T.c_MANNERS) rfl) (pfss_one (pfs_ret (pf_call d_step_in_manner (hr.mono (by decide)) (pfa_cons (pf_v 0) (pfa_cons (pf_v 1) (pfa_cons (pf_v 2) (pfa_cons (pf_v 3) pfa_nil))))))) pfss_nil) (pfss_cons (pfs_if (pft_cmp (op_eqD (hu64 hr)) os_eq (pf_fld (fun C h => ⟨(T.play C h).cl, T.play_kind C h⟩) (pf_v 0)) pf_str (nomark _)) (pfss_one (pfs_ret pf_deadE)) pfss_nil) (pfss_one (pfs_ret pf_deadE))))
abbrev s_put_at : Stmt := top 64
theorem sc_put_at : FnScope ["row", "hand", "item"] ["row", "hand", "item"] (defScope s_put_at) := ⟨rfl, rfl, rfl, by decide +kernel, rfl, by decide +kernel, by decide +kernel⟩
noncomputable def b_put_at : FS := (sRet (cOp addD (cOp addD (cSl (cV 0) oN (oS (cV 1))) (cTup (cC (cV 2) cN))) (cSl (cV 0) (oS (cOp addD (cV 1) (cD (.int 1)))) oN)))
noncomputable def f_put_at : List D → Gh → M D := fun ds g => noX (fnOf 3 b_put_at ds g)
theorem d_put_at {P : Program} {w : World} {K : PySem.W.Frag} {mg : Str → Option Value} {base : Heap} (T : Txt P w K mg base) (A : DefAt K mg "put_at" s_put_at ["row", "hand", "item"])  : DefOk P w K mg base CX0 "put_at" 1 3 f_put_at :=
  A.ok sc_put_at rfl (by decide) fun f cdv A outer s H E ah hr => by
    exact (pfss_one (pfs_ret (pf_bin op_addD os_add (pf_bin op_addD os_add (pf_sl (pf_v 0) pfo_none (pfo_some (pf_v 1))) (pf_tup (pfa_cons (pf_v 2) pfa_nil))) (pf_sl (pf_v 0) (pfo_some (pf_bin op_addD os_add (pf_v 1) pf_int)) pfo_none))))
abbrev s_standing_behind : Stmt := top 62
theorem sc_standing_behind : FnScope ["play", "standing", "hand", "cells", "states", "told", "cell", "state", "news"] ["play", "standing", "hand"] (defScope s_standing_behind) := ⟨rfl, rfl, rfl, by decide +kernel, rfl, by decide +kernel, by decide +kernel⟩
noncomputable def b_standing_behind : FS := (sSeq (sAsg (cV 1) (gT 3 (gsC (gN 3) (gsC (gN 4) (gsC (gN 5) gsN))))) (sSeq (sAsg (cFn 4 f_step_of_hand (cC (cV 0) (cC (cV 3) (cC (cOp ixD (cV 4) (cV 2)) (cC (cV 2) cN))))) (gT 3 (gsC (gN 6) (gsC (gN 7) (gsC (gN 8) gsN))))) (sRet (cTup (cC (cFn 3 f_put_at (cC (cV 3) (cC (cV 2) (cC (cV 6) cN)))) (cC (cFn 3 f_put_at (cC (cV 4) (cC (cV 2) (cC (cV 7) cN)))) (cC (cFn 3 f_put_at (cC (cV 5) (cC (cV 2) (cC (cOp addD (cOp ixD (cV 5) (cV 2)) (cV 8)) cN)))) cN)))))))
noncomputable def f_standing_behind : List D → Gh → M D := fun ds g => noX (fnOf 9 b_standing_behind ds g)
theorem d_standing_behind {P : Program} {w : World} {K : PySem.W.Frag} {mg : Str → Option Value} {base : Heap} (T : Txt P w K mg base) (A : DefAt K mg "standing_behind" s_standing_behind ["play", "standing", "hand"]) (d_step_of_hand : DefOk P w K mg base CX0 "step_of_hand" 5 4 f_step_of_hand) (d_put_at : DefOk P w K mg base CX0 "put_at" 1 3 f_put_at) : DefOk P w K mg base CX0 "standing_behind" 6 3 f_standing_behind :=
  A.ok sc_standing_behind rfl (by decide) fun f cdv A outer s H E ah hr => by
    exact (pfss_cons (pfs_asg (pf_v 1) (pfg_tup rfl (pfgs_cons (pfg_n 3 sc_standing_behind.nd) (pfgs_cons (pfg_n 4 sc_standing_behind.nd) (pfgs_cons (pfg_n 5 sc_standing_behind.nd) pfgs_nil))))) (pfss_cons (pfs_asg (pf_call d_step_of_hand (hr.mono (by decide)) (pfa_cons (pf_v 0) (pfa_cons (pf_v 3) (pfa_cons (pf_ix ix_D os_ix (pf_v 4) (pf_v 2) (fun _ _ => rfl)) (pfa_cons (pf_v 2) pfa_nil))))) (pfg_tup rfl (pfgs_cons (pfg_n 6 sc_standing_behind.nd) (pfgs_cons (pfg_n 7 sc_standing_behind.nd) (pfgs_cons (pfg_n 8 sc_standing_behind.nd) pfgs_nil))))) (pfss_one (pfs_ret (pf_tup (pfa_cons (pf_call d_put_at (hr.mono (by decide)) (pfa_cons (pf_v 3) (pfa_cons (pf_v 2) (pfa_cons (pf_v 6) pfa_nil)))) (pfa_cons (pf_call d_put_at (hr.mono (by decide)) (pfa_cons (pf_v 4) (pfa_cons (pf_v 2) (pfa_cons (pf_v 7) pfa_nil)))) (pfa_cons (pf_call d_put_at (hr.mono (by decide)) (pfa_cons (pf_v 5) (pfa_cons (pf_v 2) (pfa_cons (pf_bin op_addD os_add (pf_ix ix_D os_ix (pf_v 5) (pf_v 2) (fun _ _ => rfl)) (pf_v 8)) pfa_nil)))) pfa_nil))))))))
abbrev s_step : Stmt := top 56
theorem sc_step : FnScope ["play", "standing", "hand"] ["play", "standing", "hand"] (defScope s_step) := ⟨rfl, rfl, rfl, by decide +kernel, rfl, by decide +kernel, by decide +kernel⟩
noncomputable def b_step : FS := (sSeq (sDrop (cFn 3 f_check_turn (cC (cV 0) (cC (cV 1) (cC (cV 2) cN))))) (sRet (cFn 3 f_standing_behind (cC (cV 0) (cC (cV 1) (cC (cV 2) cN))))))
noncomputable def f_step : List D → Gh → M D := fun ds g => noX (fnOf 3 b_step ds g)
theorem d_step {P : Program} {w : World} {K : PySem.W.Frag} {mg : Str → Option Value} {base : Heap} (T : Txt P w K mg base) (A : DefAt K mg "step" s_step ["play", "standing", "hand"]) (d_check_turn : DefOk P w K mg base CX0 "check_turn" 5 3 f_check_turn) (d_standing_behind : DefOk P w K mg base CX0 "standing_behind" 6 3 f_standing_behind) : DefOk P w K mg base CX0 "step" 7 3 f_step :=
  A.ok sc_step rfl (by decide) fun f cdv A outer s H E ah hr => by
    exact (pfss_cons (pfs_expr (pf_call d_check_turn (hr.mono (by decide)) (pfa_cons (pf_v 0) (pfa_cons (pf_v 1) (pfa_cons (pf_v 2) pfa_nil))))) (pfss_one (pfs_ret (pf_call d_standing_behind (hr.mono (by decide)) (pfa_cons (pf_v 0) (pfa_cons (pf_v 1) (pfa_cons (pf_v 2) pfa_nil)))))))
abbrev s_word_in_manner : Stmt := top 14
theorem sc_word_in_manner : FnScope ["play", "state", "hand"] ["play", "state", "hand"] (defScope s_word_in_manner) := ⟨rfl, rfl, rfl, by decide +kernel, rfl, by decide +kernel, by decide +kernel⟩
noncomputable def b_word_in_manner : FS := (sSeq (sIf (cT (cFn 3 f_puts_next (cC (cV 0) (cC (cV 2) (cC (cV 1) cN))))) (sRet (cTup (cC (cD (.str "put")) cN))) sNx) (sRet (cTup (cC (cD (.str "look")) (cC (cCall lenD (cC (cOp ixD (cV 1) (cD (.int 3))) cN)) cN)))))
noncomputable def f_word_in_manner : List D → Gh → M D := fun ds g => noX (fnOf 3 b_word_in_manner ds g)
theorem d_word_in_manner {P : Program} {w : World} {K : PySem.W.Frag} {mg : Str → Option Value} {base : Heap} (T : Txt P w K mg base) (A : DefAt K mg "word_in_manner" s_word_in_manner ["play", "state", "hand"]) (d_puts_next : DefOk P w K mg base CX0 "puts_next" 1 3 f_puts_next) : DefOk P w K mg base CX0 "word_in_manner" 2 3 f_word_in_manner :=
  A.ok sc_word_in_manner rfl (by decide) fun f cdv A outer s H E ah hr => by
    exact (pfss_cons (pfs_if (pft_val (pf_call d_puts_next (hr.mono (by decide)) (pfa_cons (pf_v 0) (pfa_cons (pf_v 2) (pfa_cons (pf_v 1) pfa_nil))))) (pfss_one (pfs_ret (pf_tup (pfa_cons pf_str pfa_nil)))) pfss_nil) (pfss_one (pfs_ret (pf_tup (pfa_cons pf_str (pfa_cons (pf_len T.b_len (pfa_cons (pf_ix ix_D os_ix (pf_v 1) pf_int (fun _ _ => rfl)) pfa_nil)) pfa_nil))))))
abbrev s_word_of_step : Stmt := top 61
theorem sc_word_of_step : FnScope ["play", "state", "hand"] ["play", "state", "hand"] (defScope s_word_of_step) := ⟨rfl, rfl, rfl, by decide +kernel, rfl, by decide +kernel, by decide +kernel⟩
noncomputable def b_word_of_step : FS := (sSeq (sIf (cT (cOp inD (c1 (fldD "kind") (cV 0)) (cD k_MANNERS))) (sRet (cFn 3 f_word_in_manner (cC (cV 0) (cC (cV 1) (cC (cV 2) cN))))) sNx) (sSeq (sIf (cT (cOp eqD (c1 (fldD "kind") (cV 0)) (cD (.str "levels")))) (sRet cDead) sNx) (sRet cDead)))
noncomputable def f_word_of_step : List D → Gh → M D := fun ds g => noX (fnOf 3 b_word_of_step ds g)
theorem d_word_of_step {P : Program} {w : World} {K : PySem.W.Frag} {mg : Str → Option Value} {base : Heap} (T : Txt P w K mg base) (A : DefAt K mg "word_of_step" s_word_of_step ["play", "state", "hand"]) (d_word_in_manner : DefOk P w K mg base CX0 "word_in_manner" 2 3 f_word_in_manner) : DefOk P w K mg base CX0 "word_of_step" 3 3 f_word_of_step :=
  A.ok sc_word_of_step rfl (by decide) fun f cdv A outer s H E ah hr => by
    exact (pfss_cons (pfs_if (pft_cmp op_in_seq os_in (pf_fld (fun C h => ⟨(T.play C h).cl, T.play_kind C h⟩) (pf_v 0)) (pf_const T.c_MANNERS) rfl) (pfss_one (pfs_ret (pf_call d_word_in_manner (hr.mono (by decide)) (pfa_cons (pf_v 0) (pfa_cons (pf_v 1) (pfa_cons (pf_v 2) pfa_nil)))))) pfss_nil) (pfss_cons (pfs_if (pft_cmp (op_eqD (hu64 hr)) os_eq (pf_fld (fun C h => ⟨(T.play C h).cl, T.play_kind C h⟩) (pf_v 0)) pf_str (nomark _)) (pfss_one (pfs_ret pf_deadE)) pfss_nil) (pfss_one (pfs_ret pf_deadE))))
abbrev s_next_step : Stmt := top 57
theorem sc_next_step : FnScope ["play", "standing", "hand"] ["play", "standing", "hand"] (defScope s_next_step) := ⟨rfl, rfl, rfl, by decide +kernel, rfl, by decide +kernel, by decide +kernel⟩
noncomputable def b_next_step : FS := (sSeq (sDrop (cFn 3 f_check_turn (cC (cV 0) (cC (cV 1) (cC (cV 2) cN))))) (sRet (cFn 3 f_word_of_step (cC (cV 0) (cC (cOp ixD (cOp ixD (cV 1) (cD (.int 1))) (cV 2)) (cC (cV 2) cN))))))
noncomputable def f_next_step : List D → Gh → M D := fun ds g => noX (fnOf 3 b_next_step ds g)
theorem d_next_step {P : Program} {w : World} {K : PySem.W.Frag} {mg : Str → Option Value} {base : Heap} (T : Txt P w K mg base) (A : DefAt K mg "next_step" s_next_step ["play", "standing", "hand"]) (d_check_turn : DefOk P w K mg base CX0 "check_turn" 5 3 f_check_turn) (d_word_of_step : DefOk P w K mg base CX0 "word_of_step" 3 3 f_word_of_step) : DefOk P w K mg base CX0 "next_step" 6 3 f_next_step :=
  A.ok sc_next_step rfl (by decide) fun f cdv A outer s H E ah hr => by
    exact (pfss_cons (pfs_expr (pf_call d_check_turn (hr.mono (by decide)) (pfa_cons (pf_v 0) (pfa_cons (pf_v 1) (pfa_cons (pf_v 2) pfa_nil))))) (pfss_one (pfs_ret (pf_call d_word_of_step (hr.mono (by decide)) (pfa_cons (pf_v 0) (pfa_cons (pf_ix ix_D os_ix (pf_ix ix_D os_ix (pf_v 1) pf_int (fun _ _ => rfl)) (pf_v 2) (fun _ _ => rfl)) (pfa_cons (pf_v 2) pfa_nil)))))))
abbrev s_law_take : Stmt := top 67
theorem sc_law_take : FnScope ["_law_hand_here", "_law_many", "_law_number", "_law_cell", "_law_found"] ["_law_hand_here", "_law_many"] (defScope s_law_take) := ⟨rfl, rfl, rfl, by decide +kernel, rfl, by decide +kernel, by decide +kernel⟩
noncomputable def b_law_take : FS := (sSeq (sH 0 4 (cOp addD (cH 0 4) (cD (.int 1)))) (sSeq (sIf (cAnd (cT (cOp eqD (cH 0 2) (cD (.int 0)))) (cT (cOp ltD (cH 0 1) (cCall lenD (cC (cH 0 0) cN))))) (sSeq (sAsg (cCall intOf (cC (cOp ixD (cH 0 0) (cH 0 1)) cN)) (gN 3)) (sSeq (sH 0 1 (cOp addD (cH 0 1) (cD (.int 1)))) (sIf (cT (cOp geD (cV 3) (cOp powD (cD (.int 10)) (cD (.int 18))))) (sH 0 2 (cV 3)) (sH 0 3 (cOp modD (cCall intOf (cC (cOp addD (cOp addD (cOp mulD (cH 0 3) (cD (.int 48271))) (cOp modD (cCall intOf (cC (cV 3) cN)) (cD (.int 2147483647)))) (cD (.int 1))) cN)) (cD (.int 2147483647))))))) sNx) (sSeq (sIf (cT (cOp gtD (cH 0 2) (cD (.int 0)))) (sSeq (sAsg (cOp modD (cCall intOf (cC (cH 0 2) cN)) (cV 1)) (gN 4)) (sSeq (sH 0 2 (cOp divD (cCall intOf (cC (cH 0 2) cN)) (cV 1))) (sRet (cV 4)))) sNx) (sSeq (sH 0 3 (cOp modD (cCall intOf (cC (cOp addD (cOp mulD (cH 0 3) (cD (.int 69621))) (cOp mulD (cD (.int 7919)) (cH 0 4))) cN)) (cD (.int 2147483647)))) (sSeq (sAsg (cOp modD (cCall intOf (cC (cOp mulD (cH 0 3) (cOp addD (cOp divD (cH 0 3) (cD (.int 1009))) (cD (.int 69621)))) cN)) (cD (.int 2147483647))) (gN 2)) (sSeq (sAsg (cOp modD (cCall intOf (cC (cOp mulD (cV 2) (cOp addD (cOp divD (cV 2) (cD (.int 2003))) (cD (.int 40692)))) cN)) (cD (.int 2147483399))) (gN 2)) (sRet (cOp modD (cCall intOf (cC (cOp divD (cV 2) (cD (.int 16))) cN)) (cV 1)))))))))
noncomputable def f_law_take : List D → Gh → M D := fun ds g => noX (fnOf 5 b_law_take ds g)
theorem d_law_take {P : Program} {w : World} {K : PySem.W.Frag} {mg : Str → Option Value} {base : Heap} (T : Txt P w K mg base) (A : DefAt K mg "_law_take" s_law_take ["_law_hand_here", "_law_many"])  : DefOk P w K mg base CX0 "_law_take" 1 2 f_law_take :=
  A.ok sc_law_take rfl (by decide) fun f cdv A outer s H E ah hr => by
    exact (pfss_cons (pfs_h 0 (pf_bin op_addD os_add (pf_h 0) pf_int)) (pfss_cons (pfs_if (pft_w (pfw_and (pft_cmp (op_eqD (hu64 hr)) os_eq (pf_h 0) pf_int (nomark _)) (pfw_and1 (pft_cmp op_lt os_lt (pf_h 0) (pf_len T.b_len (pfa_cons (pf_h 0) pfa_nil)) (nomark _))))) (pfss_cons (pfs_set 3 sc_law_take.nd (pf_callTy call_int1 cs_int T.b_int (by decide +kernel) (pfa_cons (pf_ix ix_D os_ix (pf_h 0) (pf_h 0) (fun _ _ => rfl)) pfa_nil))) (pfss_cons (pfs_h 0 (pf_bin op_addD os_add (pf_h 0) pf_int)) (pfss_one (pfs_if (pft_cmp op_ge os_ge (pf_v 3) (pf_bin op_pow os_pow pf_int pf_int) (nomark _)) (pfss_one (pfs_h 0 (pf_v 3))) (pfss_one (pfs_h 0 (pf_bin op_modN os_mod (pf_callTy call_int1 cs_int T.b_int (by decide +kernel) (pfa_cons (pf_bin op_addD os_add (pf_bin op_addD os_add (pf_bin op_mulD os_mul (pf_h 0) pf_int) (pf_bin op_modN os_mod (pf_callTy call_int1 cs_int T.b_int (by decide +kernel) (pfa_cons (pf_v 3) pfa_nil)) pf_int)) pf_int) pfa_nil)) pf_int))))))) pfss_nil) (pfss_cons (pfs_if (pft_cmp op_gt os_gt (pf_h 0) pf_int (nomark _)) (pfss_cons (pfs_set 4 sc_law_take.nd (pf_bin op_modN os_mod (pf_callTy call_int1 cs_int T.b_int (by decide +kernel) (pfa_cons (pf_h 0) pfa_nil)) (pf_v 1))) (pfss_cons (pfs_h 0 (pf_bin op_fdivN os_div (pf_callTy call_int1 cs_int T.b_int (by decide +kernel) (pfa_cons (pf_h 0) pfa_nil)) (pf_v 1))) (pfss_one (pfs_ret (pf_v 4))))) pfss_nil) (pfss_cons (pfs_h 0 (pf_bin op_modN os_mod (pf_callTy call_int1 cs_int T.b_int (by decide +kernel) (pfa_cons (pf_bin op_addD os_add (pf_bin op_mulD os_mul (pf_h 0) pf_int) (pf_bin op_mulD os_mul pf_int (pf_h 0))) pfa_nil)) pf_int)) (pfss_cons (pfs_set 2 sc_law_take.nd (pf_bin op_modN os_mod (pf_callTy call_int1 cs_int T.b_int (by decide +kernel) (pfa_cons (pf_bin op_mulD os_mul (pf_h 0) (pf_bin op_addD os_add (pf_bin op_fdivN os_div (pf_h 0) pf_int) pf_int)) pfa_nil)) pf_int)) (pfss_cons (pfs_set 2 sc_law_take.nd (pf_bin op_modN os_mod (pf_callTy call_int1 cs_int T.b_int (by decide +kernel) (pfa_cons (pf_bin op_mulD os_mul (pf_v 2) (pf_bin op_addD os_add (pf_bin op_fdivN os_div (pf_v 2) pf_int) pf_int)) pfa_nil)) pf_int)) (pfss_one (pfs_ret (pf_bin op_modN os_mod (pf_callTy call_int1 cs_int T.b_int (by decide +kernel) (pfa_cons (pf_bin op_fdivN os_div (pf_v 2) pf_int) pfa_nil)) (pf_v 1))))))))))
abbrev s_law_pick : Stmt := top 68
theorem sc_law_pick : FnScope ["_law_hand_here", "_law_things"] ["_law_hand_here", "_law_things"] (defScope s_law_pick) := ⟨rfl, rfl, rfl, by decide +kernel, rfl, by decide +kernel, by decide +kernel⟩
noncomputable def b_law_pick : FS := (sRet (cOp ixD (cV 1) (cFn 2 f_law_take (cC (cV 0) (cC (cCall lenD (cC (cV 1) cN)) cN)))))
noncomputable def f_law_pick : List D → Gh → M D := fun ds g => noX (fnOf 2 b_law_pick ds g)
theorem d_law_pick {P : Program} {w : World} {K : PySem.W.Frag} {mg : Str → Option Value} {base : Heap} (T : Txt P w K mg base) (A : DefAt K mg "_law_pick" s_law_pick ["_law_hand_here", "_law_things"]) (d_law_take : DefOk P w K mg base CX0 "_law_take" 1 2 f_law_take) : DefOk P w K mg base CX0 "_law_pick" 2 2 f_law_pick :=
  A.ok sc_law_pick rfl (by decide) fun f cdv A outer s H E ah hr => by
    exact (pfss_one (pfs_ret (pf_ix ix_D os_ix (pf_v 1) (pf_call d_law_take (hr.mono (by decide)) (pfa_cons (pf_v 0) (pfa_cons (pf_len T.b_len (pfa_cons (pf_v 1) pfa_nil)) pfa_nil))) (fun _ _ => rfl))))
abbrev s_law_is_integer : Stmt := top 69
theorem sc_law_is_integer : FnScope ["_law_thing"] ["_law_thing"] (defScope s_law_is_integer) := ⟨rfl, rfl, rfl, by decide +kernel, rfl, by decide +kernel, by decide +kernel⟩
noncomputable def b_law_is_integer : FS := (sRet (cAndV (cIs "int" (cV 0)) (c1 nB (cIs "bool" (cV 0)))))
noncomputable def f_law_is_integer : List D → Gh → M D := fun ds g => noX (fnOf 1 b_law_is_integer ds g)
theorem d_law_is_integer {P : Program} {w : World} {K : PySem.W.Frag} {mg : Str → Option Value} {base : Heap} (T : Txt P w K mg base) (A : DefAt K mg "_law_is_integer" s_law_is_integer ["_law_thing"])  : DefOk P w K mg base CX0 "_law_is_integer" 1 1 f_law_is_integer :=
  A.ok sc_law_is_integer rfl (by decide) fun f cdv A outer s H E ah hr => by
    exact (pfss_one (pfs_ret (pf_and (pf_is (t := "int") (by simp) T.play T.b_isinstance T.b_int (by decide +kernel) (pf_v 0)) (pf_one (pf_not (pf_is (t := "bool") (by simp) T.play T.b_isinstance T.b_bool (by decide +kernel) (pf_v 0)))))))
abbrev s_law_same : Stmt := top 70
theorem sc_law_same : FnScope ["_law_actual", "_law_due", "_law_one", "_law_other"] ["_law_actual", "_law_due"] (defScope s_law_same) := ⟨rfl, rfl, rfl, by decide +kernel, rfl, by decide +kernel, by decide +kernel⟩
noncomputable def b_law_same (f_REC : List D → Gh → M D) : FS := (sSeq (sIf (cT (cOp isND (cV 1) (cD .non))) (sRet (cOp isND (cV 0) (cD .non))) sNx) (sSeq (sIf (cT (cOp isBlD (cV 1) (cD (.bl true)))) (sRet (cOp isBlD (cV 0) (cD (.bl true)))) sNx) (sSeq (sIf (cT (cOp isBlD (cV 1) (cD (.bl false)))) (sRet (cOp isBlD (cV 0) (cD (.bl false)))) sNx) (sSeq (sIf (cT (cIs "int" (cV 1))) (sRet (cAndV (cFn 1 f_law_is_integer (cC (cV 0) cN)) (cOp eqD (cV 0) (cV 1)))) sNx) (sSeq (sIf (cT (cIs "str" (cV 1))) (sRet (cAndV (cIs "str" (cV 0)) (cOp eqD (cV 0) (cV 1)))) sNx) (sSeq (sIf (cOr (cT (cOp neD (cIs "tuple" (cV 1)) (cIs "tuple" (cV 0)))) (cT (cOp neD (cIs "list" (cV 1)) (cIs "list" (cV 0))))) (sRet (cD (.bl false))) sNx) (sSeq (sIf (cT (cOp neD (cCall lenD (cC (cV 0) cN)) (cCall lenD (cC (cV 1) cN)))) (sRet (cD (.bl false))) sNx) (sSeq (sFor (iZ (cC (cV 0) (cC (cV 1) cN))) (gT 2 (gsC (gN 2) (gsC (gN 3) gsN))) (sIf (cNot (cT (cFn 2 f_REC (cC (cV 2) (cC (cV 3) cN))))) (sRet (cD (.bl false))) sNx)) (sRet (cD (.bl true)))))))))))
noncomputable def f_law_same_at : Nat → List D → Gh → M D
  | 0 => fun _ _ => none
  | n + 1 => fun ds g => noX (fnOf 4 (b_law_same (f_law_same_at n)) ds g)
theorem d_law_same_step {P : Program} {w : World} {K : PySem.W.Frag} {mg : Str → Option Value} {base : Heap} {m k : Nat} (hk : 1 ≤ k) (T : Txt P w K mg base) (A : DefAt K mg "_law_same" s_law_same ["_law_actual", "_law_due"]) (d_law_is_integer : DefOk P w K mg base CX0 "_law_is_integer" 1 1 f_law_is_integer) (d_REC : DefOk P w K mg base CX0 "_law_same" k 2 (f_law_same_at m)) : DefOk P w K mg base CX0 "_law_same" (k + 1) 2 (f_law_same_at (m + 1)) :=
  A.ok sc_law_same rfl (by decide) fun f cdv A outer s H E ah hr => by
    exact (pfss_cons (pfs_if (pft_cmp op_isN os_isN (pf_v 1) pf_non (nomark _)) (pfss_one (pfs_ret (pf_cmp op_isN os_isN (pf_v 0) pf_non (nomark _)))) pfss_nil) (pfss_cons (pfs_if (pft_cmp op_isBlA os_isBl (pf_v 1) pf_bl (nomark _)) (pfss_one (pfs_ret (pf_cmp op_isBlA os_isBl (pf_v 0) pf_bl (nomark _)))) pfss_nil) (pfss_cons (pfs_if (pft_cmp op_isBlA os_isBl (pf_v 1) pf_bl (nomark _)) (pfss_one (pfs_ret (pf_cmp op_isBlA os_isBl (pf_v 0) pf_bl (nomark _)))) pfss_nil) (pfss_cons (pfs_if (pft_val (pf_is (t := "int") (by simp) T.play T.b_isinstance T.b_int (by decide +kernel) (pf_v 1))) (pfss_one (pfs_ret (pf_and (pf_call d_law_is_integer (hr.mono (by omega)) (pfa_cons (pf_v 0) pfa_nil)) (pf_one (pf_cmp (op_eqD (hu64 hr)) os_eq (pf_v 0) (pf_v 1) (nomark _)))))) pfss_nil) (pfss_cons (pfs_if (pft_val (pf_is (t := "str") (by simp) T.play T.b_isinstance T.b_str (by decide +kernel) (pf_v 1))) (pfss_one (pfs_ret (pf_and (pf_is (t := "str") (by simp) T.play T.b_isinstance T.b_str (by decide +kernel) (pf_v 0)) (pf_one (pf_cmp (op_eqD (hu64 hr)) os_eq (pf_v 0) (pf_v 1) (nomark _)))))) pfss_nil) (pfss_cons (pfs_if (pft_w (pfw_or (pft_cmp (op_neD (hu64 hr)) os_ne (pf_is (t := "tuple") (by simp) T.play T.b_isinstance T.b_tuple (by decide +kernel) (pf_v 1)) (pf_is (t := "tuple") (by simp) T.play T.b_isinstance T.b_tuple (by decide +kernel) (pf_v 0)) (nomark _)) (pfw_or1 (pft_cmp (op_neD (hu64 hr)) os_ne (pf_is (t := "list") (by simp) T.play T.b_isinstance T.b_list (by decide +kernel) (pf_v 1)) (pf_is (t := "list") (by simp) T.play T.b_isinstance T.b_list (by decide +kernel) (pf_v 0)) (nomark _))))) (pfss_one (pfs_ret pf_bl)) pfss_nil) (pfss_cons (pfs_if (pft_cmp (op_neD (hu64 hr)) os_ne (pf_len T.b_len (pfa_cons (pf_v 0) pfa_nil)) (pf_len T.b_len (pfa_cons (pf_v 1) pfa_nil)) (nomark _)) (pfss_one (pfs_ret pf_bl)) pfss_nil) (pfss_cons (pfs_for PassesOwn.never rfl (pfi_zip T.b_zip (pfa_cons (pf_v 0) (pfa_cons (pf_v 1) pfa_nil))) (pfg_tup rfl (pfgs_cons (pfg_n 2 sc_law_same.nd) (pfgs_cons (pfg_n 3 sc_law_same.nd) pfgs_nil))) (pfss_one (pfs_if (pft_not (pft_val (pf_call d_REC (hr.mono (by omega)) (pfa_cons (pf_v 2) (pfa_cons (pf_v 3) pfa_nil))))) (pfss_one (pfs_ret pf_bl)) pfss_nil))) (pfss_one (pfs_ret pf_bl))))))))))
noncomputable def f_law_same : List D → Gh → M D := f_law_same_at 45
theorem d_law_same_all {P : Program} {w : World} {K : PySem.W.Frag} {mg : Str → Option Value} {base : Heap} (T : Txt P w K mg base) (A : DefAt K mg "_law_same" s_law_same ["_law_actual", "_law_due"]) (d_law_is_integer : DefOk P w K mg base CX0 "_law_is_integer" 1 1 f_law_is_integer) : ∀ m, DefOk P w K mg base CX0 "_law_same" (1 + m) 2 (f_law_same_at m)
  | 0 => by
    obtain ⟨f, fd, F, hm, hb⟩ := A
    exact ⟨f, fd, _, ⟨fun vs H Q E ⟨ah, S, g, ds, hl, R, hv, G⟩ => G.elim, fun A outer s H args us vs Q E hr h1 h2 h3 ⟨ah, S, g, ds, hl, R, hv, G⟩ => G.elim⟩, hm, F.kp, hb⟩
  | m + 1 => d_law_same_step (k := 1 + m) (by omega) T A d_law_is_integer (d_law_same_all T A d_law_is_integer m)
theorem d_law_same {P : Program} {w : World} {K : PySem.W.Frag} {mg : Str → Option Value} {base : Heap} (T : Txt P w K mg base) (A : DefAt K mg "_law_same" s_law_same ["_law_actual", "_law_due"]) (d_law_is_integer : DefOk P w K mg base CX0 "_law_is_integer" 1 1 f_law_is_integer) : DefOk P w K mg base CX0 "_law_same" 46 2 f_law_same := d_law_same_all T A d_law_is_integer 45
abbrev s_law_script : Stmt := top 71
theorem sc_law_script : FnScope ["_law_hand_here", "_law_most", "_law_found", "_law_k"] ["_law_hand_here", "_law_most"] (defScope s_law_script) := ⟨rfl, rfl, rfl, by decide +kernel, rfl, by decide +kernel, by decide +kernel⟩
noncomputable def b_law_script : FS := (sSeq (sOwn 2) (sSeq (sFor (iR1 (cC (cFn 2 f_law_take (cC (cV 0) (cC (cOp addD (cV 1) (cD (.int 1))) cN))) cN)) (gN 3) (sIf (cT (cOp eqD (cFn 2 f_law_take (cC (cV 0) (cC (cD (.int 2)) cN))) (cD (.int 0)))) (sApp 2 (cTup (cC (cD (.str "see")) cN))) (sApp 2 (cTup (cC (cD (.str "put")) (cC (cFn 2 f_law_pick (cC (cV 0) (cC (cLst (cC (cD (.int 0)) (cC (cD (.int 1)) (cC (cD (.int 2)) (cC (cD (.int 7)) (cC (cD (.int 999)) (cC (cFn 2 f_law_take (cC (cV 0) (cC (cD (.int 1000)) cN))) cN))))))) cN))) cN)))))) (sFrz 2 (sRet (cCall tupleD (cC (cV 2) cN))))))
noncomputable def f_law_script : List D → Gh → M D := fun ds g => noX (fnOf 4 b_law_script ds g)
theorem d_law_script {P : Program} {w : World} {K : PySem.W.Frag} {mg : Str → Option Value} {base : Heap} (T : Txt P w K mg base) (A : DefAt K mg "_law_script" s_law_script ["_law_hand_here", "_law_most"]) (d_law_take : DefOk P w K mg base CX0 "_law_take" 1 2 f_law_take) (d_law_pick : DefOk P w K mg base CX0 "_law_pick" 2 2 f_law_pick) : DefOk P w K mg base CX0 "_law_script" 3 2 f_law_script :=
  A.ok sc_law_script rfl (by decide) fun f cdv A outer s H E ah hr => by
    exact (pfss_cons (pfs_own0 2 sc_law_script.nd) (pfss_cons (pfs_for PassesOwn.never rfl (pfi_rng1 T.b_range (pfa_cons (pf_call d_law_take (hr.mono (by decide)) (pfa_cons (pf_v 0) (pfa_cons (pf_bin op_addD os_add (pf_v 1) pf_int) pfa_nil))) pfa_nil)) (pfg_n 3 sc_law_script.nd) (pfss_one (pfs_if (pft_cmp (op_eqD (hu64 hr)) os_eq (pf_call d_law_take (hr.mono (by decide)) (pfa_cons (pf_v 0) (pfa_cons pf_int pfa_nil))) pf_int (nomark _)) (pfss_one (pfs_app 2 (pf_tup (pfa_cons pf_str pfa_nil)))) (pfss_one (pfs_app 2 (pf_tup (pfa_cons pf_str (pfa_cons (pf_call d_law_pick (hr.mono (by decide)) (pfa_cons (pf_v 0) (pfa_cons (pf_lst (pfa_cons pf_int (pfa_cons pf_int (pfa_cons pf_int (pfa_cons pf_int (pfa_cons pf_int (pfa_cons (pf_call d_law_take (hr.mono (by decide)) (pfa_cons (pf_v 0) (pfa_cons pf_int pfa_nil))) pfa_nil))))))) pfa_nil))) pfa_nil)))))))) (pfss_frz 2 (pfss_one (pfs_ret (pf_callTy call_tuple_of cs_tuple T.b_tuple (by decide +kernel) (pfa_cons (pf_v 2) pfa_nil)))))))
abbrev s_law_manner : Stmt := top 72
theorem sc_law_manner : FnScope ["_law_hand_here", "_law_many", "_law_most", "_law_k"] ["_law_hand_here"] (defScope s_law_manner) := ⟨rfl, rfl, rfl, by decide +kernel, rfl, by decide +kernel, by decide +kernel⟩
noncomputable def b_law_manner : FS := (sSeq (sAsg (cFn 2 f_law_pick (cC (cV 0) (cC (cLst (cC (cD (.int 1)) (cC (cD (.int 2)) (cC (cD (.int 2)) (cC (cD (.int 3)) (cC (cD (.int 3)) (cC (cD (.int 4)) (cC (cD (.int 5)) cN)))))))) cN))) (gN 1)) (sSeq (sAsg (cFn 2 f_law_pick (cC (cV 0) (cC (cLst (cC (cD (.int 1)) (cC (cD (.int 2)) (cC (cD (.int 3)) (cC (cD (.int 6)) cN))))) cN))) (gN 2)) (sRet (cTup (cC (cFn 2 f_law_pick (cC (cV 0) (cC (cLst (cC (cD (.str "sweep")) (cC (cD (.str "twice")) (cC (cD (.str "borrow")) (cC (cD (.str "borrow")) cN))))) cN))) (cC (cCall tupleD (cC (cLc (iR1 (cC (cV 1) cN)) [3] (gN 3) tY (cFn 2 f_law_script (cC (cV 0) (cC (cV 2) cN)))) cN)) cN))))))
noncomputable def f_law_manner : List D → Gh → M D := fun ds g => noX (fnOf 4 b_law_manner ds g)
theorem d_law_manner {P : Program} {w : World} {K : PySem.W.Frag} {mg : Str → Option Value} {base : Heap} (T : Txt P w K mg base) (A : DefAt K mg "_law_manner" s_law_manner ["_law_hand_here"]) (d_law_pick : DefOk P w K mg base CX0 "_law_pick" 2 2 f_law_pick) (d_law_script : DefOk P w K mg base CX0 "_law_script" 3 2 f_law_script) : DefOk P w K mg base CX0 "_law_manner" 4 1 f_law_manner :=
  A.ok sc_law_manner rfl (by decide) fun f cdv A outer s H E ah hr => by
    exact (pfss_cons (pfs_set 1 sc_law_manner.nd (pf_call d_law_pick (hr.mono (by decide)) (pfa_cons (pf_v 0) (pfa_cons (pf_lst (pfa_cons pf_int (pfa_cons pf_int (pfa_cons pf_int (pfa_cons pf_int (pfa_cons pf_int (pfa_cons pf_int (pfa_cons pf_int pfa_nil)))))))) pfa_nil)))) (pfss_cons (pfs_set 2 sc_law_manner.nd (pf_call d_law_pick (hr.mono (by decide)) (pfa_cons (pf_v 0) (pfa_cons (pf_lst (pfa_cons pf_int (pfa_cons pf_int (pfa_cons pf_int (pfa_cons pf_int pfa_nil))))) pfa_nil)))) (pfss_one (pfs_ret (pf_tup (pfa_cons (pf_call d_law_pick (hr.mono (by decide)) (pfa_cons (pf_v 0) (pfa_cons (pf_lst (pfa_cons pf_str (pfa_cons pf_str (pfa_cons pf_str (pfa_cons pf_str pfa_nil))))) pfa_nil))) (pfa_cons (pf_callTy call_tuple_of cs_tuple T.b_tuple (by decide +kernel) (pfa_cons (pf_lc [("_law_k", 3)] sc_law_manner.nd (pfi_rng1 T.b_range (pfa_cons (pf_v 1) pfa_nil)) (fun _ => (pfg_n 3 sc_law_manner.nd)) (fun _ => pfts_nil) (fun _ => (pf_call d_law_script (hr.mono (by decide)) (pfa_cons (pf_v 0) (pfa_cons (pf_v 2) pfa_nil)))) (blkOk_by (N := ["_law_hand_here", "_law_many", "_law_most", "_law_k"]) (sc := defScope s_law_manner) (by decide +kernel))) pfa_nil)) pfa_nil)))))))
abbrev s_law_first : Stmt := top 73
theorem sc_law_first : FnScope ["_law_scripts", "_law_states", "_law_script_here"] ["_law_scripts"] (defScope s_law_first) := ⟨rfl, rfl, rfl, by decide +kernel, rfl, by decide +kernel, by decide +kernel⟩
noncomputable def b_law_first : FS := (sSeq (sAsg (cCall tupleD (cC (cLc (iS (cV 0)) [2] (gN 2) tY (cOp ixD (cLst (cC (cD .non) (cC (cTup (cC (cD (.int 0)) (cC (cD .non) (cC (cD .non) (cC (cTup cN) (cC (cD .non) cN)))))) cN))) (cCall intOf (cC (cOp gtD (cCall lenD (cC (cV 2) cN)) (cD (.int 0))) cN)))) cN)) (gN 1)) (sRet (cTup (cC (cOp mulD2 (cTup (cC (cTup (cC (cD (.int 0)) (cC (cD (.int 0)) (cC (cD .non) cN)))) cN)) (cCall lenD (cC (cV 0) cN))) (cC (cV 1) (cC (cOp mulD2 (cTup (cC (cTup cN) cN)) (cCall lenD (cC (cV 0) cN))) cN))))))
noncomputable def f_law_first : List D → Gh → M D := fun ds g => noX (fnOf 3 b_law_first ds g)
theorem d_law_first {P : Program} {w : World} {K : PySem.W.Frag} {mg : Str → Option Value} {base : Heap} (T : Txt P w K mg base) (A : DefAt K mg "_law_first" s_law_first ["_law_scripts"])  : DefOk P w K mg base CX0 "_law_first" 1 1 f_law_first :=
  A.ok sc_law_first rfl (by decide) fun f cdv A outer s H E ah hr => by
    exact (pfss_cons (pfs_set 1 sc_law_first.nd (pf_callTy call_tuple_of cs_tuple T.b_tuple (by decide +kernel) (pfa_cons (pf_lc [("_law_script_here", 2)] sc_law_first.nd (pfi_seq (pf_v 0)) (fun _ => (pfg_n 2 sc_law_first.nd)) (fun _ => pfts_nil) (fun _ => (pf_ix ix_D os_ix (pf_lst (pfa_cons pf_non (pfa_cons (pf_tup (pfa_cons pf_int (pfa_cons pf_non (pfa_cons pf_non (pfa_cons (pf_tup pfa_nil) (pfa_cons pf_non pfa_nil)))))) pfa_nil))) (pf_callTy call_int1 cs_int T.b_int (by decide +kernel) (pfa_cons (pf_cmp op_gt os_gt (pf_len T.b_len (pfa_cons (pf_v 2) pfa_nil)) pf_int (nomark _)) pfa_nil)) (fun _ _ => rfl))) (blkOk_by (N := ["_law_scripts", "_law_states", "_law_script_here"]) (sc := defScope s_law_first) (by decide +kernel))) pfa_nil))) (pfss_one (pfs_ret (pf_tup (pfa_cons (pf_bin op_mulD2 os_mul2 (pf_tup (pfa_cons (pf_tup (pfa_cons pf_int (pfa_cons pf_int (pfa_cons pf_non pfa_nil)))) pfa_nil)) (pf_len T.b_len (pfa_cons (pf_v 0) pfa_nil))) (pfa_cons (pf_v 1) (pfa_cons (pf_bin op_mulD2 os_mul2 (pf_tup (pfa_cons (pf_tup pfa_nil) pfa_nil)) (pf_len T.b_len (pfa_cons (pf_v 0) pfa_nil))) pfa_nil)))))))
abbrev s_law_is_put : Stmt := top 75
theorem sc_law_is_put : FnScope ["_law_kind", "_law_scripts", "_law_standing", "_law_one", "_law_done", "_law_first_here", "_law_last", "_law_now", "_law_ready"] ["_law_kind", "_law_scripts", "_law_standing", "_law_one"] (defScope s_law_is_put) := ⟨rfl, rfl, rfl, by decide +kernel, rfl, by decide +kernel, by decide +kernel⟩
noncomputable def b_law_is_put : FS := (sSeq (sAsg (cOp ixD (cOp ixD (cV 2) (cD (.int 1))) (cV 3)) (gT 5 (gsC (gN 4) (gsC (gN 5) (gsC (gN 6) (gsC (gN 7) (gsC (gN 8) gsN))))))) (sRet (cAndV (cOp eqD (cOp ixD (cOp ixD (cOp ixD (cV 1) (cV 3)) (cV 4)) (cD (.int 0))) (cD (.str "put"))) (cOrV (cOp neD (cV 0) (cD (.str "borrow"))) (cOp notND (cV 8) (cD .non))))))
noncomputable def f_law_is_put : List D → Gh → M D := fun ds g => noX (fnOf 9 b_law_is_put ds g)
theorem d_law_is_put {P : Program} {w : World} {K : PySem.W.Frag} {mg : Str → Option Value} {base : Heap} (T : Txt P w K mg base) (A : DefAt K mg "_law_is_put" s_law_is_put ["_law_kind", "_law_scripts", "_law_standing", "_law_one"])  : DefOk P w K mg base CX0 "_law_is_put" 1 4 f_law_is_put :=
  A.ok sc_law_is_put rfl (by decide) fun f cdv A outer s H E ah hr => by
    exact (pfss_cons (pfs_asg (pf_ix ix_D os_ix (pf_ix ix_D os_ix (pf_v 2) pf_int (fun _ _ => rfl)) (pf_v 3) (fun _ _ => rfl)) (pfg_tup rfl (pfgs_cons (pfg_n 4 sc_law_is_put.nd) (pfgs_cons (pfg_n 5 sc_law_is_put.nd) (pfgs_cons (pfg_n 6 sc_law_is_put.nd) (pfgs_cons (pfg_n 7 sc_law_is_put.nd) (pfgs_cons (pfg_n 8 sc_law_is_put.nd) pfgs_nil))))))) (pfss_one (pfs_ret (pf_and (pf_cmp (op_eqD (hu64 hr)) os_eq (pf_ix ix_D os_ix (pf_ix ix_D os_ix (pf_ix ix_D os_ix (pf_v 1) (pf_v 3) (fun _ _ => rfl)) (pf_v 4) (fun _ _ => rfl)) pf_int (fun _ _ => rfl)) pf_str (nomark _)) (pf_one (pf_or (pf_cmp (op_neD (hu64 hr)) os_ne (pf_v 0) pf_str (nomark _)) (pf_one (pf_cmp op_notN os_notN (pf_v 8) pf_non (nomark _)))))))))
abbrev s_law_next : Stmt := top 76
theorem sc_law_next : FnScope ["_law_kind", "_law_scripts", "_law_standing", "_law_one"] ["_law_kind", "_law_scripts", "_law_standing", "_law_one"] (defScope s_law_next) := ⟨rfl, rfl, rfl, by decide +kernel, rfl, by decide +kernel, by decide +kernel⟩
noncomputable def b_law_next : FS := (sSeq (sIf (cT (cFn 4 f_law_is_put (cC (cV 0) (cC (cV 1) (cC (cV 2) (cC (cV 3) cN)))))) (sRet (cTup (cC (cD (.str "put")) cN))) sNx) (sRet (cTup (cC (cD (.str "look")) (cC (cCall lenD (cC (cOp ixD (cOp ixD (cOp ixD (cV 2) (cD (.int 1))) (cV 3)) (cD (.int 3))) cN)) cN)))))
noncomputable def f_law_next : List D → Gh → M D := fun ds g => noX (fnOf 4 b_law_next ds g)
theorem d_law_next {P : Program} {w : World} {K : PySem.W.Frag} {mg : Str → Option Value} {base : Heap} (T : Txt P w K mg base) (A : DefAt K mg "_law_next" s_law_next ["_law_kind", "_law_scripts", "_law_standing", "_law_one"]) (d_law_is_put : DefOk P w K mg base CX0 "_law_is_put" 1 4 f_law_is_put) : DefOk P w K mg base CX0 "_law_next" 2 4 f_law_next :=
  A.ok sc_law_next rfl (by decide) fun f cdv A outer s H E ah hr => by
    exact (pfss_cons (pfs_if (pft_val (pf_call d_law_is_put (hr.mono (by decide)) (pfa_cons (pf_v 0) (pfa_cons (pf_v 1) (pfa_cons (pf_v 2) (pfa_cons (pf_v 3) pfa_nil)))))) (pfss_one (pfs_ret (pf_tup (pfa_cons pf_str pfa_nil)))) pfss_nil) (pfss_one (pfs_ret (pf_tup (pfa_cons pf_str (pfa_cons (pf_len T.b_len (pfa_cons (pf_ix ix_D os_ix (pf_ix ix_D os_ix (pf_ix ix_D os_ix (pf_v 2) pf_int (fun _ _ => rfl)) (pf_v 3) (fun _ _ => rfl)) pf_int (fun _ _ => rfl)) pfa_nil)) pfa_nil))))))
abbrev s_law_put_at : Stmt := top 74
theorem sc_law_put_at : FnScope ["_law_row", "_law_at", "_law_thing"] ["_law_row", "_law_at", "_law_thing"] (defScope s_law_put_at) := ⟨rfl, rfl, rfl, by decide +kernel, rfl, by decide +kernel, by decide +kernel⟩
noncomputable def b_law_put_at : FS := (sRet (cOp addD (cOp addD (cSl (cV 0) oN (oS (cV 1))) (cTup (cC (cV 2) cN))) (cSl (cV 0) (oS (cOp addD (cV 1) (cD (.int 1)))) oN)))
noncomputable def f_law_put_at : List D → Gh → M D := fun ds g => noX (fnOf 3 b_law_put_at ds g)
theorem d_law_put_at {P : Program} {w : World} {K : PySem.W.Frag} {mg : Str → Option Value} {base : Heap} (T : Txt P w K mg base) (A : DefAt K mg "_law_put_at" s_law_put_at ["_law_row", "_law_at", "_law_thing"])  : DefOk P w K mg base CX0 "_law_put_at" 1 3 f_law_put_at :=
  A.ok sc_law_put_at rfl (by decide) fun f cdv A outer s H E ah hr => by
    exact (pfss_one (pfs_ret (pf_bin op_addD os_add (pf_bin op_addD os_add (pf_sl (pf_v 0) pfo_none (pfo_some (pf_v 1))) (pf_tup (pfa_cons (pf_v 2) pfa_nil))) (pf_sl (pf_v 0) (pfo_some (pf_bin op_addD os_add (pf_v 1) pf_int)) pfo_none))))
abbrev s_law_behind : Stmt := top 77
theorem sc_law_behind : FnScope ["_law_scripts", "_law_one", "_law_done"] ["_law_scripts", "_law_one", "_law_done"] (defScope s_law_behind) := ⟨rfl, rfl, rfl, by decide +kernel, rfl, by decide +kernel, by decide +kernel⟩
noncomputable def b_law_behind : FS := (sSeq (sIf (cT (cOp eqD (cOp addD (cV 2) (cD (.int 1))) (cCall lenD (cC (cOp ixD (cV 0) (cV 1)) cN)))) (sRet (cD .non)) sNx) (sRet (cTup (cC (cOp addD (cV 2) (cD (.int 1))) (cC (cD .non) (cC (cD .non) (cC (cTup cN) (cC (cD .non) cN))))))))
noncomputable def f_law_behind : List D → Gh → M D := fun ds g => noX (fnOf 3 b_law_behind ds g)
theorem d_law_behind {P : Program} {w : World} {K : PySem.W.Frag} {mg : Str → Option Value} {base : Heap} (T : Txt P w K mg base) (A : DefAt K mg "_law_behind" s_law_behind ["_law_scripts", "_law_one", "_law_done"])  : DefOk P w K mg base CX0 "_law_behind" 1 3 f_law_behind :=
  A.ok sc_law_behind rfl (by decide) fun f cdv A outer s H E ah hr => by
    exact (pfss_cons (pfs_if (pft_cmp (op_eqD (hu64 hr)) os_eq (pf_bin op_addD os_add (pf_v 2) pf_int) (pf_len T.b_len (pfa_cons (pf_ix ix_D os_ix (pf_v 0) (pf_v 1) (fun _ _ => rfl)) pfa_nil)) (nomark _)) (pfss_one (pfs_ret pf_non)) pfss_nil) (pfss_one (pfs_ret (pf_tup (pfa_cons (pf_bin op_addD os_add (pf_v 2) pf_int) (pfa_cons pf_non (pfa_cons pf_non (pfa_cons (pf_tup pfa_nil) (pfa_cons pf_non pfa_nil)))))))))
abbrev s_law_seen : Stmt := top 78
theorem sc_law_seen : FnScope ["_law_kind", "_law_first_here", "_law_last", "_law_now", "_law_numbers", "_law_lenders", "_law_cell", "_law_k"] ["_law_kind", "_law_first_here", "_law_last", "_law_now"] (defScope s_law_seen) := ⟨rfl, rfl, rfl, by decide +kernel, rfl, by decide +kernel, by decide +kernel⟩
noncomputable def b_law_seen : FS := (sSeq (sAsg (cCall tupleD (cC (cLc (iS (cV 3)) [6] (gN 6) tY (cOp ixD (cV 6) (cD (.int 0)))) cN)) (gN 4)) (sSeq (sIf (cOr (cT (cOp eqD (cV 0) (cD (.str "sweep")))) (cAnd (cT (cOp notND (cV 2) (cD .non))) (cT (cOp eqD (cV 2) (cV 4))))) (sRet (cCall tupleD (cC (cLc (iS (cV 3)) [6] (gN 6) tY (cSl (cV 6) oN (oS (cD (.int 2))))) cN))) sNx) (sSeq (sIf (cAnd (cT (cOp eqD (cV 0) (cD (.str "borrow")))) (cT (cOp notND (cV 1) (cD .non)))) (sSeq (sAsg (cLc (iR1 (cC (cCall lenD (cC (cV 3) cN)) cN)) [7] (gN 7) (cT (cOp gtD (cOp ixD (cV 4) (cV 7)) (cOp addD (cOp ixD (cV 1) (cV 7)) (cD (.int 1))))) (cV 7)) (gN 5)) (sIf (cT (cOp gtD (cCall lenD (cC (cV 5) cN)) (cD (.int 0)))) (sRet (cOp ixD (cOp ixD (cV 3) (cOp ixD (cV 5) (cD (.int 0)))) (cD (.int 2)))) sNx)) sNx) (sRet (cD .non)))))
noncomputable def f_law_seen : List D → Gh → M D := fun ds g => noX (fnOf 8 b_law_seen ds g)
theorem d_law_seen {P : Program} {w : World} {K : PySem.W.Frag} {mg : Str → Option Value} {base : Heap} (T : Txt P w K mg base) (A : DefAt K mg "_law_seen" s_law_seen ["_law_kind", "_law_first_here", "_law_last", "_law_now"])  : DefOk P w K mg base CX0 "_law_seen" 1 4 f_law_seen :=
  A.ok sc_law_seen rfl (by decide) fun f cdv A outer s H E ah hr => by
    exact (pfss_cons (pfs_set 4 sc_law_seen.nd (pf_callTy call_tuple_of cs_tuple T.b_tuple (by decide +kernel) (pfa_cons (pf_lc [("_law_cell", 6)] sc_law_seen.nd (pfi_seq (pf_v 3)) (fun _ => (pfg_n 6 sc_law_seen.nd)) (fun _ => pfts_nil) (fun _ => (pf_ix ix_D os_ix (pf_v 6) pf_int (fun _ _ => rfl))) (blkOk_by (N := ["_law_kind", "_law_first_here", "_law_last", "_law_now", "_law_numbers", "_law_lenders", "_law_cell", "_law_k"]) (sc := defScope s_law_seen) (by decide +kernel))) pfa_nil))) (pfss_cons (pfs_if (pft_w (pfw_or (pft_cmp (op_eqD (hu64 hr)) os_eq (pf_v 0) pf_str (nomark _)) (pfw_or1 (pft_w (pfw_and (pft_cmp op_notN os_notN (pf_v 2) pf_non (nomark _)) (pfw_and1 (pft_cmp (op_eqD (hu64 hr)) os_eq (pf_v 2) (pf_v 4) (nomark _)))))))) (pfss_one (pfs_ret (pf_callTy call_tuple_of cs_tuple T.b_tuple (by decide +kernel) (pfa_cons (pf_lc [("_law_cell", 6)] sc_law_seen.nd (pfi_seq (pf_v 3)) (fun _ => (pfg_n 6 sc_law_seen.nd)) (fun _ => pfts_nil) (fun _ => (pf_sl (pf_v 6) pfo_none (pfo_some pf_int))) (blkOk_by (N := ["_law_kind", "_law_first_here", "_law_last", "_law_now", "_law_numbers", "_law_lenders", "_law_cell", "_law_k"]) (sc := defScope s_law_seen) (by decide +kernel))) pfa_nil)))) pfss_nil) (pfss_cons (pfs_if (pft_w (pfw_and (pft_cmp (op_eqD (hu64 hr)) os_eq (pf_v 0) pf_str (nomark _)) (pfw_and1 (pft_cmp op_notN os_notN (pf_v 1) pf_non (nomark _))))) (pfss_cons (pfs_lc 5 [("_law_k", 7)] sc_law_seen.nd (pfi_rng1 T.b_range (pfa_cons (pf_len T.b_len (pfa_cons (pf_v 3) pfa_nil)) pfa_nil)) (fun _ => (pfg_n 7 sc_law_seen.nd)) (fun _ => (pfts_one (pft_cmp op_gt os_gt (pf_ix ix_D os_ix (pf_v 4) (pf_v 7) (fun _ _ => rfl)) (pf_bin op_addD os_add (pf_ix ix_D os_ix (pf_v 1) (pf_v 7) (fun _ _ => rfl)) pf_int) (nomark _)))) (fun _ => (pf_v 7)) (blkOk_by (N := ["_law_kind", "_law_first_here", "_law_last", "_law_now", "_law_numbers", "_law_lenders", "_law_cell", "_law_k"]) (sc := defScope s_law_seen) (by decide +kernel)) (sw_true rfl rfl rfl (by decide +kernel))) (pfss_one (pfs_if (pft_cmp op_gt os_gt (pf_len T.b_len (pfa_cons (pf_v 5) pfa_nil)) pf_int (nomark _)) (pfss_one (pfs_ret (pf_ix ix_D os_ix (pf_ix ix_D os_ix (pf_v 3) (pf_ix ix_D os_ix (pf_v 5) pf_int (fun _ _ => rfl)) (fun _ _ => rfl)) pf_int (fun _ _ => rfl)))) pfss_nil))) pfss_nil) (pfss_one (pfs_ret pf_non)))))
abbrev s_law_stepped : Stmt := top 79
theorem sc_law_stepped : FnScope ["_law_kind", "_law_scripts", "_law_standing", "_law_one", "_law_deed", "_law_now", "_law_picture", "_law_told", "_law_cells", "_law_states", "_law_done", "_law_first_here", "_law_last", "_law_ready", "_law_numbers", "_law_cell"] ["_law_kind", "_law_scripts", "_law_standing", "_law_one"] (defScope s_law_stepped) := ⟨rfl, rfl, rfl, by decide +kernel, rfl, by decide +kernel, by decide +kernel⟩
noncomputable def b_law_stepped : FS := (sSeq (sAsg (cV 2) (gT 3 (gsC (gN 8) (gsC (gN 9) (gsC (gN 7) gsN))))) (sSeq (sAsg (cOp ixD (cV 9) (cV 3)) (gT 5 (gsC (gN 10) (gsC (gN 11) (gsC (gN 12) (gsC (gN 5) (gsC (gN 13) gsN))))))) (sSeq (sAsg (cOp ixD (cOp ixD (cV 1) (cV 3)) (cV 10)) (gN 4)) (sSeq (sIf (cT (cFn 4 f_law_is_put (cC (cV 0) (cC (cV 1) (cC (cV 2) (cC (cV 3) cN)))))) (sSeq (sAsg (cFn 3 f_law_put_at (cC (cV 8) (cC (cV 3) (cC (cTup (cC (cOp addD (cOp ixD (cOp ixD (cV 8) (cV 3)) (cD (.int 0))) (cD (.int 1))) (cC (cOp ixD (cV 4) (cD (.int 1))) (cC (cV 13) cN)))) cN)))) (gN 8)) (sRet (cTup (cC (cV 8) (cC (cFn 3 f_law_put_at (cC (cV 9) (cC (cV 3) (cC (cFn 3 f_law_behind (cC (cV 1) (cC (cV 3) (cC (cV 10) cN)))) cN)))) (cC (cV 7) cN)))))) sNx) (sSeq (sAsg (cOp addD (cV 5) (cTup (cC (cOp ixD (cV 8) (cCall lenD (cC (cV 5) cN))) cN))) (gN 5)) (sSeq (sIf (cT (cOp ltD (cCall lenD (cC (cV 5) cN)) (cCall lenD (cC (cV 8) cN)))) (sRet (cTup (cC (cV 8) (cC (cFn 3 f_law_put_at (cC (cV 9) (cC (cV 3) (cC (cTup (cC (cV 10) (cC (cV 11) (cC (cV 12) (cC (cV 5) (cC (cV 13) cN)))))) cN)))) (cC (cV 7) cN))))) sNx) (sSeq (sAsg (cFn 4 f_law_seen (cC (cV 0) (cC (cV 11) (cC (cV 12) (cC (cV 5) cN))))) (gN 6)) (sSeq (sIf (cT (cOp isND (cV 6) (cD .non))) (sSeq (sAsg (cCall tupleD (cC (cLc (iS (cV 5)) [15] (gN 15) tY (cOp ixD (cV 15) (cD (.int 0)))) cN)) (gN 14)) (sSeq (sIf (cT (cOp isND (cV 11) (cD .non))) (sAsg (cV 14) (gN 11)) sNx) (sRet (cTup (cC (cV 8) (cC (cFn 3 f_law_put_at (cC (cV 9) (cC (cV 3) (cC (cTup (cC (cV 10) (cC (cV 11) (cC (cV 14) (cC (cTup cN) (cC (cD .non) cN)))))) cN)))) (cC (cV 7) cN))))))) sNx) (sSeq (sIf (cT (cOp eqD (cOp ixD (cV 4) (cD (.int 0))) (cD (.str "put")))) (sRet (cTup (cC (cV 8) (cC (cFn 3 f_law_put_at (cC (cV 9) (cC (cV 3) (cC (cTup (cC (cV 10) (cC (cD .non) (cC (cD .non) (cC (cTup cN) (cC (cV 6) cN)))))) cN)))) (cC (cV 7) cN))))) sNx) (sSeq (sAsg (cFn 3 f_law_put_at (cC (cV 7) (cC (cV 3) (cC (cOp addD (cOp ixD (cV 7) (cV 3)) (cTup (cC (cV 6) cN))) cN)))) (gN 7)) (sRet (cTup (cC (cV 8) (cC (cFn 3 f_law_put_at (cC (cV 9) (cC (cV 3) (cC (cFn 3 f_law_behind (cC (cV 1) (cC (cV 3) (cC (cV 10) cN)))) cN)))) (cC (cV 7) cN)))))))))))))))
noncomputable def f_law_stepped : List D → Gh → M D := fun ds g => noX (fnOf 16 b_law_stepped ds g)
theorem d_law_stepped {P : Program} {w : World} {K : PySem.W.Frag} {mg : Str → Option Value} {base : Heap} (T : Txt P w K mg base) (A : DefAt K mg "_law_stepped" s_law_stepped ["_law_kind", "_law_scripts", "_law_standing", "_law_one"]) (d_law_is_put : DefOk P w K mg base CX0 "_law_is_put" 1 4 f_law_is_put) (d_law_put_at : DefOk P w K mg base CX0 "_law_put_at" 1 3 f_law_put_at) (d_law_behind : DefOk P w K mg base CX0 "_law_behind" 1 3 f_law_behind) (d_law_seen : DefOk P w K mg base CX0 "_law_seen" 1 4 f_law_seen) : DefOk P w K mg base CX0 "_law_stepped" 2 4 f_law_stepped :=
  A.ok sc_law_stepped rfl (by decide) fun f cdv A outer s H E ah hr => by
    exact (pfss_cons (pfs_asg (pf_v 2) (pfg_tup rfl (pfgs_cons (pfg_n 8 sc_law_stepped.nd) (pfgs_cons (pfg_n 9 sc_law_stepped.nd) (pfgs_cons (pfg_n 7 sc_law_stepped.nd) pfgs_nil))))) (pfss_cons (pfs_asg (pf_ix ix_D os_ix (pf_v 9) (pf_v 3) (fun _ _ => rfl)) (pfg_tup rfl (pfgs_cons (pfg_n 10 sc_law_stepped.nd) (pfgs_cons (pfg_n 11 sc_law_stepped.nd) (pfgs_cons (pfg_n 12 sc_law_stepped.nd) (pfgs_cons (pfg_n 5 sc_law_stepped.nd) (pfgs_cons (pfg_n 13 sc_law_stepped.nd) pfgs_nil))))))) (pfss_cons (pfs_set 4 sc_law_stepped.nd (pf_ix ix_D os_ix (pf_ix ix_D os_ix (pf_v 1) (pf_v 3) (fun _ _ => rfl)) (pf_v 10) (fun _ _ => rfl))) (pfss_cons (pfs_if (pft_val (pf_call d_law_is_put (hr.mono (by decide)) (pfa_cons (pf_v 0) (pfa_cons (pf_v 1) (pfa_cons (pf_v 2) (pfa_cons (pf_v 3) pfa_nil)))))) (pfss_cons (pfs_set 8 sc_law_stepped.nd (pf_call d_law_put_at (hr.mono (by decide)) (pfa_cons (pf_v 8) (pfa_cons (pf_v 3) (pfa_cons (pf_tup (pfa_cons (pf_bin op_addD os_add (pf_ix ix_D os_ix (pf_ix ix_D os_ix (pf_v 8) (pf_v 3) (fun _ _ => rfl)) pf_int (fun _ _ => rfl)) pf_int) (pfa_cons (pf_ix ix_D os_ix (pf_v 4) pf_int (fun _ _ => rfl)) (pfa_cons (pf_v 13) pfa_nil)))) pfa_nil))))) (pfss_one (pfs_ret (pf_tup (pfa_cons (pf_v 8) (pfa_cons (pf_call d_law_put_at (hr.mono (by decide)) (pfa_cons (pf_v 9) (pfa_cons (pf_v 3) (pfa_cons (pf_call d_law_behind (hr.mono (by decide)) (pfa_cons (pf_v 1) (pfa_cons (pf_v 3) (pfa_cons (pf_v 10) pfa_nil)))) pfa_nil)))) (pfa_cons (pf_v 7) pfa_nil))))))) pfss_nil) (pfss_cons (pfs_set 5 sc_law_stepped.nd (pf_bin op_addD os_add (pf_v 5) (pf_tup (pfa_cons (pf_ix ix_D os_ix (pf_v 8) (pf_len T.b_len (pfa_cons (pf_v 5) pfa_nil)) (fun _ _ => rfl)) pfa_nil)))) (pfss_cons (pfs_if (pft_cmp op_lt os_lt (pf_len T.b_len (pfa_cons (pf_v 5) pfa_nil)) (pf_len T.b_len (pfa_cons (pf_v 8) pfa_nil)) (nomark _)) (pfss_one (pfs_ret (pf_tup (pfa_cons (pf_v 8) (pfa_cons (pf_call d_law_put_at (hr.mono (by decide)) (pfa_cons (pf_v 9) (pfa_cons (pf_v 3) (pfa_cons (pf_tup (pfa_cons (pf_v 10) (pfa_cons (pf_v 11) (pfa_cons (pf_v 12) (pfa_cons (pf_v 5) (pfa_cons (pf_v 13) pfa_nil)))))) pfa_nil)))) (pfa_cons (pf_v 7) pfa_nil)))))) pfss_nil) (pfss_cons (pfs_set 6 sc_law_stepped.nd (pf_call d_law_seen (hr.mono (by decide)) (pfa_cons (pf_v 0) (pfa_cons (pf_v 11) (pfa_cons (pf_v 12) (pfa_cons (pf_v 5) pfa_nil)))))) (pfss_cons (pfs_if (pft_cmp op_isN os_isN (pf_v 6) pf_non (nomark _)) (pfss_cons (pfs_set 14 sc_law_stepped.nd (pf_callTy call_tuple_of cs_tuple T.b_tuple (by decide +kernel) (pfa_cons (pf_lc [("_law_cell", 15)] sc_law_stepped.nd (pfi_seq (pf_v 5)) (fun _ => (pfg_n 15 sc_law_stepped.nd)) (fun _ => pfts_nil) (fun _ => (pf_ix ix_D os_ix (pf_v 15) pf_int (fun _ _ => rfl))) (blkOk_by (N := ["_law_kind", "_law_scripts", "_law_standing", "_law_one", "_law_deed", "_law_now", "_law_picture", "_law_told", "_law_cells", "_law_states", "_law_done", "_law_first_here", "_law_last", "_law_ready", "_law_numbers", "_law_cell"]) (sc := defScope s_law_stepped) (by decide +kernel))) pfa_nil))) (pfss_cons (pfs_if (pft_cmp op_isN os_isN (pf_v 11) pf_non (nomark _)) (pfss_one (pfs_set 11 sc_law_stepped.nd (pf_v 14))) pfss_nil) (pfss_one (pfs_ret (pf_tup (pfa_cons (pf_v 8) (pfa_cons (pf_call d_law_put_at (hr.mono (by decide)) (pfa_cons (pf_v 9) (pfa_cons (pf_v 3) (pfa_cons (pf_tup (pfa_cons (pf_v 10) (pfa_cons (pf_v 11) (pfa_cons (pf_v 14) (pfa_cons (pf_tup pfa_nil) (pfa_cons pf_non pfa_nil)))))) pfa_nil)))) (pfa_cons (pf_v 7) pfa_nil)))))))) pfss_nil) (pfss_cons (pfs_if (pft_cmp (op_eqD (hu64 hr)) os_eq (pf_ix ix_D os_ix (pf_v 4) pf_int (fun _ _ => rfl)) pf_str (nomark _)) (pfss_one (pfs_ret (pf_tup (pfa_cons (pf_v 8) (pfa_cons (pf_call d_law_put_at (hr.mono (by decide)) (pfa_cons (pf_v 9) (pfa_cons (pf_v 3) (pfa_cons (pf_tup (pfa_cons (pf_v 10) (pfa_cons pf_non (pfa_cons pf_non (pfa_cons (pf_tup pfa_nil) (pfa_cons (pf_v 6) pfa_nil)))))) pfa_nil)))) (pfa_cons (pf_v 7) pfa_nil)))))) pfss_nil) (pfss_cons (pfs_set 7 sc_law_stepped.nd (pf_call d_law_put_at (hr.mono (by decide)) (pfa_cons (pf_v 7) (pfa_cons (pf_v 3) (pfa_cons (pf_bin op_addD os_add (pf_ix ix_D os_ix (pf_v 7) (pf_v 3) (fun _ _ => rfl)) (pf_tup (pfa_cons (pf_v 6) pfa_nil))) pfa_nil))))) (pfss_one (pfs_ret (pf_tup (pfa_cons (pf_v 8) (pfa_cons (pf_call d_law_put_at (hr.mono (by decide)) (pfa_cons (pf_v 9) (pfa_cons (pf_v 3) (pfa_cons (pf_call d_law_behind (hr.mono (by decide)) (pfa_cons (pf_v 1) (pfa_cons (pf_v 3) (pfa_cons (pf_v 10) pfa_nil)))) pfa_nil)))) (pfa_cons (pf_v 7) pfa_nil))))))))))))))))
abbrev s_law_chosen : Stmt := top 80
theorem sc_law_chosen : FnScope ["_law_hand_here", "_law_able", "_law_last", "_law_mode", "_law_later", "_law_one"] ["_law_hand_here", "_law_able", "_law_last", "_law_mode"] (defScope s_law_chosen) := ⟨rfl, rfl, rfl, by decide +kernel, rfl, by decide +kernel, by decide +kernel⟩
noncomputable def b_law_chosen : FS := (sSeq (sIf (cAnd (cT (cOp eqD (cV 3) (cD (.int 0)))) (cAnd (cT (cOp inD (cV 2) (cV 1))) (cT (cOp gtD (cFn 2 f_law_take (cC (cV 0) (cC (cD (.int 6)) cN))) (cD (.int 0)))))) (sRet (cV 2)) sNx) (sSeq (sIf (cT (cOp eqD (cV 3) (cD (.int 1)))) (sSeq (sAsg (cOp addD (cLc (iS (cV 1)) [5] (gN 5) (cT (cOp gtD (cV 5) (cV 2))) (cV 5)) (cV 1)) (gN 4)) (sRet (cOp ixD (cV 4) (cD (.int 0))))) sNx) (sRet (cFn 2 f_law_pick (cC (cV 0) (cC (cV 1) cN))))))
noncomputable def f_law_chosen : List D → Gh → M D := fun ds g => noX (fnOf 6 b_law_chosen ds g)
theorem d_law_chosen {P : Program} {w : World} {K : PySem.W.Frag} {mg : Str → Option Value} {base : Heap} (T : Txt P w K mg base) (A : DefAt K mg "_law_chosen" s_law_chosen ["_law_hand_here", "_law_able", "_law_last", "_law_mode"]) (d_law_take : DefOk P w K mg base CX0 "_law_take" 1 2 f_law_take) (d_law_pick : DefOk P w K mg base CX0 "_law_pick" 2 2 f_law_pick) : DefOk P w K mg base CX0 "_law_chosen" 3 4 f_law_chosen :=
  A.ok sc_law_chosen rfl (by decide) fun f cdv A outer s H E ah hr => by
    exact (pfss_cons (pfs_if (pft_w (pfw_and (pft_cmp (op_eqD (hu64 hr)) os_eq (pf_v 3) pf_int (nomark _)) (pfw_and (pft_cmp op_in_seq os_in (pf_v 2) (pf_v 1) rfl) (pfw_and1 (pft_cmp op_gt os_gt (pf_call d_law_take (hr.mono (by decide)) (pfa_cons (pf_v 0) (pfa_cons pf_int pfa_nil))) pf_int (nomark _)))))) (pfss_one (pfs_ret (pf_v 2))) pfss_nil) (pfss_cons (pfs_if (pft_cmp (op_eqD (hu64 hr)) os_eq (pf_v 3) pf_int (nomark _)) (pfss_cons (pfs_set 4 sc_law_chosen.nd (pf_bin op_addD os_add (pf_lc [("_law_one", 5)] sc_law_chosen.nd (pfi_seq (pf_v 1)) (fun _ => (pfg_n 5 sc_law_chosen.nd)) (fun _ => (pfts_one (pft_cmp op_gt os_gt (pf_v 5) (pf_v 2) (nomark _)))) (fun _ => (pf_v 5)) (blkOk_by (N := ["_law_hand_here", "_law_able", "_law_last", "_law_mode", "_law_later", "_law_one"]) (sc := defScope s_law_chosen) (by decide +kernel))) (pf_v 1))) (pfss_one (pfs_ret (pf_ix ix_D os_ix (pf_v 4) pf_int (fun _ _ => rfl))))) pfss_nil) (pfss_one (pfs_ret (pf_call d_law_pick (hr.mono (by decide)) (pfa_cons (pf_v 0) (pfa_cons (pf_v 1) pfa_nil)))))))
abbrev s_is_word_of : Stmt := top 27
theorem sc_is_word_of : FnScope ["words", "thing"] ["words", "thing"] (defScope s_is_word_of) := ⟨rfl, rfl, rfl, by decide +kernel, rfl, by decide +kernel, by decide +kernel⟩
noncomputable def b_is_word_of : FS := (sRet (cAndV (cIs "str" (cV 1)) (cOp inD (cV 1) (cV 0))))
noncomputable def f_is_word_of : List D → Gh → M D := fun ds g => noX (fnOf 2 b_is_word_of ds g)
theorem d_is_word_of {P : Program} {w : World} {K : PySem.W.Frag} {mg : Str → Option Value} {base : Heap} (T : Txt P w K mg base) (A : DefAt K mg "is_word_of" s_is_word_of ["words", "thing"])  : DefOk P w K mg base CX0 "is_word_of" 1 2 f_is_word_of :=
  A.ok sc_is_word_of rfl (by decide) fun f cdv A outer s H E ah hr => by
    exact (pfss_one (pfs_ret (pf_and (pf_is (t := "str") (by simp) T.play T.b_isinstance T.b_str (by decide +kernel) (pf_v 1)) (pf_one (pf_cmp op_in_seq os_in (pf_v 1) (pf_v 0) rfl)))))
abbrev s_is_lot_below : Stmt := top 28
theorem sc_is_lot_below : FnScope ["limit", "thing", "item", "one", "other"] ["limit", "thing"] (defScope s_is_lot_below) := ⟨rfl, rfl, rfl, by decide +kernel, rfl, by decide +kernel, by decide +kernel⟩
noncomputable def b_is_lot_below : FS := (sSeq (sIf (cNot (cT (cIs "tuple" (cV 1)))) (sRet (cD (.bl false))) sNx) (sSeq (sIf (cNot (cT (cCall allD (cC (cLc (iS (cV 1)) [2] (gN 2) tY (cFn 2 f_is_number_below (cC (cV 0) (cC (cV 2) cN)))) cN)))) (sRet (cD (.bl false))) sNx) (sRet (cCall allD (cC (cLc (iZ (cC (cV 1) (cC (cSl (cV 1) (oS (cD (.int 1))) oN) cN))) [3, 4] (gT 2 (gsC (gN 3) (gsC (gN 4) gsN))) tY (cOp ltD (cV 3) (cV 4))) cN)))))
noncomputable def f_is_lot_below : List D → Gh → M D := fun ds g => noX (fnOf 5 b_is_lot_below ds g)
theorem d_is_lot_below {P : Program} {w : World} {K : PySem.W.Frag} {mg : Str → Option Value} {base : Heap} (T : Txt P w K mg base) (A : DefAt K mg "is_lot_below" s_is_lot_below ["limit", "thing"]) (d_is_number_below : DefOk P w K mg base CX0 "is_number_below" 3 2 f_is_number_below) : DefOk P w K mg base CX0 "is_lot_below" 4 2 f_is_lot_below :=
  A.ok sc_is_lot_below rfl (by decide) fun f cdv A outer s H E ah hr => by
    exact (pfss_cons (pfs_if (pft_not (pft_val (pf_is (t := "tuple") (by simp) T.play T.b_isinstance T.b_tuple (by decide +kernel) (pf_v 1)))) (pfss_one (pfs_ret pf_bl)) pfss_nil) (pfss_cons (pfs_if (pft_not (pft_val (pf_callB (cr_all rfl) cs_all T.b_all (by decide +kernel) (pfa_cons (pf_lc [("item", 2)] sc_is_lot_below.nd (pfi_seq (pf_v 1)) (fun _ => (pfg_n 2 sc_is_lot_below.nd)) (fun _ => pfts_nil) (fun _ => (pf_call d_is_number_below (hr.mono (by decide)) (pfa_cons (pf_v 0) (pfa_cons (pf_v 2) pfa_nil)))) (blkOk_by (N := ["limit", "thing", "item", "one", "other"]) (sc := defScope s_is_lot_below) (by decide +kernel))) pfa_nil)))) (pfss_one (pfs_ret pf_bl)) pfss_nil) (pfss_one (pfs_ret (pf_callB (cr_all rfl) cs_all T.b_all (by decide +kernel) (pfa_cons (pf_lc [("one", 3), ("other", 4)] sc_is_lot_below.nd (pfi_zip T.b_zip (pfa_cons (pf_v 1) (pfa_cons (pf_sl (pf_v 1) (pfo_some pf_int) pfo_none) pfa_nil))) (fun _ => (pfg_tup rfl (pfgs_cons (pfg_n 3 sc_is_lot_below.nd) (pfgs_cons (pfg_n 4 sc_is_lot_below.nd) pfgs_nil)))) (fun _ => pfts_nil) (fun _ => (pf_cmp op_lt os_lt (pf_v 3) (pf_v 4) (nomark _))) (blkOk_by (N := ["limit", "thing", "item", "one", "other"]) (sc := defScope s_is_lot_below) (by decide +kernel))) pfa_nil))))))
abbrev s_is_row_of_hands : Stmt := top 41
theorem sc_is_row_of_hands : FnScope ["thing"] ["thing"] (defScope s_is_row_of_hands) := ⟨rfl, rfl, rfl, by decide +kernel, rfl, by decide +kernel, by decide +kernel⟩
noncomputable def b_is_row_of_hands : FS := (sRet (cAndV (cIs "tuple" (cV 0)) (cChain leD leD (cD (.int 1)) (cCall lenD (cC (cV 0) cN)) (cD k_MOST_HANDS))))
noncomputable def f_is_row_of_hands : List D → Gh → M D := fun ds g => noX (fnOf 1 b_is_row_of_hands ds g)
theorem d_is_row_of_hands {P : Program} {w : World} {K : PySem.W.Frag} {mg : Str → Option Value} {base : Heap} (T : Txt P w K mg base) (A : DefAt K mg "is_row_of_hands" s_is_row_of_hands ["thing"])  : DefOk P w K mg base CX0 "is_row_of_hands" 1 1 f_is_row_of_hands :=
  A.ok sc_is_row_of_hands rfl (by decide) fun f cdv A outer s H E ah hr => by
    exact (pfss_one (pfs_ret (pf_and (pf_is (t := "tuple") (by simp) T.play T.b_isinstance T.b_tuple (by decide +kernel) (pf_v 0)) (pf_one (pf_chain op_le op_le fs_int os_le pf_int (pf_len T.b_len (pfa_cons (pf_v 0) pfa_nil)) (pf_const T.c_MOST_HANDS))))))
abbrev s_is_near : Stmt := top 42
theorem sc_is_near : FnScope ["thing", "rounds", "values", "value"] ["thing"] (defScope s_is_near) := ⟨rfl, rfl, rfl, by decide +kernel, rfl, by decide +kernel, by decide +kernel⟩
noncomputable def b_is_near : FS := (sSeq (sIf (cOr (cNot (cT (cIs "tuple" (cV 0)))) (cT (cOp neD (cCall lenD (cC (cV 0) cN)) (cD (.int 2))))) (sRet (cD (.bl false))) sNx) (sSeq (sAsg (cV 0) (gT 2 (gsC (gN 1) (gsC (gN 2) gsN)))) (sSeq (sIf (cOr (cNot (cT (cFn 3 f_is_whole_within (cC (cD (.int 1)) (cC (cD k_MOST_ROUNDS) (cC (cV 1) cN)))))) (cNot (cT (cFn 1 f_is_row_of_hands (cC (cV 2) cN))))) (sRet (cD (.bl false))) sNx) (sRet (cCall allD (cC (cLc (iS (cV 2)) [3] (gN 3) tY (cFn 3 f_is_whole_within (cC (c1 negD (cD k_NEAR_MOST)) (cC (cD k_NEAR_MOST) (cC (cV 3) cN))))) cN))))))
noncomputable def f_is_near : List D → Gh → M D := fun ds g => noX (fnOf 4 b_is_near ds g)
theorem d_is_near {P : Program} {w : World} {K : PySem.W.Frag} {mg : Str → Option Value} {base : Heap} (T : Txt P w K mg base) (A : DefAt K mg "is_near" s_is_near ["thing"]) (d_is_whole_within : DefOk P w K mg base CX0 "is_whole_within" 2 3 f_is_whole_within) (d_is_row_of_hands : DefOk P w K mg base CX0 "is_row_of_hands" 1 1 f_is_row_of_hands) : DefOk P w K mg base CX0 "is_near" 3 1 f_is_near :=
  A.ok sc_is_near rfl (by decide) fun f cdv A outer s H E ah hr => by
    exact (pfss_cons (pfs_if (pft_w (pfw_or (pft_not (pft_val (pf_is (t := "tuple") (by simp) T.play T.b_isinstance T.b_tuple (by decide +kernel) (pf_v 0)))) (pfw_or1 (pft_cmp (op_neD (hu64 hr)) os_ne (pf_len T.b_len (pfa_cons (pf_v 0) pfa_nil)) pf_int (nomark _))))) (pfss_one (pfs_ret pf_bl)) pfss_nil) (pfss_cons (pfs_asg (pf_v 0) (pfg_tup rfl (pfgs_cons (pfg_n 1 sc_is_near.nd) (pfgs_cons (pfg_n 2 sc_is_near.nd) pfgs_nil)))) (pfss_cons (pfs_if (pft_w (pfw_or (pft_not (pft_val (pf_call d_is_whole_within (hr.mono (by decide)) (pfa_cons pf_int (pfa_cons (pf_const T.c_MOST_ROUNDS) (pfa_cons (pf_v 1) pfa_nil)))))) (pfw_or1 (pft_not (pft_val (pf_call d_is_row_of_hands (hr.mono (by decide)) (pfa_cons (pf_v 2) pfa_nil))))))) (pfss_one (pfs_ret pf_bl)) pfss_nil) (pfss_one (pfs_ret (pf_callB (cr_all rfl) cs_all T.b_all (by decide +kernel) (pfa_cons (pf_lc [("value", 3)] sc_is_near.nd (pfi_seq (pf_v 2)) (fun _ => (pfg_n 3 sc_is_near.nd)) (fun _ => pfts_nil) (fun _ => (pf_call d_is_whole_within (hr.mono (by decide)) (pfa_cons (pf_neg (pf_const T.c_NEAR_MOST)) (pfa_cons (pf_const T.c_NEAR_MOST) (pfa_cons (pf_v 3) pfa_nil))))) (blkOk_by (N := ["thing", "rounds", "values", "value"]) (sc := defScope s_is_near) (by decide +kernel))) pfa_nil)))))))
abbrev s_is_deed : Stmt := top 44
theorem sc_is_deed : FnScope ["thing"] ["thing"] (defScope s_is_deed) := ⟨rfl, rfl, rfl, by decide +kernel, rfl, by decide +kernel, by decide +kernel⟩
noncomputable def b_is_deed : FS := (sSeq (sIf (cNot (cT (cIs "tuple" (cV 0)))) (sRet (cD (.bl false))) sNx) (sSeq (sIf (cT (cOp eqD (cCall lenD (cC (cV 0) cN)) (cD (.int 1)))) (sRet (cFn 2 f_is_word_of (cC (cTup (cC (cD (.str "see")) cN)) (cC (cOp ixD (cV 0) (cD (.int 0))) cN)))) sNx) (sRet (cAndV (cOp eqD (cCall lenD (cC (cV 0) cN)) (cD (.int 2))) (cAndV (cFn 2 f_is_word_of (cC (cTup (cC (cD (.str "put")) cN)) (cC (cOp ixD (cV 0) (cD (.int 0))) cN))) (cFn 2 f_is_number_below (cC (cD k_NUMBER_LIMIT) (cC (cOp ixD (cV 0) (cD (.int 1))) cN))))))))
noncomputable def f_is_deed : List D → Gh → M D := fun ds g => noX (fnOf 1 b_is_deed ds g)
theorem d_is_deed {P : Program} {w : World} {K : PySem.W.Frag} {mg : Str → Option Value} {base : Heap} (T : Txt P w K mg base) (A : DefAt K mg "is_deed" s_is_deed ["thing"]) (d_is_word_of : DefOk P w K mg base CX0 "is_word_of" 1 2 f_is_word_of) (d_is_number_below : DefOk P w K mg base CX0 "is_number_below" 3 2 f_is_number_below) : DefOk P w K mg base CX0 "is_deed" 4 1 f_is_deed :=
  A.ok sc_is_deed rfl (by decide) fun f cdv A outer s H E ah hr => by
    exact (pfss_cons (pfs_if (pft_not (pft_val (pf_is (t := "tuple") (by simp) T.play T.b_isinstance T.b_tuple (by decide +kernel) (pf_v 0)))) (pfss_one (pfs_ret pf_bl)) pfss_nil) (pfss_cons (pfs_if (pft_cmp (op_eqD (hu64 hr)) os_eq (pf_len T.b_len (pfa_cons (pf_v 0) pfa_nil)) pf_int (nomark _)) (pfss_one (pfs_ret (pf_call d_is_word_of (hr.mono (by decide)) (pfa_cons (pf_tup (pfa_cons pf_str pfa_nil)) (pfa_cons (pf_ix ix_D os_ix (pf_v 0) pf_int (fun _ _ => rfl)) pfa_nil))))) pfss_nil) (pfss_one (pfs_ret (pf_and (pf_cmp (op_eqD (hu64 hr)) os_eq (pf_len T.b_len (pfa_cons (pf_v 0) pfa_nil)) pf_int (nomark _)) (pf_and (pf_call d_is_word_of (hr.mono (by decide)) (pfa_cons (pf_tup (pfa_cons pf_str pfa_nil)) (pfa_cons (pf_ix ix_D os_ix (pf_v 0) pf_int (fun _ _ => rfl)) pfa_nil))) (pf_one (pf_call d_is_number_below (hr.mono (by decide)) (pfa_cons (pf_const T.c_NUMBER_LIMIT) (pfa_cons (pf_ix ix_D os_ix (pf_v 0) pf_int (fun _ _ => rfl)) pfa_nil))))))))))
abbrev s_is_script : Stmt := top 43
theorem sc_is_script : FnScope ["thing", "item"] ["thing"] (defScope s_is_script) := ⟨rfl, rfl, rfl, by decide +kernel, rfl, by decide +kernel, by decide +kernel⟩
noncomputable def b_is_script : FS := (sSeq (sIf (cOr (cNot (cT (cIs "tuple" (cV 0)))) (cT (cOp gtD (cCall lenD (cC (cV 0) cN)) (cD k_MOST_DEEDS)))) (sRet (cD (.bl false))) sNx) (sRet (cCall allD (cC (cLc (iS (cV 0)) [1] (gN 1) tY (cFn 1 f_is_deed (cC (cV 1) cN))) cN))))
noncomputable def f_is_script : List D → Gh → M D := fun ds g => noX (fnOf 2 b_is_script ds g)
theorem d_is_script {P : Program} {w : World} {K : PySem.W.Frag} {mg : Str → Option Value} {base : Heap} (T : Txt P w K mg base) (A : DefAt K mg "is_script" s_is_script ["thing"]) (d_is_deed : DefOk P w K mg base CX0 "is_deed" 4 1 f_is_deed) : DefOk P w K mg base CX0 "is_script" 5 1 f_is_script :=
  A.ok sc_is_script rfl (by decide) fun f cdv A outer s H E ah hr => by
    exact (pfss_cons (pfs_if (pft_w (pfw_or (pft_not (pft_val (pf_is (t := "tuple") (by simp) T.play T.b_isinstance T.b_tuple (by decide +kernel) (pf_v 0)))) (pfw_or1 (pft_cmp op_gt os_gt (pf_len T.b_len (pfa_cons (pf_v 0) pfa_nil)) (pf_const T.c_MOST_DEEDS) (nomark _))))) (pfss_one (pfs_ret pf_bl)) pfss_nil) (pfss_one (pfs_ret (pf_callB (cr_all rfl) cs_all T.b_all (by decide +kernel) (pfa_cons (pf_lc [("item", 1)] sc_is_script.nd (pfi_seq (pf_v 0)) (fun _ => (pfg_n 1 sc_is_script.nd)) (fun _ => pfts_nil) (fun _ => (pf_call d_is_deed (hr.mono (by decide)) (pfa_cons (pf_v 1) pfa_nil))) (blkOk_by (N := ["thing", "item"]) (sc := defScope s_is_script) (by decide +kernel))) pfa_nil)))))
abbrev s_is_inputs : Stmt := top 40
theorem sc_is_inputs : FnScope ["kind", "thing", "item"] ["kind", "thing"] (defScope s_is_inputs) := ⟨rfl, rfl, rfl, by decide +kernel, rfl, by decide +kernel, by decide +kernel⟩
noncomputable def b_is_inputs : FS := (sSeq (sIf (cT (cOp eqD (cV 0) (cD (.str "near")))) (sRet (cFn 1 f_is_near (cC (cV 1) cN))) sNx) (sSeq (sIf (cNot (cT (cFn 1 f_is_row_of_hands (cC (cV 1) cN)))) (sRet (cD (.bl false))) sNx) (sSeq (sIf (cT (cOp inD (cV 0) (cD k_MANNERS))) (sRet (cCall allD (cC (cLc (iS (cV 1)) [2] (gN 2) tY (cFn 1 f_is_script (cC (cV 2) cN))) cN))) sNx) (sSeq (sIf (cT (cOp eqD (cV 0) (cD (.str "chain")))) (sRet (cCall allD (cC (cLc (iS (cV 1)) [2] (gN 2) tY (cFn 2 f_is_lot_below (cC (cD k_LOT_LIMIT) (cC (cV 2) cN)))) cN))) sNx) (sSeq (sIf (cNot (cT (cCall allD (cC (cLc (iS (cV 1)) [2] (gN 2) tY (cFn 2 f_is_number_below (cC (cD k_NUMBER_LIMIT) (cC (cV 2) cN)))) cN)))) (sRet (cD (.bl false))) sNx) (sRet (cOrV (cOp eqD (cV 0) (cD (.str "levels"))) (cOp eqD (c1 lenSetD (cV 1)) (cCall lenD (cC (cV 1) cN))))))))))
noncomputable def f_is_inputs : List D → Gh → M D := fun ds g => noX (fnOf 3 b_is_inputs ds g)
theorem d_is_inputs {P : Program} {w : World} {K : PySem.W.Frag} {mg : Str → Option Value} {base : Heap} (T : Txt P w K mg base) (A : DefAt K mg "is_inputs" s_is_inputs ["kind", "thing"]) (d_is_near : DefOk P w K mg base CX0 "is_near" 3 1 f_is_near) (d_is_row_of_hands : DefOk P w K mg base CX0 "is_row_of_hands" 1 1 f_is_row_of_hands) (d_is_script : DefOk P w K mg base CX0 "is_script" 5 1 f_is_script) (d_is_lot_below : DefOk P w K mg base CX0 "is_lot_below" 4 2 f_is_lot_below) (d_is_number_below : DefOk P w K mg base CX0 "is_number_below" 3 2 f_is_number_below) : DefOk P w K mg base CX0 "is_inputs" 6 2 f_is_inputs :=
  A.ok sc_is_inputs rfl (by decide) fun f cdv A outer s H E ah hr => by
    exact (pfss_cons (pfs_if (pft_cmp (op_eqD (hu64 hr)) os_eq (pf_v 0) pf_str (nomark _)) (pfss_one (pfs_ret (pf_call d_is_near (hr.mono (by decide)) (pfa_cons (pf_v 1) pfa_nil)))) pfss_nil) (pfss_cons (pfs_if (pft_not (pft_val (pf_call d_is_row_of_hands (hr.mono (by decide)) (pfa_cons (pf_v 1) pfa_nil)))) (pfss_one (pfs_ret pf_bl)) pfss_nil) (pfss_cons (pfs_if (pft_cmp op_in_seq os_in (pf_v 0) (pf_const T.c_MANNERS) rfl) (pfss_one (pfs_ret (pf_callB (cr_all rfl) cs_all T.b_all (by decide +kernel) (pfa_cons (pf_lc [("item", 2)] sc_is_inputs.nd (pfi_seq (pf_v 1)) (fun _ => (pfg_n 2 sc_is_inputs.nd)) (fun _ => pfts_nil) (fun _ => (pf_call d_is_script (hr.mono (by decide)) (pfa_cons (pf_v 2) pfa_nil))) (blkOk_by (N := ["kind", "thing", "item"]) (sc := defScope s_is_inputs) (by decide +kernel))) pfa_nil)))) pfss_nil) (pfss_cons (pfs_if (pft_cmp (op_eqD (hu64 hr)) os_eq (pf_v 0) pf_str (nomark _)) (pfss_one (pfs_ret (pf_callB (cr_all rfl) cs_all T.b_all (by decide +kernel) (pfa_cons (pf_lc [("item", 2)] sc_is_inputs.nd (pfi_seq (pf_v 1)) (fun _ => (pfg_n 2 sc_is_inputs.nd)) (fun _ => pfts_nil) (fun _ => (pf_call d_is_lot_below (hr.mono (by decide)) (pfa_cons (pf_const T.c_LOT_LIMIT) (pfa_cons (pf_v 2) pfa_nil)))) (blkOk_by (N := ["kind", "thing", "item"]) (sc := defScope s_is_inputs) (by decide +kernel))) pfa_nil)))) pfss_nil) (pfss_cons (pfs_if (pft_not (pft_val (pf_callB (cr_all rfl) cs_all T.b_all (by decide +kernel) (pfa_cons (pf_lc [("item", 2)] sc_is_inputs.nd (pfi_seq (pf_v 1)) (fun _ => (pfg_n 2 sc_is_inputs.nd)) (fun _ => pfts_nil) (fun _ => (pf_call d_is_number_below (hr.mono (by decide)) (pfa_cons (pf_const T.c_NUMBER_LIMIT) (pfa_cons (pf_v 2) pfa_nil)))) (blkOk_by (N := ["kind", "thing", "item"]) (sc := defScope s_is_inputs) (by decide +kernel))) pfa_nil)))) (pfss_one (pfs_ret pf_bl)) pfss_nil) (pfss_one (pfs_ret (pf_or (pf_cmp (op_eqD (hu64 hr)) os_eq (pf_v 0) pf_str (nomark _)) (pf_one (pf_cmp (op_eqD (hu64 hr)) os_eq (pf_lenSet T.b_len T.b_set (pf_v 1)) (pf_len T.b_len (pfa_cons (pf_v 1) pfa_nil)) (nomark _)))))))))))
abbrev s_Play_init : Stmt := inClass (top 38) 0
theorem sc_Play_init : FnScope ["self", "kind", "inputs"] ["self", "kind", "inputs"] (defScope s_Play_init) := ⟨rfl, rfl, rfl, by decide +kernel, rfl, by decide +kernel, by decide +kernel⟩
noncomputable def f_Play : List D → Gh → M D := mkF2 "Play" "kind" "inputs" (cNot (cT (cFn 2 f_is_word_of (cC (cD k_KINDS) (cC (cV 1) cN))))) (sRaise "BadPlay" "part" (cD (.str "kind"))) (cNot (cT (cFn 2 f_is_inputs (cC (cV 1) (cC (cV 2) cN))))) (sRaise "BadPlay" "part" (cD (.str "inputs"))) 3
theorem d_MK {P : Program} {w : World} {K : PySem.W.Frag} {mg : Str → Option Value} {base : Heap} (T : Txt P w K mg base) {C f : Addr} {fd : FuncData} (F : Fun K "__init__" "Play.__init__" s_Play_init f fd) (hm : mg "Play" = some (.ref C)) (M : Mk K C f) (hb : Binds K fd ["self", "kind", "inputs"] []) (d_is_word_of : DefOk P w K mg base CX0 "is_word_of" 1 2 f_is_word_of) (d_is_inputs : DefOk P w K mg base CX0 "is_inputs" 6 2 f_is_inputs) : MkOk P w K mg base "Play" 7 2 f_Play := by
  refine ⟨C, f, fd, _, mk_ok2 F sc_Play_init rfl (T.play C hm).cl (T.play_kind C hm) (T.play_inputs C hm) (by decide +kernel) hm rfl rfl rfl rfl (by decide) (by decide) (by decide) (by decide) (fun cdv A outer s H E ah hr => ⟨?_, ?_, ?_, ?_⟩), hm, M, hb⟩
  · exact (pft_not (pft_val (pf_call d_is_word_of (hr.mono (by decide)) (pfa_cons (pf_const T.c_KINDS) (pfa_cons (pf_v 1) pfa_nil)))))
  · exact (pfs_raise rfl (takes_of rfl rfl rfl rfl) T.x_BadPlay (hr.mono (by decide)) pf_str)
  · exact (pft_not (pft_val (pf_call d_is_inputs (hr.mono (by decide)) (pfa_cons (pf_v 1) (pfa_cons (pf_v 2) pfa_nil)))))
  · exact (pfs_raise rfl (takes_of rfl rfl rfl rfl) T.x_BadPlay (hr.mono (by decide)) pf_str)
abbrev s_Play_eq : Stmt := inClass (top 38) 1
theorem sc_Play_eq : FnScope ["self", "other"] ["self", "other"] (defScope s_Play_eq) := ⟨rfl, rfl, rfl, by decide +kernel, rfl, by decide +kernel, by decide +kernel⟩
noncomputable def b_Play___eq__ : FS := (sRet (cAndV (cTyEq (cV 0) (cV 1)) (cAndV (cOp eqD (c1 (fldD "kind") (cV 0)) (c1 (fldD "kind") (cV 1))) (cOp eqD (c1 (fldD "inputs") (cV 0)) (c1 (fldD "inputs") (cV 1))))))
noncomputable def f_Play___eq__ : List D → Gh → M D := fun ds g => noX (fnOf 2 b_Play___eq__ ds g)
theorem d_EQ {P : Program} {w : World} {K : PySem.W.Frag} {mg : Str → Option Value} {base : Heap} (T : Txt P w K mg base) {C f : Addr} {fd : FuncData} (F : Fun K "__eq__" "Play.__eq__" s_Play_eq f fd) (hm : mg "Play" = some (.ref C)) (hb : Binds K fd ["self", "other"] []) (h1 : PySem.W.findIn K (.ref C) "__eq__" = some (some (.ref f))) (h2 : PySem.W.isFn K (.ref f) = true) (h3 : PySem.W.subIn K (.type "tuple") (.ref C) = some false) : EqOk P w K mg base 1 f_Play___eq__ :=
  ⟨C, f, fd, _, hm, fd_ok F sc_Play_eq rfl (by decide) (fun cdv A outer s H E ah hr => by
    exact (pfss_one (pfs_ret (pf_and (pf_tyEq T.b_type (pf_v 0) (pf_v 1)) (pf_and (pf_cmp (op_eqD (hu64 hr)) os_eq (pf_fld (fun C h => ⟨(T.play C h).cl, T.play_kind C h⟩) (pf_v 0)) (pf_fld (fun C h => ⟨(T.play C h).cl, T.play_kind C h⟩) (pf_v 1)) (nomark _)) (pf_one (pf_cmp (op_eqD (hu64 hr)) os_eq (pf_fld (fun C h => ⟨(T.play C h).cl, T.play_inputs C h⟩) (pf_v 0)) (pf_fld (fun C h => ⟨(T.play C h).cl, T.play_inputs C h⟩) (pf_v 1)) (nomark _)))))))), hb, h1, h2, h3⟩
abbrev s_law : Stmt := top 81
theorem sc_law : FnScope ["_law_script_here", "_law_hand_here", "_law_play", "_law_standing", "_law_mode", "_law_stopped", "_law_last", "_law_k", "_law_kind", "_law_scripts", "_law_able", "_law_free", "_law_one", "_law_due", "_law_before"] ["_law_script_here"] (defScope s_law) := ⟨rfl, rfl, rfl, by decide +kernel, rfl, by decide +kernel, by decide +kernel⟩
noncomputable def b_law : FS := (sSeq (sAsg (cFn 1 f_law_manner (cC (cV 1) cN)) (gT 2 (gsC (gN 8) (gsC (gN 9) gsN)))) (sSeq (sAsg (cFn 2 f_Play (cC (cV 8) (cC (cV 9) cN))) (gN 2)) (sSeq (sAsg (cFn 1 f_law_first (cC (cV 9) cN)) (gN 3)) (sSeq (sIf (cNot (cT (cFn 2 f_law_same (cC (cFn 1 f_first_standing (cC (cV 2) cN)) (cC (cV 3) cN))))) (sRet (cD (.bl false))) sNx) (sSeq (sAsg (cFn 2 f_law_take (cC (cV 1) (cC (cD (.int 3)) cN))) (gN 4)) (sSeq (sAsg (cLc (iR1 (cC (cCall lenD (cC (cV 9) cN)) cN)) [12] (gN 12) (cT (cOp eqD (cFn 2 f_law_take (cC (cV 1) (cC (cD (.int 6)) cN))) (cD (.int 0)))) (cV 12)) (gN 5)) (sSeq (sAsg (c1 negD (cD (.int 1))) (gN 6)) (sSeq (sFor (iR1 (cC (cFn 2 f_law_pick (cC (cV 1) (cC (cLst (cC (cD (.int 10)) (cC (cD (.int 40)) (cC (cD (.int 160)) cN)))) cN))) cN)) (gN 7) (sSeq (sAsg (cLc (iR1 (cC (cCall lenD (cC (cV 9) cN)) cN)) [12] (gN 12) (cT (cOp notND (cOp ixD (cOp ixD (cV 3) (cD (.int 1))) (cV 12)) (cD .non))) (cV 12)) (gN 10)) (sSeq (sIf (cNot (cT (cFn 2 f_law_same (cC (cFn 2 f_can_step (cC (cV 2) (cC (cV 3) cN))) (cC (cCall tupleD (cC (cV 10) cN)) cN))))) (sRet (cD (.bl false))) sNx) (sSeq (sAsg (cLc (iS (cV 10)) [12] (gN 12) (cT (cOp notInD (cV 12) (cV 5))) (cV 12)) (gN 11)) (sSeq (sIf (cT (cOp eqD (cCall lenD (cC (cV 11) cN)) (cD (.int 0)))) sBk sNx) (sSeq (sAsg (cFn 4 f_law_chosen (cC (cV 1) (cC (cV 11) (cC (cV 6) (cC (cV 4) cN))))) (gN 6)) (sSeq (sFor (iS (cV 10)) (gN 12) (sIf (cNot (cT (cFn 2 f_law_same (cC (cFn 3 f_next_step (cC (cV 2) (cC (cV 3) (cC (cV 12) cN)))) (cC (cFn 4 f_law_next (cC (cV 8) (cC (cV 9) (cC (cV 3) (cC (cV 12) cN))))) cN))))) (sRet (cD (.bl false))) sNx)) (sSeq (sAsg (cFn 4 f_law_stepped (cC (cV 8) (cC (cV 9) (cC (cV 3) (cC (cV 6) cN))))) (gN 13)) (sSeq (sAsg (cCall reprD (cC (cV 3) cN)) (gN 14)) (sSeq (sIf (cOr (cNot (cT (cFn 2 f_law_same (cC (cFn 3 f_step (cC (cV 2) (cC (cV 3) (cC (cV 6) cN)))) (cC (cV 13) cN))))) (cT (cOp neD (cCall reprD (cC (cV 3) cN)) (cV 14)))) (sRet (cD (.bl false))) sNx) (sAsg (cV 13) (gN 3)))))))))))) (sRet (cFn 2 f_law_same (cC (cTup (cC (c1 (fldD "kind") (cV 2)) (cC (c1 (fldD "inputs") (cV 2)) cN))) (cC (cTup (cC (cV 8) (cC (cV 9) cN))) cN))))))))))))
abbrev s_law_hand : Stmt := top 66
theorem sc_law_hand : FnScope ["_law_script_here"] ["_law_script_here"] (defScope s_law_hand) := ⟨rfl, rfl, rfl, by decide +kernel, rfl, by decide +kernel, by decide +kernel⟩
theorem d_law {P : Program} {w : World} {K : PySem.W.Frag} {mg : Str → Option Value} {base : Heap} (T : Txt P w K mg base) {f fh : Addr} {fd fdh : FuncData} (F : Fun K "law" "law" s_law f fd) (Fh : Fun K "_law_hand" "_law_hand" s_law_hand fh fdh) (hmh : mg "_law_hand" = some (.ref fh)) (hbh : Binds K fdh ["_law_script_here"] []) (hli : mg "list" = none) (d_law_manner : DefOk P w K mg base CX0 "_law_manner" 4 1 f_law_manner) (d_law_first : DefOk P w K mg base CX0 "_law_first" 1 1 f_law_first) (d_first_standing : DefOk P w K mg base CX0 "first_standing" 4 1 f_first_standing) (d_law_same : DefOk P w K mg base CX0 "_law_same" 46 2 f_law_same) (d_law_take : DefOk P w K mg base CX0 "_law_take" 1 2 f_law_take) (d_law_pick : DefOk P w K mg base CX0 "_law_pick" 2 2 f_law_pick) (d_can_step : DefOk P w K mg base CX0 "can_step" 1 2 f_can_step) (d_law_chosen : DefOk P w K mg base CX0 "_law_chosen" 3 4 f_law_chosen) (d_law_next : DefOk P w K mg base CX0 "_law_next" 2 4 f_law_next) (d_next_step : DefOk P w K mg base CX0 "next_step" 6 3 f_next_step) (d_law_stepped : DefOk P w K mg base CX0 "_law_stepped" 2 4 f_law_stepped) (d_step : DefOk P w K mg base CX0 "step" 7 3 f_step) (d_MK : MkOk P w K mg base "Play" 7 2 f_Play)
    (main : ∀ ns : List Int, ns.length ≤ 63 → ∃ g, b_law (.un :: .dt .hnd :: List.replicate 13 .un) ⟨ns, 0, 0, 1, 0⟩ = some (.ok (.rt (.bl true)) g)) : BodyG P w K mg base ["_law_script_here", "_law_hand_here", "_law_play", "_law_standing", "_law_mode", "_law_stopped", "_law_last", "_law_k", "_law_kind", "_law_scripts", "_law_able", "_law_free", "_law_one", "_law_due", "_law_before"] "law" s_law 46 f (spLaw K) := by
  refine law_okG (k := 46) F sc_law rfl (by decide) (hand_ok Fh sc_law_hand hli rfl rfl rfl (by decide) (by decide)) hmh Fh.kp hbh rfl rfl rfl (by first | exact Or.inl rfl | exact Or.inr rfl) (by decide) (by decide) (by decide) (fun cdv A outer s H E ah hgd hr => ?_) (fun cdv A outer s H E => rfl) main
  exact (pfss_cons (pfs_asg (pf_call d_law_manner (hr.mono (by decide)) (pfa_cons (pf_v 1) pfa_nil)) (pfg_tup rfl (pfgs_cons (pfg_n 8 sc_law.nd) (pfgs_cons (pfg_n 9 sc_law.nd) pfgs_nil)))) (pfss_cons (pfs_set 2 sc_law.nd (pf_mk d_MK (hr.mono (by decide)) (pfa_cons (pf_v 8) (pfa_cons (pf_v 9) pfa_nil)))) (pfss_cons (pfs_set 3 sc_law.nd (pf_call d_law_first (hr.mono (by decide)) (pfa_cons (pf_v 9) pfa_nil))) (pfss_cons (pfs_if (pft_not (pft_val (pf_call d_law_same (hr.mono (by decide)) (pfa_cons (pf_call d_first_standing (hr.mono (by decide)) (pfa_cons (pf_v 2) pfa_nil)) (pfa_cons (pf_v 3) pfa_nil))))) (pfss_one (pfs_ret pf_bl)) pfss_nil) (pfss_cons (pfs_set 4 sc_law.nd (pf_call d_law_take (hr.mono (by decide)) (pfa_cons (pf_v 1) (pfa_cons pf_int pfa_nil)))) (pfss_cons (pfs_set 5 sc_law.nd (pf_lc [("_law_one", 12)] sc_law.nd (pfi_rng1 T.b_range (pfa_cons (pf_len T.b_len (pfa_cons (pf_v 9) pfa_nil)) pfa_nil)) (fun _ => (pfg_n 12 sc_law.nd)) (fun _ => (pfts_one (pft_cmp (op_eqD (hu64 hr)) os_eq (pf_call d_law_take (hr.mono (by decide)) (pfa_cons (pf_v 1) (pfa_cons pf_int pfa_nil))) pf_int (nomark _)))) (fun _ => (pf_v 12)) (blkOk_by (N := ["_law_script_here", "_law_hand_here", "_law_play", "_law_standing", "_law_mode", "_law_stopped", "_law_last", "_law_k", "_law_kind", "_law_scripts", "_law_able", "_law_free", "_law_one", "_law_due", "_law_before"]) (sc := defScope s_law) (by decide +kernel)))) (pfss_cons (pfs_set 6 sc_law.nd (pf_neg pf_int)) (pfss_cons (pfs_for PassesOwn.never rfl (pfi_rng1 T.b_range (pfa_cons (pf_call d_law_pick (hr.mono (by decide)) (pfa_cons (pf_v 1) (pfa_cons (pf_lst (pfa_cons pf_int (pfa_cons pf_int (pfa_cons pf_int pfa_nil)))) pfa_nil))) pfa_nil)) (pfg_n 7 sc_law.nd) (pfss_cons (pfs_lc 10 [("_law_one", 12)] sc_law.nd (pfi_rng1 T.b_range (pfa_cons (pf_len T.b_len (pfa_cons (pf_v 9) pfa_nil)) pfa_nil)) (fun _ => (pfg_n 12 sc_law.nd)) (fun _ => (pfts_one (pft_cmp op_notN os_notN (pf_ix ix_D os_ix (pf_ix ix_D os_ix (pf_v 3) pf_int (fun _ _ => rfl)) (pf_v 12) (fun _ _ => rfl)) pf_non (nomark _)))) (fun _ => (pf_v 12)) (blkOk_by (N := ["_law_script_here", "_law_hand_here", "_law_play", "_law_standing", "_law_mode", "_law_stopped", "_law_last", "_law_k", "_law_kind", "_law_scripts", "_law_able", "_law_free", "_law_one", "_law_due", "_law_before"]) (sc := defScope s_law) (by decide +kernel)) (sw_true rfl rfl rfl (by decide +kernel))) (pfss_cons (pfs_if (pft_not (pft_val (pf_call d_law_same (hr.mono (by decide)) (pfa_cons (pf_call d_can_step (hr.mono (by decide)) (pfa_cons (pf_v 2) (pfa_cons (pf_v 3) pfa_nil))) (pfa_cons (pf_callTy call_tuple_of cs_tuple T.b_tuple (by decide +kernel) (pfa_cons (pf_v 10) pfa_nil)) pfa_nil))))) (pfss_one (pfs_ret pf_bl)) pfss_nil) (pfss_cons (pfs_lc 11 [("_law_one", 12)] sc_law.nd (pfi_seq (pf_v 10)) (fun _ => (pfg_n 12 sc_law.nd)) (fun _ => (pfts_one (pft_cmp op_notIn_seq os_notIn (pf_v 12) (pf_v 5) rfl))) (fun _ => (pf_v 12)) (blkOk_by (N := ["_law_script_here", "_law_hand_here", "_law_play", "_law_standing", "_law_mode", "_law_stopped", "_law_last", "_law_k", "_law_kind", "_law_scripts", "_law_able", "_law_free", "_law_one", "_law_due", "_law_before"]) (sc := defScope s_law) (by decide +kernel)) (sw_true rfl rfl rfl (by decide +kernel))) (pfss_cons (pfs_if (pft_cmp (op_eqD (hu64 hr)) os_eq (pf_len T.b_len (pfa_cons (pf_v 11) pfa_nil)) pf_int (nomark _)) (pfss_one pfs_break) pfss_nil) (pfss_cons (pfs_set 6 sc_law.nd (pf_call d_law_chosen (hr.mono (by decide)) (pfa_cons (pf_v 1) (pfa_cons (pf_v 11) (pfa_cons (pf_v 6) (pfa_cons (pf_v 4) pfa_nil)))))) (pfss_cons (pfs_for PassesOwn.never rfl (pfi_seq (pf_v 10)) (pfg_n 12 sc_law.nd) (pfss_one (pfs_if (pft_not (pft_val (pf_call d_law_same (hr.mono (by decide)) (pfa_cons (pf_call d_next_step (hr.mono (by decide)) (pfa_cons (pf_v 2) (pfa_cons (pf_v 3) (pfa_cons (pf_v 12) pfa_nil)))) (pfa_cons (pf_call d_law_next (hr.mono (by decide)) (pfa_cons (pf_v 8) (pfa_cons (pf_v 9) (pfa_cons (pf_v 3) (pfa_cons (pf_v 12) pfa_nil))))) pfa_nil))))) (pfss_one (pfs_ret pf_bl)) pfss_nil))) (pfss_cons (pfs_set 13 sc_law.nd (pf_call d_law_stepped (hr.mono (by decide)) (pfa_cons (pf_v 8) (pfa_cons (pf_v 9) (pfa_cons (pf_v 3) (pfa_cons (pf_v 6) pfa_nil)))))) (pfss_cons (pfs_set 14 sc_law.nd (pf_repr hgd (hu66 hr) T.b_repr (pfa_cons (pf_v 3) pfa_nil))) (pfss_cons (pfs_if (pft_w (pfw_or (pft_not (pft_val (pf_call d_law_same (hr.mono (by decide)) (pfa_cons (pf_call d_step (hr.mono (by decide)) (pfa_cons (pf_v 2) (pfa_cons (pf_v 3) (pfa_cons (pf_v 6) pfa_nil)))) (pfa_cons (pf_v 13) pfa_nil))))) (pfw_or1 (pft_cmp (op_neD (hu64 hr)) os_ne (pf_repr hgd (hu66 hr) T.b_repr (pfa_cons (pf_v 3) pfa_nil)) (pf_v 14) (nomark _))))) (pfss_one (pfs_ret pf_bl)) pfss_nil) (pfss_one (pfs_set 3 sc_law.nd (pf_v 13))))))))))))) (pfss_one (pfs_ret (pf_call d_law_same (hr.mono (by decide)) (pfa_cons (pf_tup (pfa_cons (pf_fld (fun C h => ⟨(T.play C h).cl, T.play_kind C h⟩) (pf_v 2)) (pfa_cons (pf_fld (fun C h => ⟨(T.play C h).cl, T.play_inputs C h⟩) (pf_v 2)) pfa_nil))) (pfa_cons (pf_tup (pfa_cons (pf_v 8) (pfa_cons (pf_v 9) pfa_nil))) pfa_nil)))))))))))))
end Kk02
set_option Elab.async false
set_option linter.all false
set_option maxRecDepth 100000
set_option maxHeartbeats 4000000
namespace Kk02
open PySem L2 FD
theorem fmod_lt {a b : Int} (h : 0 < b) : 0 ≤ a.fmod b ∧ a.fmod b < b := by
  rw [Int.fmod_eq_emod_of_nonneg a (by omega)]
  exact ⟨Int.emod_nonneg a (by omega), Int.emod_lt_of_pos a h⟩
theorem take_ok {g : Gh} {m : Int} (hg : HOK g) (h0 : 0 < m) (h1 : m < 1073741824) : Sat (f_law_take [.hnd, .int m] g) fun d g' => ∃ v, d = .int v ∧ 0 ≤ v ∧ v < m ∧ HOK g' := by
  have hm : m ≠ 0 := by omega
  have hm2 : m.natAbs < 1073741824 := by omega
  have big : powD (.int 10) (.int 18) = some (.int 1000000000000000000) := by
    show (if (0:Int) ≤ 18 ∧ (18:Int) ≤ 1000000 ∧ (10:Int).natAbs < 2 ^ 64 then some (D.int ((10:Int) ^ (18:Int).toNat)) else none) = _
    rw [if_pos (by decide)]
    rfl
  have m1 : ∀ a : Int, modD (.int a) (.int m) = some (.int (a.fmod m)) := fun a => modD_int hm
  have m2 : ∀ a : Int, modD (.int a) (.int 2147483647) = some (.int (a.fmod 2147483647)) := fun a => modD_int (by decide)
  have m3 : ∀ a : Int, modD (.int a) (.int 2147483399) = some (.int (a.fmod 2147483399)) := fun a => modD_int (by decide)
  have d1 : ∀ a : Int, divD (.int a) (.int m) = some (.int (a.fdiv m)) := fun a => divD_int hm hm2
  have d2 : ∀ a : Int, divD (.int a) (.int 1009) = some (.int (a.fdiv 1009)) := fun a => divD_int (by decide) (by decide)
  have d3 : ∀ a : Int, divD (.int a) (.int 2003) = some (.int (a.fdiv 2003)) := fun a => divD_int (by decide) (by decide)
  have d4 : ∀ a : Int, divD (.int a) (.int 16) = some (.int (a.fdiv 16)) := fun a => divD_int (by decide) (by decide)
  have u1 : ∀ a : Int, mulD (.int a) (.int 48271) = some (.int (a * 48271)) := fun a => mulD_int (.inr (by decide))
  have u2 : ∀ a : Int, mulD (.int a) (.int 69621) = some (.int (a * 69621)) := fun a => mulD_int (.inr (by decide))
  have u3 : ∀ a : Int, mulD (.int 7919) (.int a) = some (.int (7919 * a)) := fun a => mulD_int (.inl (by decide))
  have u4 : ∀ a b : Int, 0 ≤ a → a < 2147483647 → mulD (.int a) (.int b) = some (.int (a * b)) := fun a b h1 h2 => mulD_int (.inl ⟨by omega, by omega⟩)
  obtain ⟨xs, i, c, r, n⟩ := g
  obtain ⟨i0, r0, r1⟩ := hg
  simp only at i0 r0 r1
  have key : Sat (b_law_take [.dt .hnd, .dt (.int m), .un, .un, .un] ⟨xs, i, c, r, n⟩) fun f g' => ∃ v, f = .rt (.int v) ∧ 0 ≤ v ∧ v < m ∧ HOK g' := by
    unfold b_law_take
    refine Sat.seq (P := fun f g => f = .nx [.dt .hnd, .dt (.int m), .un, .un, .un] ∧ g = ⟨xs, i, c, r, n + 1⟩) ?_ ?_
    · simp [handD, handPut]
      exact Sat.ok ⟨rfl, rfl⟩
    rintro f g1 ⟨rfl, rfl⟩
    refine .inl ⟨_, rfl, ?_⟩
    refine Sat.seq (P := fun f g => (∃ x, f = .nx [.dt .hnd, .dt (.int m), .un, x, .un]) ∧ HOK g) ?_ ?_
    · by_cases hc : c = 0
      · by_cases hi : i < (xs.length : Int)
        · have hx : ∃ z, (xs.map D.int)[i.toNat]? = some (.int z) := by
            have : i.toNat < xs.length := by omega
            exact ⟨xs[i.toNat], by simp [this]⟩
          obtain ⟨z, hz⟩ := hx
          simp [handD, hc, hi, sSeq, ixD_lst i0, hz, handPut, big]
          by_cases hb : (1000000000000000000 : Int) ≤ z
          · simp [hb]
            exact Sat.ok ⟨⟨_, rfl⟩, by simp only; omega, r0, r1⟩
          · have w := fmod_lt (a := r * 48271 + z.fmod 2147483647 + 1) (b := 2147483647) (by decide)
            simp [hb, u1, m2]
            exact Sat.ok ⟨⟨_, rfl⟩, by simp only; omega, w.1, w.2⟩
        · simp [handD, hc, hi]
          exact Sat.ok ⟨⟨_, rfl⟩, i0, r0, r1⟩
      · simp [handD, hc]
        exact Sat.ok ⟨⟨_, rfl⟩, i0, r0, r1⟩
    rintro f ⟨xs', i', c', r', n'⟩ ⟨⟨x, rfl⟩, i0', r0', r1'⟩
    simp only at i0' r0' r1'
    refine .inl ⟨_, rfl, ?_⟩
    by_cases hc : 0 < c'
    · have w := fmod_lt (a := c') h0
      simp [handD, hc, sSeq, m1, d1, handPut]
      exact Sat.ok ⟨_, rfl, w.1, w.2, i0', r0', r1'⟩
    · have w := fmod_lt (a := r' * 69621 + 7919 * n') (b := 2147483647) (by decide)
      generalize hr : (r' * 69621 + 7919 * n').fmod 2147483647 = r2 at w
      have w2 := fmod_lt (a := r2 * (r2.fdiv 1009 + 69621)) (b := 2147483647) (by decide)
      have z1 := u4 r2 (r2.fdiv 1009 + 69621) w.1 w.2
      generalize hr2 : (r2 * (r2.fdiv 1009 + 69621)).fmod 2147483647 = r3 at w2
      have z2 := u4 r3 (r3.fdiv 2003 + 40692) w2.1 w2.2
      generalize hr3 : (r3 * (r3.fdiv 2003 + 40692)).fmod 2147483399 = r4
      have w4 := fmod_lt (a := r4.fdiv 16) h0
      simp [handD, hc, sSeq, u2, u3, m2, m3, d2, d3, d4, m1, handPut, hr, z1, hr2, z2, hr3]
      exact Sat.ok ⟨_, rfl, w4.1, w4.2, i0', w.1, w.2⟩
  obtain ⟨f, g', e, v, rfl, hv⟩ := key
  refine ⟨.int v, g', ?_, v, rfl, hv⟩
  show noX (fnOf 5 b_law_take [.hnd, .int m] _) = _
  unfold fnOf
  rw [show ([D.hnd, .int m].map En.dt ++ List.replicate (5 - [D.hnd, .int m].length) En.un) = [.dt .hnd, .dt (.int m), .un, .un, .un] from rfl, e]
  rfl
mutual
def fine : D → Bool
  | .non => true
  | .bl _ => true
  | .int _ => true
  | .str z => okStr z
  | .tup xs => decide (xs.length ≤ 500) && fines xs
  | .lst xs => decide (xs.length ≤ 500) && fines xs
  | .emp => true
  | .obj c _ _ => c == "Play"
  | .hnd => false
  | .rng _ _ => false
def fines : List D → Bool
  | [] => true
  | d :: ds => fine d && fines ds
end
theorem fines_mem {ds : List D} : fines ds = true ↔ ∀ d ∈ ds, fine d = true := by
  induction ds with
  | nil => simp [fines]
  | cons d ds ih => simp [fines, ih]
theorem fine_tup {xs : List D} : fine (.tup xs) = true ↔ xs.length ≤ 500 ∧ ∀ d ∈ xs, fine d = true := by simp [fine, fines_mem]
theorem fine_lst {xs : List D} : fine (.lst xs) = true ↔ xs.length ≤ 500 ∧ ∀ d ∈ xs, fine d = true := by simp [fine, fines_mem]
def isInt : D → Bool
  | .int _ => true
  | _ => false
theorem is_whole_eq {d : D} (h : fine d = true) (g : Gh) : f_is_whole [d] g = some (.ok (.bl (isInt d)) g) := by
  cases d <;> simp_all [f_is_whole, b_is_whole, fnOf, isTyD, isTyB, isInt, fine]
theorem law_is_integer_eq {d : D} (h : fine d = true) (g : Gh) : f_law_is_integer [d] g = some (.ok (.bl (isInt d)) g) := by
  cases d <;> simp_all [f_law_is_integer, b_law_is_integer, fnOf, isTyD, isTyB, isInt, fine]
def inR (a b : Int) : D → Bool
  | .int i => decide (a ≤ i) && decide (i ≤ b)
  | _ => false
theorem is_whole_within_eq (a b : Int) {d : D} (h : fine d = true) (g : Gh) : f_is_whole_within [.int a, .int b, d] g = some (.ok (.bl (inR a b d)) g) := by
  have := is_whole_eq h g
  simp [f_is_whole_within, b_is_whole_within, fnOf, this]
  cases d <;> simp [isInt, inR]
  rename_i i
  by_cases h1 : a ≤ i <;> simp [h1]
theorem is_number_below_eq (l : Int) {d : D} (h : fine d = true) (g : Gh) : f_is_number_below [.int l, d] g = some (.ok (.bl (inR 0 (l - 1) d)) g) := by
  simp [f_is_number_below, b_is_number_below, fnOf, is_whole_within_eq 0 (l - 1) h g]
def isW (ws : List Str) : D → Bool
  | .str z => ws.contains z
  | _ => false
theorem inV_strs (z : Str) : ∀ ws : List Str, inV (.str z) (ws.map V.str) = ws.contains z
  | [] => rfl
  | w :: ws => by
    have ih := inV_strs z ws
    simp only [inV] at ih
    simp only [List.map_cons, inV, List.any_cons, ih, List.contains_cons, eqV]
    congr 1
    exact Bool.beq_comm
theorem inD_strs (z : Str) (ws : List Str) : inD (.str z) (.tup (ws.map .str)) = some (.bl (ws.contains z)) := by
  have h1 : (ws.map D.str).all flatD = true := by simp [flatD]
  have h2 : (ws.map D.str).map toV = ws.map V.str := by simp [toV]
  simp [inD, inB, flatD, h1, h2, inV_strs, toV]
theorem inD_strsL (z : Str) (ws : List Str) : inD (.str z) (.lst (ws.map .str)) = some (.bl (ws.contains z)) := by
  have h1 : (ws.map D.str).all flatD = true := by simp [flatD]
  have h2 : (ws.map D.str).map toV = ws.map V.str := by simp [toV]
  simp [inD, inB, flatD, h1, h2, inV_strs, toV]
theorem notInD_strsL (z : Str) (ws : List Str) : notInD (.str z) (.lst (ws.map .str)) = some (.bl (!ws.contains z)) := by
  have h1 : (ws.map D.str).all flatD = true := by simp [flatD]
  have h2 : (ws.map D.str).map toV = ws.map V.str := by simp [toV]
  simp [notInD, inB, flatD, h1, h2, inV_strs, toV]
theorem is_word_of_eq (ws : List Str) {d : D} (h : fine d = true) (g : Gh) : f_is_word_of [.tup (ws.map .str), d] g = some (.ok (.bl (isW ws d)) g) := by
  cases d <;> simp_all [f_is_word_of, b_is_word_of, fnOf, isTyD, isTyB, isW, fine, inD_strs]
def deedB : D → Bool
  | .tup [x] => isW ["see"] x
  | .tup [x, y] => isW ["put"] x && inR 0 999 y
  | _ => false
theorem is_word_one (w : Str) {d : D} (h : fine d = true) (g : Gh) : f_is_word_of [.tup [.str w], d] g = some (.ok (.bl (isW [w] d)) g) := is_word_of_eq [w] h g
theorem is_deed_eq {d : D} (h : fine d = true) (g : Gh) : f_is_deed [d] g = some (.ok (.bl (deedB d)) g) := by
  cases d with
  | tup xs =>
    obtain ⟨hl, hm⟩ := fine_tup.mp h
    match xs, hl, hm with
    | [], _, _ => simp [f_is_deed, b_is_deed, fnOf, isTyD, isTyB, sSeq, deedB]
    | [x], _, hm =>
      have hx := hm x (by simp)
      simp [f_is_deed, b_is_deed, fnOf, isTyD, isTyB, sSeq, deedB, ixD_tup, is_word_one, hx]
    | [x, y], _, hm =>
      have hx := hm x (by simp)
      have hy := hm y (by simp)
      have hb := is_number_below_eq 1000 hy g
      simp [f_is_deed, b_is_deed, fnOf, isTyD, isTyB, sSeq, deedB, ixD_tup, is_word_one, hx, hb, k_NUMBER_LIMIT]
      cases isW [Str.ofString "put"] x <;> simp
    | x :: y :: z :: r, hl, _ =>
      have e1 : ((r.length : Int) + 1 + 1 + 1 == 1) = false := by simp; omega
      have e2 : ((r.length : Int) + 1 + 1 + 1 == 2) = false := by simp; omega
      simp [f_is_deed, b_is_deed, fnOf, isTyD, isTyB, sSeq, deedB, e1, e2]
  | hnd => simp [fine] at h
  | rng => simp [fine] at h
  | obj c ks ds => simp_all [f_is_deed, b_is_deed, fnOf, isTyD, isTyB, sSeq, deedB, fine]
  | _ => simp [f_is_deed, b_is_deed, fnOf, isTyD, isTyB, sSeq, deedB]
theorem okS {z : Str} (h : z.cps.all (· < 0x110000) = true) : okStr z = true := by
  unfold okStr
  simpa [PyData.canLay0, PyData.strOk] using h
def scriptB : D → Bool
  | .tup xs => decide (xs.length ≤ 6) && xs.all deedB
  | _ => false
theorem is_script_eq {d : D} (h : fine d = true) (g : Gh) : f_is_script [d] g = some (.ok (.bl (scriptB d)) g) := by
  cases d with
  | tup xs =>
    obtain ⟨hl, hm⟩ := fine_tup.mp h
    have hc : compD (gN 1) tY (cFn 1 f_is_deed (cC (cV 1) cN)) xs (blkE [.dt (.tup xs), .un] [1]) g = some (.ok (xs.map fun d => .bl (deedB d)) g) := by
      refine compD_map fun d hd => ⟨_, rfl, ?_⟩
      have := is_deed_eq (hm d hd) g
      simp [blkE, wipeE, hideE, this]
    by_cases h6 : xs.length ≤ 6
    · have e1 : ¬ (6 : Int) < xs.length := by omega
      have e2 : xs.length ≤ 1000 := by omega
      simp [f_is_script, b_is_script, fnOf, isTyD, isTyB, sSeq, scriptB, k_MOST_DEEDS, e1, hc, h6, e2, allD_map]
    · have e1 : (6 : Int) < xs.length := by omega
      simp [f_is_script, b_is_script, fnOf, isTyD, isTyB, sSeq, scriptB, k_MOST_DEEDS, e1, h6]
  | hnd => simp [fine] at h
  | rng => simp [fine] at h
  | obj c ks ds => simp_all [f_is_script, b_is_script, fnOf, isTyD, isTyB, sSeq, scriptB, fine]
  | _ => simp [f_is_script, b_is_script, fnOf, isTyD, isTyB, sSeq, scriptB]
def rowB : D → Bool
  | .tup xs => decide (1 ≤ xs.length) && decide (xs.length ≤ 5)
  | _ => false
theorem is_row_eq {d : D} (h : fine d = true) (g : Gh) : f_is_row_of_hands [d] g = some (.ok (.bl (rowB d)) g) := by
  cases d with
  | tup xs =>
    by_cases h1 : 1 ≤ xs.length
    · have e1 : (1 : Int) ≤ xs.length := by omega
      have e2 : (decide ((xs.length : Int) ≤ 5)) = decide (xs.length ≤ 5) := by
        by_cases h5 : xs.length ≤ 5
        · rw [decide_eq_true h5, decide_eq_true (by omega)]
        · rw [decide_eq_false h5, decide_eq_false (by omega)]
      simp [f_is_row_of_hands, b_is_row_of_hands, fnOf, isTyD, isTyB, rowB, k_MOST_HANDS, e1, h1, e2]
    · have e1 : ¬ (1 : Int) ≤ xs.length := by omega
      simp [f_is_row_of_hands, b_is_row_of_hands, fnOf, isTyD, isTyB, rowB, k_MOST_HANDS, e1, h1]
  | hnd => simp [fine] at h
  | rng => simp [fine] at h
  | obj c ks ds =>
    have hc : c = "Play" := by simpa [fine] using h
    subst hc
    simp [f_is_row_of_hands, b_is_row_of_hands, fnOf, isTyD, isTyB, rowB]
  | _ => simp [f_is_row_of_hands, b_is_row_of_hands, fnOf, isTyD, isTyB, rowB]
abbrev MAN : List Str := ["sweep", "twice", "borrow"]
abbrev KIN : List Str := ["sweep", "twice", "borrow", "levels", "names", "near", "chain"]
theorem kMAN : k_MANNERS = .tup (MAN.map .str) := rfl
theorem kKIN : k_KINDS = .tup (KIN.map .str) := rfl
theorem ok7 : ∀ k ∈ KIN, okStr k = true := by
  intro k hk
  simp only [List.mem_cons, List.not_mem_nil, or_false] at hk
  rcases hk with rfl | rfl | rfl | rfl | rfl | rfl | rfl <;> exact okS (by decide +kernel)
theorem okW {z : Str} (h : z ∈ KIN) (w : Str) (hw : okStr w = true) : eqD (.str z) (.str w) = some (.bl (z == w)) := eqD_str (ok7 z h) hw
def plain : Nat → D → Bool
  | 0, _ => false
  | _ + 1, .non => true
  | _ + 1, .bl _ => true
  | _ + 1, .int _ => true
  | _ + 1, .str z => okStr z
  | n + 1, .tup xs => decide (xs.length ≤ 500) && xs.all (plain n)
  | _ + 1, _ => false
theorem plain_tup {n : Nat} {xs : List D} : plain (n + 1) (.tup xs) = true ↔ xs.length ≤ 500 ∧ ∀ d ∈ xs, plain n d = true := by
  simp [plain]
theorem plain_mono {n : Nat} : ∀ {d : D}, plain n d = true → plain (n + 1) d = true := by
  induction n with
  | zero => intro d h; simp [plain] at h
  | succ n ih =>
    intro d h
    cases d with
    | tup xs =>
      rw [plain_tup] at h ⊢
      exact ⟨h.1, fun d hd => ih (h.2 d hd)⟩
    | _ => simpa [plain] using h
def pyOk (n : Nat) (d : D) : Prop := ∃ p, d.py = some p ∧ p.canLay0 = true ∧ p.depth ≤ n ∧ PyData.eqv p p = true
def pysOk (n : Nat) (ds : List D) : Prop := ∃ ps, D.pys ds = some ps ∧ PyData.canLayAll0 ps = true ∧ PyData.depthAll ps ≤ n ∧ PyData.eqvAll ps ps = true
theorem pysOk_of {n : Nat} : ∀ {ds : List D}, (∀ d ∈ ds, pyOk n d) → pysOk n ds
  | [], _ => ⟨[], rfl, rfl, Nat.zero_le _, rfl⟩
  | d :: ds, h => by
    obtain ⟨p, h1, h2, h3, h4⟩ := h d (by simp)
    obtain ⟨ps, e1, e2, e3, e4⟩ := pysOk_of (ds := ds) fun d hd => h d (by simp [hd])
    refine ⟨p :: ps, by simp [D.pys, h1, e1], by simp [PyData.canLayAll0, h2, e2], ?_, by simp [PyData.eqvAll, h4, e4]⟩
    simp only [PyData.depthAll]
    omega
theorem plain_py {n : Nat} : ∀ {d : D}, plain n d = true → pyOk n d := by
  induction n with
  | zero => intro d h; simp [plain] at h
  | succ n ih =>
    intro d h
    cases d with
    | non => exact ⟨_, rfl, rfl, by simp [PyData.depth], rfl⟩
    | bl b => exact ⟨_, rfl, rfl, by simp [PyData.depth], by simp [PyData.eqv]⟩
    | int i => exact ⟨_, rfl, rfl, by simp [PyData.depth], by simp [PyData.eqv]⟩
    | str z => exact ⟨_, rfl, h, by simp [PyData.depth], by simp [PyData.eqv]⟩
    | tup xs =>
      obtain ⟨ps, e1, e2, e3, e4⟩ := pysOk_of (ds := xs) fun d hd => ih ((plain_tup.mp h).2 d hd)
      refine ⟨.tuple ps, by simp [D.py, e1], by simp [PyData.canLay0, e2], ?_, by simp [PyData.eqv, e4]⟩
      simp only [PyData.depth]
      omega
    | _ => simp [plain] at h
theorem plain_fine {n : Nat} : ∀ {d : D}, plain n d = true → fine d = true := by
  induction n with
  | zero => intro d h; simp [plain] at h
  | succ n ih =>
    intro d h
    cases d with
    | tup xs =>
      rw [plain_tup] at h
      rw [fine_tup]
      exact ⟨h.1, fun d hd => ih (h.2 d hd)⟩
    | str z => exact h
    | lst z => simp [plain] at h
    | obj z => simp [plain] at h
    | hnd => simp [plain] at h
    | rng => simp [plain] at h
    | _ => rfl
def eqP (a b : D) : Bool := match a.py, b.py with
  | some p, some q => PyData.eqv p q
  | _, _ => false
theorem shaped_of {p : PyData} {n : Nat} (h : p.canLay0 = true) (hd : p.depth ≤ n) (hn : n ≤ 64) : SeqAt.shaped p = true := by
  unfold SeqAt.shaped
  rw [h, decide_eq_true (by omega)]; rfl
theorem eqB_plain {n m : Nat} {a b : D} (ha : plain n a = true) (hb : plain m b = true) (hn : n ≤ 64) (hm : m ≤ 64) : eqB a b = some (eqP a b) := by
  obtain ⟨p, h1, h2, h3, h4⟩ := plain_py ha
  obtain ⟨q, e1, e2, e3, e4⟩ := plain_py hb
  simp only [eqB, eqP, h1, e1]
  exact if_pos ⟨shaped_of h2 h3 hn, shaped_of e2 e3 hm⟩
theorem eqD_plain {n m : Nat} {a b : D} (ha : plain n a = true) (hb : plain m b = true) (hn : n ≤ 64) (hm : m ≤ 64) : eqD a b = some (.bl (eqP a b)) := by
  unfold eqD; rw [eqB_plain ha hb hn hm]; rfl
theorem eqP_refl {n : Nat} {a : D} (ha : plain n a = true) : eqP a a = true := by
  obtain ⟨p, h1, h2, h3, h4⟩ := plain_py ha
  simp [eqP, h1, h4]
theorem eqP_pair {n m : Nat} {a b c d : D} (ha : plain n a = true) (hb : plain n b = true) (hc : plain m c = true) (hd : plain m d = true) : eqP (.tup [a, b]) (.tup [c, d]) = (eqP a c && eqP b d) := by
  obtain ⟨p, h1, _⟩ := plain_py ha
  obtain ⟨q, h2, _⟩ := plain_py hb
  obtain ⟨r, h3, _⟩ := plain_py hc
  obtain ⟨s, h4, _⟩ := plain_py hd
  simp [eqP, D.py, D.pys, h1, h2, h3, h4, PyData.eqv, PyData.eqvAll]
theorem zip_self (xs : List D) : ((xs.zip xs).map fun p => D.tup [p.1, p.2]) = xs.map fun x => D.tup [x, x] := by
  induction xs with
  | nil => rfl
  | cons x xs ih => simp [ih]
abbrev sameBody (F : List D → Gh → M D) : FS := (sIf (cNot (cT (cFn 2 F (cC (cV 2) (cC (cV 3) cN))))) (sRet (cD (.bl false))) sNx)
theorem same_loop {F : List D → Gh → M D} {g : Gh} {d : En} : ∀ (xs : List D) (a b : En), (∀ x ∈ xs, F [x, x] g = some (.ok (.bl true) g)) → ∃ a' b', loopD (gT 2 (gsC (gN 2) (gsC (gN 3) gsN))) (sameBody F) (xs.map fun x => D.tup [x, x]) [d, d, a, b] g = some (.ok (.nx [d, d, a', b']) g)
  | [], a, b, _ => ⟨a, b, rfl⟩
  | x :: xs, a, b, h => by
    obtain ⟨a', b', e⟩ := same_loop (g := g) (d := d) xs (.dt x) (.dt x) fun y hy => h y (by simp [hy])
    refine ⟨a', b', ?_⟩
    have hx := h x (by simp)
    rw [← e]
    simp [loopD, hx]
theorem same_refl {n : Nat} : ∀ {d : D}, plain n d = true → ∀ g, f_law_same_at n [d, d] g = some (.ok (.bl true) g) := by
  induction n with
  | zero => intro d h; simp [plain] at h
  | succ n ih =>
    intro d h g
    cases d with
    | non => simp [f_law_same_at, b_law_same, fnOf, sSeq, isNonB]
    | bl b => cases b <;> simp [f_law_same_at, b_law_same, fnOf, sSeq, isNonB, isBlB]
    | int i =>
      have hi := law_is_integer_eq (d := .int i) rfl g
      simp [f_law_same_at, b_law_same, fnOf, sSeq, isNonB, isBlB, isTyD, isTyB, hi, isInt]
    | str z =>
      have hz : okStr z = true := h
      have he := eqD_str hz hz
      simp [f_law_same_at, b_law_same, fnOf, sSeq, isNonB, isBlB, isTyD, isTyB, he]
    | tup xs =>
      obtain ⟨hl, hm⟩ := plain_tup.mp h
      obtain ⟨a', b', e⟩ := same_loop (F := f_law_same_at n) (g := g) (d := .dt (.tup xs)) xs .un .un fun x hx => ih (hm x hx) g
      have hz : iZ (cC (cV 0) (cC (cV 1) cN)) [.dt (.tup xs), .dt (.tup xs), .un, .un] g = some (.ok (xs.map fun x => D.tup [x, x]) g) := by
        rw [← zip_self]; rfl
      have hf : sFor (iZ (cC (cV 0) (cC (cV 1) cN))) (gT 2 (gsC (gN 2) (gsC (gN 3) gsN))) (sameBody (f_law_same_at n)) [.dt (.tup xs), .dt (.tup xs), .un, .un] g = some (.ok (.nx [.dt (.tup xs), .dt (.tup xs), a', b']) g) := by
        unfold sFor
        rw [hz]
        exact e
      have key : b_law_same (f_law_same_at n) [.dt (.tup xs), .dt (.tup xs), .un, .un] g = some (.ok (.rt (.bl true)) g) := by
        unfold b_law_same
        refine (sSeq_nx (ρ1 := [.dt (.tup xs), .dt (.tup xs), .un, .un]) (g1 := g) (by simp [isNonB])).trans ?_
        refine (sSeq_nx (ρ1 := [.dt (.tup xs), .dt (.tup xs), .un, .un]) (g1 := g) (by simp [isBlB])).trans ?_
        refine (sSeq_nx (ρ1 := [.dt (.tup xs), .dt (.tup xs), .un, .un]) (g1 := g) (by simp [isBlB])).trans ?_
        refine (sSeq_nx (ρ1 := [.dt (.tup xs), .dt (.tup xs), .un, .un]) (g1 := g) (by simp [isTyD, isTyB])).trans ?_
        refine (sSeq_nx (ρ1 := [.dt (.tup xs), .dt (.tup xs), .un, .un]) (g1 := g) (by simp [isTyD, isTyB])).trans ?_
        refine (sSeq_nx (ρ1 := [.dt (.tup xs), .dt (.tup xs), .un, .un]) (g1 := g) (by simp [isTyD, isTyB])).trans ?_
        refine (sSeq_nx (ρ1 := [.dt (.tup xs), .dt (.tup xs), .un, .un]) (g1 := g) (by simp)).trans ?_
        exact (sSeq_nx hf).trans (by simp)
      show noX (fnOf 4 (b_law_same (f_law_same_at n)) [.tup xs, .tup xs] g) = _
      unfold fnOf
      rw [show ([D.tup xs, .tup xs].map En.dt ++ List.replicate (4 - [D.tup xs, .tup xs].length) En.un) = [.dt (.tup xs), .dt (.tup xs), .un, .un] from rfl, key]
      rfl
    | _ => simp [plain] at h
theorem plain_le {n : Nat} {d : D} : ∀ (k : Nat), plain n d = true → plain (n + k) d = true
  | 0, h => h
  | k + 1, h => plain_mono (plain_le k h)
theorem law_same_refl {n : Nat} {d : D} (hn : n ≤ 45) (h : plain n d = true) (g : Gh) : f_law_same [d, d] g = some (.ok (.bl true) g) := by
  have e : f_law_same = f_law_same_at 45 := rfl
  rw [e]
  exact same_refl (n := 45) (by have := plain_le (45 - n) h; rwa [show n + (45 - n) = 45 by omega] at this) g
def thePlay (k d : D) : D := .obj "Play" ["kind", "inputs"] [k, d]
end Kk02
set_option Elab.async false
set_option linter.all false
set_option maxRecDepth 100000
set_option maxHeartbeats 4000000
namespace Kk02
open PySem L2 FD
def TM {α : Type} (m : Gh → M α) (P : α → Prop) : Prop := ∀ g, HOK g → Sat (m g) (fun d g' => P d ∧ HOK g')
theorem TM.imp {α : Type} {m : Gh → M α} {P Q : α → Prop} (h : TM m P) (k : ∀ a, P a → Q a) : TM m Q := fun g hg => (h g hg).imp fun a _ p => ⟨k a p.1, p.2⟩
theorem TM.bd {α β : Type} {m : Gh → M α} {k : α → Gh → M β} {P : α → Prop} {Q : β → Prop} (h : TM m P) (hk : ∀ a, P a → TM (k a) Q) : TM (fun g => (m g).bd k) Q := fun g hg => Sat.bd (h g hg) fun a g1 p => hk a p.1 g1 p.2
theorem TM.pure {α : Type} {a : α} {P : α → Prop} (h : P a) : TM (fun g => some (.ok a g)) P := fun g hg => .ok ⟨h, hg⟩
theorem TM.of {α : Type} {m : Gh → M α} {a : α} {P : α → Prop} (h : P a) (e : ∀ g, m g = some (.ok a g)) : TM m P := fun g hg => ⟨a, g, e g, h, hg⟩
theorem te_d {ρ : List En} {d : D} {P : D → Prop} (h : P d) : TM (cD d ρ) P := TM.pure h
theorem te_v {ρ : List En} {i : Nat} {d : D} {P : D → Prop} (e : ρ[i]? = some (.dt d)) (h : P d) : TM (cV i ρ) P := by
  refine TM.of h fun g => ?_
  simp only [cV, e]
theorem ta_n {ρ : List En} {P : List D → Prop} (h : P []) : TM (cN ρ) P := TM.pure h
theorem ta_c {ρ : List En} {a : FE} {b : FA} {P : D → Prop} {R : List D → Prop} {Q : List D → Prop} (ha : TM (a ρ) P) (hb : TM (b ρ) R) (h : ∀ x xs, P x → R xs → Q (x :: xs)) : TM (cC a b ρ) Q := by
  show TM (fun g => (a ρ g).bd _) Q
  refine TM.bd ha fun x hx => ?_
  refine TM.bd hb fun xs hxs => ?_
  exact TM.pure (h x xs hx hxs)
def Each (Ps : List (D → Prop)) (xs : List D) : Prop := xs.length = Ps.length ∧ ∀ p ∈ Ps.zip xs, p.1 p.2
theorem each_n {ρ : List En} : TM (cN ρ) (fun xs => xs = []) := ta_n rfl
theorem te_tup {ρ : List En} {a : FA} {R : List D → Prop} {P : D → Prop} (ha : TM (a ρ) R) (h : ∀ xs, R xs → xs.length ≤ 1000 ∧ P (.tup xs)) : TM (cTup a ρ) P := by
  show TM (fun g => (a ρ g).bd _) P
  refine TM.bd ha fun xs hx => ?_
  refine TM.of (h xs hx).2 fun g => ?_
  exact if_pos (h xs hx).1
theorem te_lst {ρ : List En} {a : FA} {R : List D → Prop} {P : D → Prop} (ha : TM (a ρ) R) (h : ∀ xs, R xs → xs.length ≤ 1000 ∧ P (.lst xs)) : TM (cLst a ρ) P := by
  show TM (fun g => (a ρ g).bd _) P
  refine TM.bd ha fun xs hx => ?_
  refine TM.of (h xs hx).2 fun g => ?_
  exact if_pos (h xs hx).1
theorem te_op {ρ : List En} {op : D → D → Option D} {a b : FE} {P R Q : D → Prop} (ha : TM (a ρ) P) (hb : TM (b ρ) R) (h : ∀ x y, P x → R y → ∃ z, op x y = some z ∧ Q z) : TM (cOp op a b ρ) Q := by
  show TM (fun g => (a ρ g).bd _) Q
  refine TM.bd ha fun x hx => TM.bd hb fun y hy => ?_
  obtain ⟨z, e, q⟩ := h x y hx hy
  refine TM.of q fun g => ?_
  rw [e]; rfl
theorem te_1 {ρ : List En} {op : D → Option D} {a : FE} {P Q : D → Prop} (ha : TM (a ρ) P) (h : ∀ x, P x → ∃ z, op x = some z ∧ Q z) : TM (c1 op a ρ) Q := by
  show TM (fun g => (a ρ g).bd _) Q
  refine TM.bd ha fun x hx => ?_
  obtain ⟨z, e, q⟩ := h x hx
  refine TM.of q fun g => ?_
  rw [e]; rfl
theorem te_call {ρ : List En} {op : List D → Option D} {a : FA} {R : List D → Prop} {Q : D → Prop} (ha : TM (a ρ) R) (h : ∀ x, R x → ∃ z, op x = some z ∧ Q z) : TM (cCall op a ρ) Q := by
  show TM (fun g => (a ρ g).bd _) Q
  refine TM.bd ha fun x hx => ?_
  obtain ⟨z, e, q⟩ := h x hx
  refine TM.of q fun g => ?_
  rw [e]; rfl
theorem te_fn {ρ : List En} {n : Nat} {Fn : List D → Gh → M D} {a : FA} {R : List D → Prop} {P : D → Prop} (ha : TM (a ρ) R) (h : ∀ xs, R xs → xs.length = n ∧ TM (Fn xs) P) : TM (cFn n Fn a ρ) P := by
  show TM (fun g => (a ρ g).bd _) P
  refine TM.bd ha fun xs hx => fun g hg => ?_
  obtain ⟨hl, hf⟩ := h xs hx
  obtain ⟨d, g', e, p⟩ := hf g hg
  refine ⟨d, g', ?_, p⟩
  show (if xs.length = n then noX (Fn xs g) else none) = _
  rw [if_pos hl, e]; rfl
theorem tt_t {ρ : List En} {a : FE} {P : D → Prop} {Q : Bool → Prop} (ha : TM (a ρ) P) (h : ∀ x, P x → ∃ b, toB x = some b ∧ Q b) : TM (cT a ρ) Q := by
  show TM (fun g => (a ρ g).bd _) Q
  refine TM.bd ha fun x hx => ?_
  obtain ⟨z, e, q⟩ := h x hx
  refine TM.of q fun g => ?_
  rw [e]; rfl
theorem tt_and {ρ : List En} {a b : FT} {P Q R : Bool → Prop} (ha : TM (a ρ) P) (hb : P true → TM (b ρ) R) (h1 : P false → Q false) (h2 : ∀ y, P true → R y → Q y) : TM (cAnd a b ρ) Q := by
  show TM (fun g => (a ρ g).bd _) Q
  refine TM.bd ha fun x hx => ?_
  cases x with
  | false => exact TM.of (h1 hx) fun g => rfl
  | true => exact (hb hx).imp fun y hy => h2 y hx hy
theorem ts_ret {ρ : List En} {a : FE} {P : D → Prop} {Q : Fl → Prop} (ha : TM (a ρ) P) (h : ∀ x, P x → Q (.rt x)) : TM (sRet a ρ) Q := by
  show TM (fun g => (a ρ g).bd _) Q
  exact TM.bd ha fun x hx => TM.pure (h x hx)
theorem ts_asg {ρ : List En} {a : FE} {gs : FG} {P : D → Prop} {Q : Fl → Prop} (ha : TM (a ρ) P) (h : ∀ x, P x → ∃ ρ1, gs x ρ = some ρ1 ∧ Q (.nx ρ1)) : TM (sAsg a gs ρ) Q := by
  show TM (fun g => (a ρ g).bd _) Q
  refine TM.bd ha fun x hx => ?_
  obtain ⟨ρ1, e, q⟩ := h x hx
  refine TM.of q fun g => ?_
  rw [e]
theorem ts_if {ρ : List En} {c : FT} {a b : FS} {P : Bool → Prop} {Q : Fl → Prop} (hc : TM (c ρ) P) (ha : P true → TM (a ρ) Q) (hb : P false → TM (b ρ) Q) : TM (sIf c a b ρ) Q := by
  show TM (fun g => (c ρ g).bd _) Q
  refine TM.bd hc fun x hx => ?_
  cases x with
  | true => exact ha hx
  | false => exact hb hx
theorem ts_seq {ρ : List En} {a b : FS} {Q : Fl → Prop} {I : List En → Prop} (ha : TM (a ρ) (fun f => ∃ ρ1, f = .nx ρ1 ∧ I ρ1)) (hb : ∀ ρ1, I ρ1 → TM (b ρ1) Q) : TM (sSeq a b ρ) Q := fun g hg => by
  obtain ⟨_, g1, e, ⟨ρ1, rfl, i⟩, hg1⟩ := ha g hg
  obtain ⟨f, g2, e2, q⟩ := hb ρ1 i g1 hg1
  exact ⟨f, g2, (sSeq_nx e).trans e2, q⟩
theorem ts_seq2 {ρ : List En} {a b : FS} {P : D → Prop} {I : List En → Prop} (ha : TM (a ρ) (fun f => (∃ ρ1, f = .nx ρ1 ∧ I ρ1) ∨ ∃ d, f = .rt d ∧ P d)) (hb : ∀ ρ1, I ρ1 → TM (b ρ1) (fun f => ∃ d, f = .rt d ∧ P d)) : TM (sSeq a b ρ) (fun f => ∃ d, f = .rt d ∧ P d) := fun g hg => by
  obtain ⟨f, g1, e, h, hg1⟩ := ha g hg
  rcases h with ⟨ρ1, rfl, i⟩ | ⟨d, rfl, p⟩
  · obtain ⟨f, g2, e2, q⟩ := hb ρ1 i g1 hg1
    exact ⟨f, g2, (sSeq_nx e).trans e2, q⟩
  · exact ⟨_, g1, sSeq_rt e, ⟨d, rfl, p⟩, hg1⟩
theorem ts_ifret {ρ : List En} {c : FT} {a b : FS} {B : Bool → Prop} {P : D → Prop} (hc : TM (c ρ) B) (ha : B true → TM (a ρ) (fun f => ∃ d, f = .rt d ∧ P d)) (hb : B false → TM (b ρ) (fun f => ∃ d, f = .rt d ∧ P d)) : TM (sSeq (sIf c a sNx) b ρ) (fun f => ∃ d, f = .rt d ∧ P d) := by
  refine ts_seq2 (I := fun ρ1 => ρ1 = ρ ∧ B false) (ts_if hc (fun h => (ha h).imp fun f q => .inr q) (fun h => TM.pure (.inl ⟨ρ, rfl, rfl, h⟩))) ?_
  rintro ρ1 ⟨rfl, h⟩
  exact hb h
theorem tf_fn {N : Nat} {b : FS} {ds : List D} {P : D → Prop} (h : TM (b (ds.map .dt ++ List.replicate (N - ds.length) .un)) (fun f => ∃ d, f = .rt d ∧ P d)) : TM (fun g => noX (fnOf N b ds g)) P := fun g hg => by
  obtain ⟨_, g1, e, ⟨d, rfl, p⟩, hg1⟩ := h g hg
  refine ⟨d, g1, ?_, p, hg1⟩
  show noX (fnOf N b ds g) = _
  unfold fnOf
  rw [e]; rfl
theorem t_take {m : Int} (h0 : 0 < m) (h1 : m < 1073741824) : TM (f_law_take [.hnd, .int m]) (fun d => ∃ v, d = .int v ∧ 0 ≤ v ∧ v < m) := fun g hg => by
  refine (take_ok hg h0 h1).imp ?_
  rintro d g' ⟨v, e, a, b, c⟩
  exact ⟨⟨v, e, a, b⟩, c⟩
def Fit : List (D → Prop) → List D → Prop
  | [], [] => True
  | p :: ps, x :: xs => p x ∧ Fit ps xs
  | _, _ => False
theorem fa_n {ρ : List En} : TM (cN ρ) (Fit []) := ta_n trivial
theorem fa_c {ρ : List En} {a : FE} {b : FA} {P : D → Prop} {Ps : List (D → Prop)} (ha : TM (a ρ) P) (hb : TM (b ρ) (Fit Ps)) : TM (cC a b ρ) (Fit (P :: Ps)) := ta_c ha hb fun x xs p q => ⟨p, q⟩
theorem fit1 {P : D → Prop} {xs : List D} (h : Fit [P] xs) : ∃ x, xs = [x] ∧ P x := by
  match xs, h with
  | [x], h => exact ⟨x, rfl, h.1⟩
theorem fit2 {P Q : D → Prop} {xs : List D} (h : Fit [P, Q] xs) : ∃ x y, xs = [x, y] ∧ P x ∧ Q y := by
  match xs, h with
  | [x, y], h => exact ⟨x, y, rfl, h.1, h.2.1⟩
theorem fit3 {P Q R : D → Prop} {xs : List D} (h : Fit [P, Q, R] xs) : ∃ x y z, xs = [x, y, z] ∧ P x ∧ Q y ∧ R z := by
  match xs, h with
  | [x, y, z], h => exact ⟨x, y, z, rfl, h.1, h.2.1, h.2.2.1⟩
def Menu (n : Nat) (P : D → Prop) (xs : List D) : Prop := xs.length = n ∧ ∀ x ∈ xs, P x
theorem me_n {ρ : List En} {P : D → Prop} : TM (cN ρ) (Menu 0 P) := ta_n ⟨rfl, fun x h => by simp at h⟩
theorem me_c {ρ : List En} {a : FE} {b : FA} {P : D → Prop} {n : Nat} (ha : TM (a ρ) P) (hb : TM (b ρ) (Menu n P)) : TM (cC a b ρ) (Menu (n + 1) P) := ta_c ha hb fun x xs p q => ⟨by simp [q.1], fun y hy => by
  rcases List.mem_cons.mp hy with rfl | h
  · exact p
  · exact q.2 y h⟩
theorem te_take {ρ : List En} {j : Nat} {e : FE} {m : Int} (he : TM (e ρ) (fun d => d = .int m)) (h0 : 0 < m) (h1 : m < 1073741824) (hj : ρ[j]? = some (.dt .hnd) := by rfl) : TM (cFn 2 f_law_take (cC (cV j) (cC e cN)) ρ) (fun d => ∃ v, d = .int v ∧ 0 ≤ v ∧ v < m) := by
  refine te_fn (fa_c (P := fun d => d = .hnd) (te_v hj rfl) (fa_c he fa_n)) fun xs h => ?_
  obtain ⟨x, y, rfl, rfl, rfl⟩ := fit2 h
  exact ⟨rfl, t_take h0 h1⟩
theorem te_takeK {ρ : List En} {j : Nat} {m : Int} (h0 : 0 < m := by decide) (h1 : m < 1073741824 := by decide) (hj : ρ[j]? = some (.dt .hnd) := by rfl) : TM (cFn 2 f_law_take (cC (cV j) (cC (cD (.int m)) cN)) ρ) (fun d => ∃ v, d = .int v ∧ 0 ≤ v ∧ v < m) := te_take (te_d rfl) h0 h1 hj
theorem t_pick {xs : List D} {n : Nat} {P : D → Prop} (h : Menu (n + 1) P xs) (hn : n ≤ 1000) : TM (f_law_pick [.hnd, .lst xs]) P := by
  refine tf_fn (N := 2) (ts_ret (P := P) (te_op (P := fun d => d = .lst xs) (te_v rfl rfl) (te_take (m := (n + 1 : Nat)) (te_call (fa_c (P := fun d => d = .lst xs) (te_v rfl rfl) fa_n) ?_) (by omega) (by omega)) ?_) fun x hx => ⟨x, rfl, hx⟩)
  · intro ys hy
    obtain ⟨y, rfl, rfl⟩ := fit1 hy
    exact ⟨_, rfl, by rw [h.1]⟩
  · rintro x y rfl ⟨v, rfl, h0, h1⟩
    have hv : v.toNat < xs.length := by rw [h.1]; omega
    refine ⟨xs[v.toNat], ?_, h.2 _ (List.getElem_mem hv)⟩
    rw [ixD_lst h0, List.getElem?_eq_getElem hv]
theorem te_pick {ρ : List En} {j n : Nat} {a : FA} {P : D → Prop} (ha : TM (a ρ) (Menu (n + 1) P)) (hn : n + 1 ≤ 1000 := by decide) (hj : ρ[j]? = some (.dt .hnd) := by rfl) : TM (cFn 2 f_law_pick (cC (cV j) (cC (cLst a) cN)) ρ) P := by
  refine te_fn (fa_c (P := fun d => d = .hnd) (te_v hj rfl) (fa_c (te_lst (P := fun d => ∃ xs, d = .lst xs ∧ Menu (n + 1) P xs) ha fun xs h => ⟨by rw [h.1]; exact hn, xs, rfl, h⟩) fa_n)) fun xs h => ?_
  obtain ⟨x, y, rfl, rfl, xs, rfl, hm⟩ := fit2 h
  exact ⟨rfl, t_pick hm (by omega)⟩
theorem te_pickV {ρ : List En} {j i n : Nat} {xs : List D} {P : D → Prop} (hi : ρ[i]? = some (.dt (.lst xs))) (hm : Menu (n + 1) P xs) (hn : n + 1 ≤ 1000 := by decide) (hj : ρ[j]? = some (.dt .hnd) := by rfl) : TM (cFn 2 f_law_pick (cC (cV j) (cC (cV i) cN)) ρ) P := by
  refine te_fn (fa_c (P := fun d => d = .hnd) (te_v hj rfl) (fa_c (P := fun d => d = .lst xs) (te_v hi rfl) fa_n)) fun ys h => ?_
  obtain ⟨x, y, rfl, rfl, rfl⟩ := fit2 h
  exact ⟨rfl, t_pick hm (by omega)⟩
theorem t_comp {gs : FG} {fe : FE} {ρ : List En} {P : D → Prop} : ∀ {ds : List D}, (∀ d ∈ ds, ∃ ρ1, gs d ρ = some ρ1 ∧ TM (fe ρ1) P) → TM (compD gs tY fe ds ρ) (fun ys => ys.length = ds.length ∧ ∀ y ∈ ys, P y)
  | [], _ => TM.pure ⟨rfl, fun y hy => by simp at hy⟩
  | d :: ds, h => fun g hg => by
    obtain ⟨ρ1, e1, h1⟩ := h d (by simp)
    obtain ⟨y, g2, e2, p, hg2⟩ := h1 g hg
    obtain ⟨ys, g3, e3, ⟨q1, q2⟩, hg3⟩ := t_comp (ds := ds) (fun d hd => h d (by simp [hd])) g2 hg2
    refine ⟨y :: ys, g3, ?_, ⟨by simp [q1], fun z hz => ?_⟩, hg3⟩
    · simp [compD, e1, e2, e3]
    · rcases List.mem_cons.mp hz with rfl | hz
      · exact p
      · exact q2 z hz
theorem t_compF {gs : FG} {ft : FT} {fe : FE} {ρ : List En} : ∀ {ds : List D}, (∀ d ∈ ds, ∃ ρ1, gs d ρ = some ρ1 ∧ TM (ft ρ1) (fun _ => True) ∧ TM (fe ρ1) (fun y => y = d)) → TM (compD gs ft fe ds ρ) (fun ys => ys.Sublist ds)
  | [], _ => TM.pure (List.Sublist.refl _)
  | d :: ds, h => fun g hg => by
    obtain ⟨ρ1, e1, h0, h1⟩ := h d (by simp)
    obtain ⟨b, g1, e0, _, hg1⟩ := h0 g hg
    cases b with
    | false =>
      obtain ⟨ys, g3, e3, q, hg3⟩ := t_compF (ds := ds) (fun d hd => h d (by simp [hd])) g1 hg1
      exact ⟨ys, g3, by simp [compD, e1, e0, e3], q.cons _, hg3⟩
    | true =>
      obtain ⟨y, g2, e2, rfl, hg2⟩ := h1 g1 hg1
      obtain ⟨ys, g3, e3, q, hg3⟩ := t_compF (ds := ds) (fun d hd => h d (by simp [hd])) g2 hg2
      exact ⟨y :: ys, g3, by simp [compD, e1, e0, e2, e3], q.cons₂ _, hg3⟩
theorem te_lc {fi : FI} {vs : List Nat} {gs : FG} {ft : FT} {fe : FE} {ρ : List En} {ds : List D} {R : List D → Prop} {Q : D → Prop} (hi : TM (fi ρ) (fun xs => xs = ds)) (hc : TM (compD gs ft fe ds (blkE ρ vs)) R) (h : ∀ ys, R ys → ys.length ≤ 1000 ∧ Q (.lst ys)) : TM (cLc fi vs gs ft fe ρ) Q := by
  show TM (fun g => (fi ρ g).bd _) Q
  refine TM.bd hi ?_
  rintro xs rfl
  show TM (fun g => (compD gs ft fe xs (blkE ρ vs) g).bd _) Q
  refine TM.bd hc fun ys hy => TM.of (h ys hy).2 fun g => if_pos (h ys hy).1
theorem ti_rng {ρ : List En} {a : FE} {j : Int} (h0 : 0 ≤ j) (h1 : j ≤ 100000) (ha : TM (a ρ) (fun d => d = .int j)) : TM (iR1 (cC a cN) ρ) (fun xs => xs = rngD 0 j.toNat) := by
  show TM (fun g => (cC a cN ρ g).bd _) _
  refine TM.bd (fa_c ha fa_n) fun xs h => ?_
  obtain ⟨x, rfl, rfl⟩ := fit1 h
  refine TM.of rfl fun g => ?_
  rw [rng1_int h0 h1]; rfl
theorem rng_len (a : Int) (n : Nat) : (rngD a n).length = n := by simp [rngD]
theorem t_loop {gs : FG} {fb : FS} {I : Nat → List En → Prop} (h : ∀ d n ρ, I n ρ → ∃ ρ1, gs d ρ = some ρ1 ∧ TM (fb ρ1) (fun f => ∃ ρ2, f = .nx ρ2 ∧ I (n + 1) ρ2)) : ∀ (ds : List D) (n : Nat) (ρ : List En), I n ρ → TM (loopD gs fb ds ρ) (fun f => ∃ ρ2, f = .nx ρ2 ∧ I (n + ds.length) ρ2)
  | [], n, ρ, i => TM.pure ⟨ρ, rfl, i⟩
  | d :: ds, n, ρ, i => fun g hg => by
    obtain ⟨ρ1, h1, hb⟩ := h d n ρ i
    obtain ⟨f, g2, e, ⟨ρ2, rfl, i2⟩, hg2⟩ := hb g hg
    obtain ⟨f3, g3, e3, ⟨ρ3, rfl, i3⟩, hg3⟩ := t_loop h ds (n + 1) ρ2 i2 g2 hg2
    refine ⟨_, g3, ?_, ⟨ρ3, rfl, ?_⟩, hg3⟩
    · unfold loopD
      rw [h1]
      simp only [e]
      exact e3
    · rw [List.length_cons, show n + (ds.length + 1) = n + 1 + ds.length by omega]; exact i3
theorem ts_for {ρ : List En} {fi : FI} {gs : FG} {fb : FS} {ds : List D} {Q : Fl → Prop} (hi : TM (fi ρ) (fun xs => xs = ds)) (hl : TM (loopD gs fb ds ρ) Q) : TM (sFor fi gs fb ρ) Q := by
  show TM (fun g => (fi ρ g).bd _) Q
  refine TM.bd hi ?_
  rintro xs rfl
  exact hl
theorem ts_app {ρ : List En} {i : Nat} {a : FE} {xs : List D} {P : D → Prop} {Q : Fl → Prop} (hi : ρ[i]? = some (.own xs)) (hl : xs.length ≤ 1000) (ha : TM (a ρ) P) (h : ∀ y, P y → Q (.nx (ρ.set i (.own (xs ++ [y]))))) : TM (sApp i a ρ) Q := by
  have e : sApp i a ρ = fun g => (a ρ g).bd fun y g1 => if xs.length ≤ 1000 then some (.ok (.nx (ρ.set i (.own (xs ++ [y])))) g1) else none := by
    funext g
    simp only [sApp, hi]
  rw [e]
  exact TM.bd ha fun y hy => TM.of (h y hy) fun g => if_pos hl
theorem ts_own {ρ : List En} {i : Nat} {Q : Fl → Prop} (h : Q (.nx (ρ.set i (.own [])))) : TM (sOwn i ρ) Q := TM.pure h
theorem ts_frz {ρ : List En} {i : Nat} {b : FS} {xs : List D} {Q : Fl → Prop} (hi : ρ[i]? = some (.own xs)) (hb : TM (b (ρ.set i (.dt (.lst xs)))) Q) : TM (sFrz i b ρ) Q := by
  have e : sFrz i b ρ = b (ρ.set i (.dt (.lst xs))) := by
    funext g
    simp only [sFrz, hi]
  rw [e]
  exact hb
theorem te_of {α : Type} {m : Gh → M α} {a : α} {P : α → Prop} (e : ∀ g, m g = some (.ok a g)) (h : P a) : TM m P := TM.of h e
theorem ts_forR {ρ : List En} {fi : FI} {gs : FG} {fb : FS} {R : List D → Prop} {Q : Fl → Prop} (hi : TM (fi ρ) R) (hl : ∀ xs, R xs → TM (loopD gs fb xs ρ) Q) : TM (sFor fi gs fb ρ) Q := by
  show TM (fun g => (fi ρ g).bd _) Q
  exact TM.bd hi fun xs h => hl xs h
theorem t_loopN {gs : FG} {fb : FS} {N : Nat} {I : Nat → List En → Prop} (h : ∀ d n ρ, n < N → I n ρ → ∃ ρ1, gs d ρ = some ρ1 ∧ TM (fb ρ1) (fun f => ∃ ρ2, f = .nx ρ2 ∧ I (n + 1) ρ2)) : ∀ (ds : List D) (n : Nat) (ρ : List En), n + ds.length ≤ N → I n ρ → TM (loopD gs fb ds ρ) (fun f => ∃ ρ2, f = .nx ρ2 ∧ I (n + ds.length) ρ2)
  | [], n, ρ, _, i => TM.pure ⟨ρ, rfl, i⟩
  | d :: ds, n, ρ, hn, i => fun g hg => by
    simp only [List.length_cons] at hn
    obtain ⟨ρ1, h1, hb⟩ := h d n ρ (by omega) i
    obtain ⟨f, g2, e, ⟨ρ2, rfl, i2⟩, hg2⟩ := hb g hg
    obtain ⟨f3, g3, e3, ⟨ρ3, rfl, i3⟩, hg3⟩ := t_loopN h ds (n + 1) ρ2 (by omega) i2 g2 hg2
    refine ⟨_, g3, ?_, ⟨ρ3, rfl, ?_⟩, hg3⟩
    · unfold loopD
      rw [h1]
      simp only [e]
      exact e3
    · rw [List.length_cons, show n + (ds.length + 1) = n + 1 + ds.length by omega]; exact i3
theorem te_ixm {ρ : List En} {n : Nat} {a : FA} {e : FE} {P : D → Prop} (ha : TM (a ρ) (Menu n P)) (he : TM (e ρ) (fun d => ∃ v, d = .int v ∧ 0 ≤ v ∧ v < (n : Int))) (hn : n ≤ 1000 := by decide) : TM (cOp ixD (cLst a) e ρ) P := by
  refine te_op (P := fun d => ∃ xs, d = .lst xs ∧ Menu n P xs) (te_lst ha fun xs h => ⟨by rw [h.1]; exact hn, xs, rfl, h⟩) he ?_
  rintro x y ⟨xs, rfl, h⟩ ⟨v, rfl, h0, h1⟩
  have hv : v.toNat < xs.length := by rw [h.1]; omega
  refine ⟨xs[v.toNat], ?_, h.2 _ (List.getElem_mem hv)⟩
  rw [ixD_lst h0, List.getElem?_eq_getElem hv]
theorem tt_int {ρ : List En} {c : FT} {b : Bool} (e : ∀ g, c ρ g = some (.ok b g)) : TM (c ρ) (fun x => x = b) := TM.of rfl e
theorem ti_v {ρ : List En} {i : Nat} {v : Int} (e : ρ[i]? = some (.dt (.int v))) : TM (cV i ρ) (fun d => d = .int v) := te_v e rfl
def Fine (d : D) : Prop := fine d = true
def Deed (d : D) : Prop := deedB d = true ∧ fine d = true
def Range (a b : Int) (d : D) : Prop := ∃ v, d = .int v ∧ a ≤ v ∧ v ≤ b
theorem Range.inR {a b : Int} {d : D} (h : Range a b d) : inR a b d = true := by
  obtain ⟨v, rfl, h0, h1⟩ := h
  simp [Kk02.inR, h0, h1]
theorem Range.fine {a b : Int} {d : D} (h : Range a b d) : fine d = true := by
  obtain ⟨v, rfl, _⟩ := h; rfl
theorem see_deed : Deed (.tup [.str "see"]) := ⟨by decide +kernel, by decide +kernel⟩
theorem t_script {most : Int} (h0 : 0 ≤ most) (h6 : most ≤ 6) : TM (f_law_script [.hnd, .int most]) (fun d => scriptB d = true ∧ fine d = true) := by
  refine tf_fn (N := 4) ?_
  refine ts_seq (I := fun ρ1 => ρ1 = [.dt .hnd, .dt (.int most), .own [], .un]) (ts_own ⟨_, rfl, rfl⟩) ?_
  rintro _ rfl
  refine ts_seq (I := fun ρ1 => ∃ n x xs, ρ1 = [.dt .hnd, .dt (.int most), .own xs, x] ∧ xs.length = n ∧ n ≤ 6 ∧ ∀ d ∈ xs, Deed d) (ts_forR (R := fun xs => xs.length ≤ 6) ?_ ?_) ?_
  · show TM (fun g => (cC (cFn 2 f_law_take (cC (cV 0) (cC (cOp addD (cV 1) (cD (.int 1))) cN))) cN [.dt .hnd, .dt (.int most), .own [], .un] g).bd _) _
    refine TM.bd (fa_c (te_take (m := most + 1) (te_of (fun g => rfl) rfl) (by omega) (by omega)) fa_n) fun xs h => ?_
    obtain ⟨_, rfl, v, rfl, g0, g1⟩ := fit1 h
    refine TM.of (a := rngD 0 v.toNat) ?_ fun g => ?_
    · rw [rng_len]; omega
    · rw [rng1_int g0 (by omega)]; rfl
  · intro ds hds
    refine (t_loopN (N := 6) (I := fun n ρ1 => ∃ x xs, ρ1 = [.dt .hnd, .dt (.int most), .own xs, x] ∧ xs.length = n ∧ ∀ d ∈ xs, Deed d) ?_ ds 0 _ (by omega) ⟨_, _, rfl, rfl, fun d hd => by simp at hd⟩).imp ?_
    · rintro d n _ hn ⟨x, xs, rfl, hl, hx⟩
      refine ⟨_, rfl, ts_if (P := fun _ => True) (tt_t (te_op te_takeK (te_d (P := fun d => d = .int 0) rfl) ?_) (Q := fun _ => True) (P := fun d => ∃ b, d = .bl b) ?_) (fun _ => ?_) (fun _ => ?_)⟩
      · rintro x y ⟨v, rfl, _⟩ rfl
        exact ⟨_, eqD_int _ _, _, rfl⟩
      · rintro x ⟨b, rfl⟩
        exact ⟨b, rfl, trivial⟩
      · refine ts_app rfl (by omega) (te_of (P := Deed) (fun g => rfl) see_deed) fun y hy => ⟨_, rfl, _, _, rfl, by simp [hl], fun z hz => ?_⟩
        rcases List.mem_append.mp hz with hz | hz
        · exact hx z hz
        · have : z = y := by simpa using hz
          exact this ▸ hy
      · refine ts_app (P := Deed) rfl (by omega) (te_tup (fa_c (P := fun d => d = .str "put") (te_d rfl) (fa_c (P := Range 0 999) (te_pick (n := 5) (me_c (te_d ⟨_, rfl, by decide, by decide⟩) (me_c (te_d ⟨_, rfl, by decide, by decide⟩) (me_c (te_d ⟨_, rfl, by decide, by decide⟩) (me_c (te_d ⟨_, rfl, by decide, by decide⟩) (me_c (te_d ⟨_, rfl, by decide, by decide⟩) (me_c (TM.imp te_takeK ?_) me_n))))))) fa_n)) fun ys h => ?_) fun y hy => ⟨_, rfl, _, _, rfl, by simp [hl], fun z hz => ?_⟩
        · rintro a ⟨v, rfl, g0, g1⟩
          exact ⟨v, rfl, g0, by omega⟩
        · obtain ⟨a, b, rfl, rfl, hb⟩ := fit2 h
          refine ⟨by simp, ?_, ?_⟩
          · show (isW ["put"] (.str "put") && inR 0 999 b) = true
            rw [hb.inR]; decide +kernel
          · rw [fine_tup]
            refine ⟨by simp, fun d hd => ?_⟩
            have : d = .str "put" ∨ d = b := by simpa using hd
            rcases this with rfl | rfl
            · exact okS (by decide +kernel)
            · exact hb.fine
        · rcases List.mem_append.mp hz with hz | hz
          · exact hx z hz
          · have : z = y := by simpa using hz
            exact this ▸ hy
    · rintro f ⟨ρ2, rfl, x, xs, rfl, hl, hx⟩
      exact ⟨_, rfl, _, _, _, rfl, rfl, by omega, hx⟩
  · rintro _ ⟨n, x, xs, rfl, hl, hn, hx⟩
    refine ts_frz rfl (ts_ret (te_of (a := .tup xs) (P := fun d => scriptB d = true ∧ fine d = true) (fun g => rfl) ⟨?_, ?_⟩) fun x hx => ⟨x, rfl, hx⟩)
    · simp only [scriptB, Bool.and_eq_true, decide_eq_true_eq]
      exact ⟨by omega, List.all_eq_true.mpr fun d hd => (hx d hd).1⟩
    · rw [fine_tup]
      exact ⟨by omega, fun d hd => (hx d hd).2⟩
def Script (d : D) : Prop := scriptB d = true ∧ fine d = true
theorem rowB_of {n : Nat} {P : D → Prop} {ys : List D} (h : Menu n P ys) (h1 : 1 ≤ n) (h5 : n ≤ 5) : rowB (.tup ys) = true := by
  simp only [rowB, Bool.and_eq_true, decide_eq_true_eq, h.1]
  omega
/-- a play of a manner -/
def Man (d : D) : Prop := ∃ k ys n, d = .tup [.str k, .tup ys] ∧ k ∈ MAN ∧ Menu n Script ys ∧ 1 ≤ n ∧ n ≤ 5
theorem t_manner : TM (f_law_manner [.hnd]) Man := by
  refine tf_fn (N := 4) ?_
  refine ts_seq (I := fun ρ1 => ∃ v, ρ1 = [.dt .hnd, .dt (.int v), .un, .un] ∧ 1 ≤ v ∧ v ≤ 5) (ts_asg (te_pick (P := Range 1 5) (n := 6) (me_c (te_d ⟨_, rfl, by decide, by decide⟩) (me_c (te_d ⟨_, rfl, by decide, by decide⟩) (me_c (te_d ⟨_, rfl, by decide, by decide⟩) (me_c (te_d ⟨_, rfl, by decide, by decide⟩) (me_c (te_d ⟨_, rfl, by decide, by decide⟩) (me_c (te_d ⟨_, rfl, by decide, by decide⟩) (me_c (te_d ⟨_, rfl, by decide, by decide⟩) me_n)))))))) ?_) ?_
  · rintro x ⟨v, rfl, h⟩
    exact ⟨_, rfl, _, rfl, v, rfl, h⟩
  rintro _ ⟨v, rfl, h1, h5⟩
  refine ts_seq (I := fun ρ1 => ∃ w, ρ1 = [.dt .hnd, .dt (.int v), .dt (.int w), .un] ∧ 1 ≤ w ∧ w ≤ 6) (ts_asg (te_pick (P := Range 1 6) (n := 3) (me_c (te_d ⟨_, rfl, by decide, by decide⟩) (me_c (te_d ⟨_, rfl, by decide, by decide⟩) (me_c (te_d ⟨_, rfl, by decide, by decide⟩) (me_c (te_d ⟨_, rfl, by decide, by decide⟩) me_n))))) ?_) ?_
  · rintro x ⟨w, rfl, h⟩
    exact ⟨_, rfl, _, rfl, w, rfl, h⟩
  rintro _ ⟨w, rfl, g1, g6⟩
  refine ts_ret (P := Man) (te_tup (fa_c (P := fun d => ∃ k, d = .str k ∧ k ∈ MAN) (te_pick (n := 3) (me_c (te_d ⟨_, rfl, by decide +kernel⟩) (me_c (te_d ⟨_, rfl, by decide +kernel⟩) (me_c (te_d ⟨_, rfl, by decide +kernel⟩) (me_c (te_d ⟨_, rfl, by decide +kernel⟩) me_n))))) (fa_c (P := fun d => ∃ ys, d = .tup ys ∧ Menu v.toNat Script ys) (te_call (fa_c (P := fun d => ∃ ys, d = .lst ys ∧ Menu v.toNat Script ys) (te_lc (ti_rng (by omega) (by omega) (te_v rfl rfl)) (t_comp (P := Script) ?_) ?_) fa_n) ?_) fa_n)) ?_) fun x hx => ⟨x, rfl, hx⟩
  · intro d hd
    refine ⟨_, rfl, te_fn (fa_c (P := fun d => d = .hnd) (te_v rfl rfl) (fa_c (P := fun d => d = .int w) (te_v rfl rfl) fa_n)) fun xs h => ?_⟩
    obtain ⟨x, y, rfl, rfl, rfl⟩ := fit2 h
    exact ⟨rfl, t_script (by omega) g6⟩
  · rintro ys ⟨hl, hy⟩
    rw [rng_len] at hl
    exact ⟨by omega, ys, rfl, hl, hy⟩
  · intro xs h
    obtain ⟨_, rfl, ys, rfl, hy⟩ := fit1 h
    exact ⟨_, rfl, ys, rfl, hy⟩
  · intro xs h
    obtain ⟨_, _, rfl, ⟨k, rfl, hk⟩, ys, rfl, hy⟩ := fit2 h
    exact ⟨by simp, k, ys, _, rfl, hk, hy, by omega, by omega⟩
end Kk02
set_option Elab.async false
set_option linter.all false
set_option maxRecDepth 100000
set_option maxHeartbeats 4000000
namespace Kk02
open PySem L2 FD
/-! ### what is told without a draw -/
def EX {α : Type} (m : Gh → M α) (a : α) : Prop := ∀ g, m g = some (.ok a g)
theorem EX.bd {α β : Type} {m : Gh → M α} {k : α → Gh → M β} {a : α} {b : β} (h : EX m a) (hk : EX (k a) b) : EX (fun g => (m g).bd k) b := fun g => by
  show (m g).bd k = _
  rw [h g]; exact hk g
theorem ex_d {ρ : List En} {d : D} : EX (cD d ρ) d := fun g => rfl
theorem ex_v {ρ : List En} {i : Nat} {d : D} (e : ρ[i]? = some (.dt d)) : EX (cV i ρ) d := fun g => by simp only [cV, e]
theorem ex_n {ρ : List En} : EX (cN ρ) [] := fun g => rfl
theorem ex_c {ρ : List En} {a : FE} {b : FA} {x : D} {xs : List D} (ha : EX (a ρ) x) (hb : EX (b ρ) xs) : EX (cC a b ρ) (x :: xs) := EX.bd ha (EX.bd hb fun g => rfl)
theorem ex_tup {ρ : List En} {a : FA} {xs : List D} (ha : EX (a ρ) xs) (hl : xs.length ≤ 1000 := by simp) : EX (cTup a ρ) (.tup xs) := EX.bd ha fun g => if_pos hl
theorem ex_lst {ρ : List En} {a : FA} {xs : List D} (ha : EX (a ρ) xs) (hl : xs.length ≤ 1000 := by simp) : EX (cLst a ρ) (.lst xs) := EX.bd ha fun g => if_pos hl
theorem ex_op {ρ : List En} {op : D → D → Option D} {a b : FE} {x y z : D} (ha : EX (a ρ) x) (hb : EX (b ρ) y) (h : op x y = some z) : EX (cOp op a b ρ) z := EX.bd ha (EX.bd hb fun g => by rw [h]; rfl)
theorem ex_1 {ρ : List En} {op : D → Option D} {a : FE} {x z : D} (ha : EX (a ρ) x) (h : op x = some z) : EX (c1 op a ρ) z := EX.bd ha fun g => by rw [h]; rfl
theorem ex_call {ρ : List En} {op : List D → Option D} {a : FA} {xs : List D} {z : D} (ha : EX (a ρ) xs) (h : op xs = some z) : EX (cCall op a ρ) z := EX.bd ha fun g => by rw [h]; rfl
theorem ex_fn {ρ : List En} {n : Nat} {Fn : List D → Gh → M D} {a : FA} {xs : List D} {z : D} (ha : EX (a ρ) xs) (h : EX (Fn xs) z) (hn : xs.length = n := by rfl) : EX (cFn n Fn a ρ) z := EX.bd ha fun g => by
  show (if xs.length = n then noX (Fn xs g) else none) = _
  rw [if_pos hn, h g]; rfl
theorem ex_sl {ρ : List En} {a : FE} {lo hi : FO} {x z : D} {l h : Option Int} (ha : EX (a ρ) x) (hl : EX (lo ρ) l) (hh : EX (hi ρ) h) (e : slD x l h = some z) : EX (cSl a lo hi ρ) z := EX.bd ha (EX.bd hl (EX.bd hh fun g => by rw [e]; rfl))
theorem exo_n {ρ : List En} : EX (oN ρ) none := fun g => rfl
theorem exo_s {ρ : List En} {a : FE} {i : Int} (ha : EX (a ρ) (.int i)) : EX (oS a ρ) (some i) := EX.bd ha fun g => rfl
theorem ex_and1 {ρ : List En} {a b : FE} {z : D} (ha : EX (a ρ) (.bl true)) (hb : EX (b ρ) z) : EX (cAndV a b ρ) z := EX.bd ha hb
theorem ex_and0 {ρ : List En} {a b : FE} (ha : EX (a ρ) (.bl false)) : EX (cAndV a b ρ) (.bl false) := EX.bd ha fun g => rfl
theorem ex_or1 {ρ : List En} {a b : FE} (ha : EX (a ρ) (.bl true)) : EX (cOrV a b ρ) (.bl true) := EX.bd ha fun g => rfl
theorem ex_or0 {ρ : List En} {a b : FE} {z : D} (ha : EX (a ρ) (.bl false)) (hb : EX (b ρ) z) : EX (cOrV a b ρ) z := EX.bd ha hb
theorem ext {ρ : List En} {a : FE} {b : Bool} (ha : EX (a ρ) (.bl b)) : EX (cT a ρ) b := EX.bd ha fun g => rfl
theorem ext_not {ρ : List En} {a : FT} {b : Bool} (ha : EX (a ρ) b) : EX (cNot a ρ) (!b) := EX.bd ha fun g => rfl
theorem ext_and1 {ρ : List En} {a b : FT} {z : Bool} (ha : EX (a ρ) true) (hb : EX (b ρ) z) : EX (cAnd a b ρ) z := EX.bd ha hb
theorem ext_and0 {ρ : List En} {a b : FT} (ha : EX (a ρ) false) : EX (cAnd a b ρ) false := EX.bd ha fun g => rfl
theorem ext_or1 {ρ : List En} {a b : FT} (ha : EX (a ρ) true) : EX (cOr a b ρ) true := EX.bd ha fun g => rfl
theorem ext_or0 {ρ : List En} {a b : FT} {z : Bool} (ha : EX (a ρ) false) (hb : EX (b ρ) z) : EX (cOr a b ρ) z := EX.bd ha hb
/-! blocks -/
theorem ex_lc {fi : FI} {vs : List Nat} {gs : FG} {ft : FT} {fe : FE} {ρ : List En} {ds ys : List D} (hi : EX (fi ρ) ds) (hc : EX (compD gs ft fe ds (blkE ρ vs)) ys) (hl : ys.length ≤ 1000) : EX (cLc fi vs gs ft fe ρ) (.lst ys) := EX.bd hi (EX.bd hc fun g => if_pos hl)
theorem exi_s {ρ : List En} {a : FE} {x : D} {ds : List D} (ha : EX (a ρ) x) (h : seqOf x = some ds) : EX (iS a ρ) ds := EX.bd ha fun g => by rw [h]; rfl
theorem exi_r {ρ : List En} {a : FE} {n : Nat} (ha : EX (a ρ) (.int (n : Nat))) (h : n ≤ 100000) : EX (iR1 (cC a cN) ρ) (rngD 0 n) := EX.bd (ex_c ha ex_n) fun g => by rw [rng1_nat h]; rfl
theorem exi_z {ρ : List En} {a : FA} {xs ds : List D} (ha : EX (a ρ) xs) (h : zipD xs = some ds) : EX (iZ a ρ) ds := EX.bd ha fun g => by rw [h]; rfl
theorem exi_e {ρ : List En} {a : FA} {xs ds : List D} (ha : EX (a ρ) xs) (h : enumD xs = some ds) : EX (iEn a ρ) ds := EX.bd ha fun g => by rw [h]; rfl
theorem exi_v {ρ : List En} {a : FE} {n : Nat} (ha : EX (a ρ) (.rng 0 (n : Nat))) (h : n ≤ 100000) : EX (iRv a ρ) (rngD 0 n) := EX.bd ha fun g => by
  have e : rngOf (.rng 0 (n : Nat)) = some (rngD 0 n) := by
    unfold rngOf
    have c1 : (n : Int) < 2 ^ 62 := by rw [p62]; omega
    have c2 : -(2 ^ 62) ≤ (n : Int) := by rw [p62]; omega
    have c3 : -(2 ^ 62) ≤ (0 : Int) := by rw [p62]; omega
    have c4 : (0 : Int) < 2 ^ 62 := by rw [p62]; omega
    have hk : ck (-(2 ^ 62) ≤ (0 : Int) ∧ (0 : Int) < 2 ^ 62 ∧ -(2 ^ 62) ≤ (n : Int) ∧ (n : Int) < 2 ^ 62) = true := ck_of ⟨c3, c4, c2, c1⟩
    show (if ck (-(2 ^ 62) ≤ (0 : Int) ∧ (0 : Int) < 2 ^ 62 ∧ -(2 ^ 62) ≤ (n : Int) ∧ (n : Int) < 2 ^ 62) = true then some (rngD 0 ((n : Int) - 0).toNat) else none) = _
    rw [if_pos hk]
    simp
  rw [e]; rfl
theorem exc_map {gs : FG} {fe : FE} {F : D → D} {ρ : List En} {ds : List D} (h : ∀ d ∈ ds, ∃ ρ1, gs d ρ = some ρ1 ∧ EX (fe ρ1) (F d)) : EX (compD gs tY fe ds ρ) (ds.map F) := fun g => compD_map fun d hd => by
  obtain ⟨ρ1, h1, h2⟩ := h d hd
  exact ⟨ρ1, h1, h2 g⟩
theorem exc_fil {gs : FG} {ft : FT} {fe : FE} {p : D → Bool} {F : D → D} {ρ : List En} {ds : List D} (h : ∀ d ∈ ds, ∃ ρ1, gs d ρ = some ρ1 ∧ EX (ft ρ1) (p d) ∧ EX (fe ρ1) (F d)) : EX (compD gs ft fe ds ρ) ((ds.filter p).map F) := fun g => compD_filter fun d hd => by
  obtain ⟨ρ1, h1, h2, h3⟩ := h d hd
  exact ⟨ρ1, h1, h2 g, h3 g⟩
/-! statements -/
theorem exs_ret {ρ : List En} {a : FE} {x : D} (ha : EX (a ρ) x) : EX (sRet a ρ) (.rt x) := EX.bd ha fun g => rfl
theorem exs_asg {ρ ρ1 : List En} {a : FE} {gs : FG} {x : D} (ha : EX (a ρ) x) (h : gs x ρ = some ρ1) : EX (sAsg a gs ρ) (.nx ρ1) := EX.bd ha fun g => by rw [h]
theorem exs_par {ρ : List En} {i j : Nat} {a : FA} {x y : D} (ha : EX (a ρ) [x, y]) : EX (sPar i j a ρ) (.nx ((ρ.set i (.dt x)).set j (.dt y))) := EX.bd ha fun g => rfl
theorem exs_drop {ρ : List En} {a : FE} {x : D} (ha : EX (a ρ) x) : EX (sDrop a ρ) (.nx ρ) := EX.bd ha fun g => rfl
theorem exs_nx {ρ : List En} : EX (sNx ρ) (.nx ρ) := fun g => rfl
theorem exs_if1 {ρ : List En} {c : FT} {a b : FS} {f : Fl} (hc : EX (c ρ) true) (ha : EX (a ρ) f) : EX (sIf c a b ρ) f := EX.bd hc ha
theorem exs_if0 {ρ : List En} {c : FT} {a b : FS} {f : Fl} (hc : EX (c ρ) false) (hb : EX (b ρ) f) : EX (sIf c a b ρ) f := EX.bd hc hb
theorem exs_seq {ρ ρ1 : List En} {a b : FS} {f : Fl} (ha : EX (a ρ) (.nx ρ1)) (hb : EX (b ρ1) f) : EX (sSeq a b ρ) f := fun g => (sSeq_nx (ha g)).trans (hb g)
theorem exs_rt {ρ : List En} {a b : FS} {d : D} (ha : EX (a ρ) (.rt d)) : EX (sSeq a b ρ) (.rt d) := fun g => sSeq_rt (ha g)
theorem exs_for {ρ : List En} {fi : FI} {gs : FG} {fb : FS} {ds : List D} {f : Fl} (hi : EX (fi ρ) ds) (hl : EX (loopD gs fb ds ρ) f) : EX (sFor fi gs fb ρ) f := EX.bd hi hl
theorem exf {N : Nat} {b : FS} {ds : List D} {d : D} (h : EX (b (ds.map .dt ++ List.replicate (N - ds.length) .un)) (.rt d)) : EX (fun g => noX (fnOf N b ds g)) d := fun g => by
  show noX (fnOf N b ds g) = _
  unfold fnOf
  rw [h g]; rfl
theorem exf_nx {N : Nat} {b : FS} {ds : List D} {ρ : List En} (h : EX (b (ds.map .dt ++ List.replicate (N - ds.length) .un)) (.nx ρ)) : EX (fun g => noX (fnOf N b ds g)) .non := fun g => by
  show noX (fnOf N b ds g) = _
  unfold fnOf
  rw [h g]; rfl
end Kk02
set_option Elab.async false
set_option linter.all false
set_option maxRecDepth 100000
set_option maxHeartbeats 4000000
namespace Kk02
open PySem L2 FD
theorem cLc_ok {fi : FI} {vs : List Nat} {gs : FG} {ft : FT} {fe : FE} {ρ : List En} {g g1 g2 : Gh} {ds ys : List D} (hi : fi ρ g = some (.ok ds g1)) (hc : compD gs ft fe ds (blkE ρ vs) g1 = some (.ok ys g2)) (hl : ys.length ≤ 1000) : cLc fi vs gs ft fe ρ g = some (.ok (.lst ys) g2) := by
  simp only [cLc, hi, M.bd, hc, if_pos hl]
/-! ### small things -/
def tiny : Nat → D → Bool
  | 0, _ => false
  | _ + 1, .non => true
  | _ + 1, .int i => decide (i.natAbs ≤ 1000)
  | n + 1, .tup xs => decide (xs.length ≤ 6) && xs.all (tiny n)
  | _ + 1, _ => false
theorem tiny_tup {n : Nat} {xs : List D} : tiny (n + 1) (.tup xs) = true ↔ xs.length ≤ 6 ∧ ∀ d ∈ xs, tiny n d = true := by simp [tiny]
theorem tiny_mono {n : Nat} : ∀ {d : D}, tiny n d = true → tiny (n + 1) d = true := by
  induction n with
  | zero => intro d h; simp [tiny] at h
  | succ n ih =>
    intro d h
    cases d with
    | tup xs =>
      rw [tiny_tup] at h ⊢
      exact ⟨h.1, fun d hd => ih (h.2 d hd)⟩
    | _ => simpa [tiny] using h
theorem tiny_le {n : Nat} {d : D} : ∀ (k : Nat), tiny n d = true → tiny (n + k) d = true
  | 0, h => h
  | k + 1, h => tiny_mono (tiny_le k h)
theorem tiny_plain {n : Nat} : ∀ {d : D}, tiny n d = true → plain n d = true := by
  induction n with
  | zero => intro d h; simp [tiny] at h
  | succ n ih =>
    intro d h
    cases d with
    | tup xs =>
      rw [tiny_tup] at h
      rw [plain_tup]
      exact ⟨by omega, fun d hd => ih (h.2 d hd)⟩
    | non => rfl
    | int i => rfl
    | _ => simp [tiny] at h
theorem tiny_int {i : Int} {n : Nat} (h : i.natAbs ≤ 1000) : tiny (n + 1) (.int i) = true := by simp [tiny, h]
/-! a row with one thing in a place -/
theorem put_at_cut {xs : List D} {i : Nat} {d : D} (h : i < xs.length) : cutD xs none (some (i : Int)) ++ [d] ++ cutD xs (some ((i : Int) + 1)) none = xs.set i d := by
  have e1 : cutD xs none (some (i : Int)) = xs.take i := by
    have a : HT.sIx xs.length 0 none = 0 := rfl
    have b : HT.sIx xs.length xs.length (some (i : Int)) = i := by
      rw [HT.sIx_nat]; omega
    unfold cutD
    rw [a, b]
    simp
  have e2 : cutD xs (some ((i : Int) + 1)) none = xs.drop (i + 1) := by
    have a : HT.sIx xs.length 0 (some ((i : Int) + 1)) = i + 1 := by
      rw [show ((i : Int) + 1) = ((i + 1 : Nat) : Int) by omega, HT.sIx_nat]; omega
    have b : HT.sIx xs.length xs.length none = xs.length := rfl
    unfold cutD
    rw [a, b]
    rw [List.take_of_length_le (by simp)]
  rw [e1, e2, List.set_eq_take_append_cons_drop, if_pos h]
  simp
theorem put_at_ex {N : FS} {xs : List D} {i : Nat} {d : D} (h : i < xs.length) (hl : xs.length ≤ 400) : EX ((sRet (cOp addD (cOp addD (cSl (cV 0) oN (oS (cV 1))) (cTup (cC (cV 2) cN))) (cSl (cV 0) (oS (cOp addD (cV 1) (cD (.int 1)))) oN))) [.dt (.tup xs), .dt (.int i), .dt d]) (.rt (.tup (xs.set i d))) := by
  have e := put_at_cut (d := d) h
  have l1 : (cutD xs none (some (i : Int))).length ≤ xs.length := by unfold cutD; simp; omega
  have l2 : (cutD xs (some ((i : Int) + 1)) none).length ≤ xs.length := by unfold cutD; simp; omega
  rw [← e]
  refine exs_ret (ex_op (ex_op (ex_sl (ex_v rfl) exo_n (exo_s (ex_v rfl)) rfl) (ex_tup (ex_c (ex_v rfl) ex_n)) (if_pos ?_)) (ex_sl (ex_v rfl) (exo_s (ex_op (ex_v rfl) ex_d rfl)) exo_n rfl) (if_pos ?_))
  · simp; omega
  · simp; omega
theorem put_at_eq {xs : List D} {i : Nat} {d : D} (h : i < xs.length) (hl : xs.length ≤ 400) : EX (f_put_at [.tup xs, .int i, d]) (.tup (xs.set i d)) := exf (N := 3) (put_at_ex (N := sNx) h hl)
theorem law_put_at_eq {xs : List D} {i : Nat} {d : D} (h : i < xs.length) (hl : xs.length ≤ 400) : EX (f_law_put_at [.tup xs, .int i, d]) (.tup (xs.set i d)) := exf (N := 3) (put_at_ex (N := sNx) h hl)
/-- a state at its beginning -/
def fresh (d : Int) : D := .tup [.int d, .non, .non, .tup [], .non]
def aheadD (ss : List D) (d : Int) : D := if d = (ss.length : Int) then .non else fresh d
theorem state_ahead_eq (ss : List D) (d : Int) : EX (f_state_ahead [.tup ss, .int d]) (aheadD ss d) := fun g => by
  unfold aheadD
  by_cases h : d = (ss.length : Int)
  · simp [f_state_ahead, b_state_ahead, fnOf, sSeq, h]
  · simp [f_state_ahead, b_state_ahead, fnOf, sSeq, h, fresh]
theorem ix_nat {xs : List D} {i : Nat} {d : D} (h : xs[i]? = some d) : ixD (.tup xs) (.int i) = some d := by rw [ixD_tup (by omega)]; simpa using h
theorem law_behind_eq {ds ss : List D} {i : Nat} (hi : ds[i]? = some (.tup ss)) (d : Int) : EX (f_law_behind [.tup ds, .int i, .int d]) (aheadD ss (d + 1)) := fun g => by
  have e := ix_nat hi
  unfold aheadD
  by_cases h : d + 1 = (ss.length : Int)
  · simp [f_law_behind, b_law_behind, fnOf, sSeq, e, h]
  · simp [f_law_behind, b_law_behind, fnOf, sSeq, e, h, fresh]
/-- a cell -/
def CellS (c : D) : Prop := ∃ (k v : Int) (r : D), c = .tup [.int k, .int v, r]
def numD : D → D
  | .tup (x :: _) => x
  | _ => .non
theorem numbers_of_eq {cs : List D} (h : ∀ c ∈ cs, CellS c) (hl : cs.length ≤ 500) : EX (f_numbers_of [.tup cs]) (.tup (cs.map numD)) := by
  refine exf (N := 2) (exs_ret (ex_call (ex_c (ex_lc (exi_s (ex_v rfl) rfl) (exc_map (F := numD) fun d hd => ⟨_, rfl, ?_⟩) (by simp; omega)) ex_n) rfl))
  obtain ⟨k, v, r, rfl⟩ := h d hd
  exact ex_op (ex_v rfl) ex_d rfl
def pairD : D → D
  | .tup (x :: y :: _) => .tup [x, y]
  | _ => .non
def lendD : D → D
  | .tup [_, _, r] => r
  | _ => .non
def numI : D → Int
  | .tup (.int k :: _) => k
  | _ => 0
/-- the picture of the first that put twice -/
def lent : List Int → List D → D
  | f :: fs, c :: cs => if f + 2 ≤ numI c then lendD c else lent fs cs
  | _, _ => .non
theorem borrow_loop {a b : En} : ∀ (fs : List Int) (cs : List D) (x y : En), (∀ c ∈ cs, CellS c) → fs.length = cs.length →
    ∃ f, EX (loopD (gT 2 (gsC (gN 2) (gsC (gN 3) gsN))) (sIf (cT (cOp geD (cOp ixD (cV 3) (cD (.int 0))) (cOp addD (cV 2) (cD (.int 2))))) (sRet (cOp ixD (cV 3) (cD (.int 2)))) sNx) (((fs.map D.int).zip cs).map fun p => .tup [p.1, p.2]) [a, b, x, y]) f ∧ ((∃ x' y', f = .nx [a, b, x', y'] ∧ lent fs cs = .non) ∨ f = .rt (lent fs cs))
  | [], [], x, y, _, _ => ⟨_, fun g => rfl, .inl ⟨x, y, rfl, rfl⟩⟩
  | [], _ :: _, x, y, _, h => by simp at h
  | _ :: _, [], x, y, _, h => by simp at h
  | n :: fs, c :: cs, x, y, hc, hl => by
    obtain ⟨k, v, r, rfl⟩ := hc c (by simp)
    by_cases h : n + 2 ≤ k
    · refine ⟨.rt r, fun g => ?_, .inr ?_⟩
      · simp [loopD, ixD_tup, h]
      · simp [lent, numI, lendD, h]
    · obtain ⟨f, e, q⟩ := borrow_loop (a := a) (b := b) fs cs (.dt (.int n)) (.dt (.tup [.int k, .int v, r])) (fun c h => hc c (by simp [h])) (by simpa using hl)
      refine ⟨f, fun g => ?_, ?_⟩
      · rw [← e g]
        simp [loopD, ixD_tup, h]
      · have z : lent (n :: fs) (.tup [.int k, .int v, r] :: cs) = lent fs cs := by simp [lent, numI, h]
        rw [z]; exact q
theorem borrowed_eq {fs : List Int} {cs : List D} (hc : ∀ c ∈ cs, CellS c) (hl : fs.length = cs.length) : EX (f_borrowed [.tup (fs.map .int), .tup cs]) (lent fs cs) := by
  obtain ⟨f, e, q⟩ := borrow_loop (a := .dt (.tup (fs.map .int))) (b := .dt (.tup cs)) fs cs .un .un hc hl
  rcases q with ⟨x, y, rfl, z⟩ | rfl
  · rw [z]
    exact exf (N := 4) (exs_seq (exs_for (exi_z (ex_c (ex_v rfl) (ex_c (ex_v rfl) ex_n)) rfl) e) (exs_ret ex_d))
  · exact exf (N := 4) (exs_rt (exs_for (exi_z (ex_c (ex_v rfl) (ex_c (ex_v rfl) ex_n)) rfl) e))
end Kk02
set_option Elab.async false
set_option linter.all false
set_option maxRecDepth 100000
set_option maxHeartbeats 4000000
namespace Kk02
open PySem L2 FD
theorem rngD_cons (a : Int) (n : Nat) : rngD a (n + 1) = .int a :: rngD (a + 1) n := by
  unfold rngD
  rw [List.range_succ_eq_map, List.map_cons, List.map_map]
  congr 1
  · simp
  · apply List.map_congr_left
    intro k _
    simp
    omega
theorem find_lent : ∀ (fs : List Int) (cs : List D) (a : Nat) (p : D → Bool), (∀ (j : Nat) (f : Int) (c : D), fs[j]? = some f → cs[j]? = some c → p (.int ((a + j : Nat) : Int)) = decide (f + 2 ≤ numI c)) → fs.length = cs.length →
    (((rngD (a : Int) fs.length).filter p = [] ∧ lent fs cs = .non) ∨ ∃ (j : Nat) (c : D) (r : List D), (rngD (a : Int) fs.length).filter p = .int ((a + j : Nat) : Int) :: r ∧ cs[j]? = some c ∧ lent fs cs = lendD c)
  | [], [], _, _, _, _ => .inl ⟨rfl, rfl⟩
  | [], _ :: _, _, _, _, h => by simp at h
  | _ :: _, [], _, _, _, h => by simp at h
  | f :: fs, c :: cs, a, p, hp, hl => by
    have h0 := hp 0 f c rfl rfl
    simp only [Nat.add_zero] at h0
    rw [List.length_cons, rngD_cons]
    by_cases h : f + 2 ≤ numI c
    · refine .inr ⟨0, c, (rngD ((a : Int) + 1) fs.length).filter p, ?_, rfl, by simp [lent, h]⟩
      rw [decide_eq_true h] at h0
      simp [List.filter_cons, h0]
    · rw [decide_eq_false h] at h0
      have z : lent (f :: fs) (c :: cs) = lent fs cs := by simp [lent, h]
      have e1 : ((a : Int) + 1) = ((a + 1 : Nat) : Int) := by omega
      rcases find_lent fs cs (a + 1) p (fun j f' c' hf hc => by
        have := hp (j + 1) f' c' (by simpa using hf) (by simpa using hc)
        rw [show a + 1 + j = a + (j + 1) by omega]; exact this) (by simpa using hl) with ⟨q1, q2⟩ | ⟨j, c', r, q1, q2, q3⟩
      · refine .inl ⟨?_, z.trans q2⟩
        rw [List.filter_cons, h0, e1]
        simpa using q1
      · refine .inr ⟨j + 1, c', r, ?_, by simpa using q2, z.trans q3⟩
        rw [List.filter_cons, h0, e1]
        rw [show a + (j + 1) = a + 1 + j by omega]
        simpa using q1
/-- numbers, or none yet -/
inductive Nums (n : Nat) : D → Prop
  | non : Nums n .non
  | of (ns : List Int) : ns.length = n → Nums n (.tup (ns.map .int))
theorem pys_ints (ns : List Int) : D.pys (ns.map .int) = some (ns.map .int) := by
  induction ns with
  | nil => rfl
  | cons a r ih => simp [D.pys, D.py, ih]
theorem eqv_ints : ∀ ns ms : List Int, PyData.eqvAll (ns.map .int) (ms.map .int) = decide (ns = ms)
  | [], [] => by simp [PyData.eqvAll]
  | [], _ :: _ => by simp [PyData.eqvAll]
  | _ :: _, [] => by simp [PyData.eqvAll]
  | a :: r, b :: s => by
    simp only [List.map_cons, PyData.eqvAll, PyData.eqv, eqv_ints r s]
    by_cases h : a = b <;> by_cases h2 : r = s <;> simp [h, h2]
theorem eqP_ints (ns ms : List Int) : eqP (.tup (ns.map .int)) (.tup (ms.map .int)) = decide (ns = ms) := by
  simp [eqP, D.py, pys_ints, PyData.eqv, eqv_ints]
theorem plain_ints {ns : List Int} (h : ns.length ≤ 500) : plain 2 (.tup (ns.map .int)) = true := by
  rw [plain_tup]
  refine ⟨by simpa using h, fun d hd => ?_⟩
  obtain ⟨k, _, rfl⟩ := List.mem_map.mp hd
  rfl
theorem eqD_ints {ns ms : List Int} (h1 : ns.length ≤ 500) (h2 : ms.length ≤ 500) : eqD (.tup (ns.map .int)) (.tup (ms.map .int)) = some (.bl (decide (ns = ms))) := by
  rw [eqD_plain (plain_ints h1) (plain_ints h2) (by decide) (by decide), eqP_ints]
theorem eqD_ints_non {ns : List Int} (h1 : ns.length ≤ 500) : eqD (.tup (ns.map .int)) .non = some (.bl false) := by
  rw [eqD_plain (n := 2) (m := 1) (plain_ints h1) rfl (by decide) (by decide)]
  simp [eqP, D.py, pys_ints, PyData.eqv]
theorem numD_map {cs : List D} (h : ∀ c ∈ cs, CellS c) : cs.map numD = (cs.map numI).map .int := by
  rw [List.map_map]
  apply List.map_congr_left
  intro c hc
  obtain ⟨k, v, r, rfl⟩ := h c hc
  rfl
open Classical in
/-- how the sweep ends -/
noncomputable def seenD (k : Str) (first last : D) (cs : List D) : D :=
  if k = "sweep" ∨ last = .tup (cs.map numD) then .tup (cs.map pairD)
  else if k = "borrow" then (match first with
    | .tup fs => lent (fs.map fun d => match d with | .int i => i | _ => 0) cs
    | _ => .non) else .non
theorem okM : ∀ k ∈ MAN, okStr k = true := by
  intro k hk
  simp only [List.mem_cons, List.not_mem_nil, or_false] at hk
  rcases hk with rfl | rfl | rfl <;> exact okS (by decide +kernel)
theorem okMW {k : Str} (hk : k ∈ MAN) (w : Str) (hw : okStr w = true) : eqD (.str k) (.str w) = some (.bl (k == w)) := eqD_str (okM k hk) hw
theorem pic_lc {cs : List D} (h : ∀ c ∈ cs, CellS c) (hl : cs.length ≤ 500) {ρ : List En} {i : Nat} {vs : List Nat} {j : Nat} (hi : ρ[i]? = some (.dt (.tup cs))) (hj : ∀ d, ((blkE ρ vs).set j (.dt d))[j]? = some (.dt d)) :
    EX (cCall tupleD (cC (cLc (iS (cV i)) vs (gN j) tY (cTup (cC (cOp ixD (cV j) (cD (.int 0))) (cC (cOp ixD (cV j) (cD (.int 1))) cN)))) cN) ρ) (.tup (cs.map pairD)) := by
  refine ex_call (ex_c (ex_lc (exi_s (ex_v hi) rfl) (exc_map (F := pairD) fun d hd => ⟨_, rfl, ?_⟩) (by simp; omega)) ex_n) rfl
  obtain ⟨k, v, r, rfl⟩ := h d hd
  exact ex_tup (ex_c (ex_op (ex_v (hj _)) ex_d rfl) (ex_c (ex_op (ex_v (hj _)) ex_d rfl) ex_n))
open Classical in
theorem picture_eq {k : Str} (hk : k ∈ MAN) {first last : D} {cs : List D} (h : ∀ c ∈ cs, CellS c) (hl : cs.length ≤ 100) (hf : Nums cs.length first) (hla : Nums cs.length last) : EX (f_picture_of_sweep [.str k, first, last, .tup cs]) (seenD k first last cs) := by
  have q1 := okMW hk "sweep" (okS (by decide +kernel))
  have q2 := okMW hk "borrow" (okS (by decide +kernel))
  have nums := numbers_of_eq h (by omega)
  have hp := pic_lc h (by omega) (ρ := [.dt (.str k), .dt first, .dt last, .dt (.tup cs), .un]) (i := 3) (vs := [4]) (j := 4) rfl (fun d => rfl)
  have heq : eqD (.tup (cs.map numD)) last = some (.bl (decide (last = .tup (cs.map numD)))) := by
    rw [numD_map h]
    cases hla with
    | non => rw [eqD_ints_non (by simp; omega)]; simp
    | of ms hm =>
      rw [eqD_ints (by simp; omega) (by omega)]
      have inj : Function.Injective D.int := fun a b e => by cases e; rfl
      congr 2
      rw [decide_eq_decide]
      constructor
      · rintro rfl; rfl
      · intro e
        have := D.tup.inj e
        exact ((List.map_inj_right (fun a b e => by cases e; rfl)).mp this).symm
  refine exf (N := 5) ?_
  by_cases hs : k = "sweep"
  · have e : seenD k first last cs = .tup (cs.map pairD) := by unfold seenD; rw [if_pos (.inl hs)]
    rw [e]
    refine exs_rt (exs_if1 (ext_or1 (ext (ex_op (ex_v rfl) ex_d ?_))) (exs_ret hp))
    rw [q1]; simp [hs]
  · have b1 : EX (cT (cOp eqD (cV 0) (cD (.str "sweep"))) [.dt (.str k), .dt first, .dt last, .dt (.tup cs), .un]) false := ext (ex_op (ex_v rfl) ex_d (by rw [q1]; simp [hs]))
    by_cases hx : last = .tup (cs.map numD)
    · have e : seenD k first last cs = .tup (cs.map pairD) := by unfold seenD; rw [if_pos (.inr hx)]
      rw [e]
      refine exs_rt (exs_if1 (ext_or0 b1 (ext (ex_op (ex_fn (ex_c (ex_v rfl) ex_n) nums) (ex_v rfl) ?_))) (exs_ret hp))
      rw [heq, decide_eq_true hx]
    · have c0 : EX (cOr (cT (cOp eqD (cV 0) (cD (.str "sweep")))) (cT (cOp eqD (cFn 1 f_numbers_of (cC (cV 3) cN)) (cV 2))) [.dt (.str k), .dt first, .dt last, .dt (.tup cs), .un]) false := by
        refine ext_or0 b1 (ext (ex_op (ex_fn (ex_c (ex_v rfl) ex_n) nums) (ex_v rfl) ?_))
        rw [heq, decide_eq_false hx]
      refine exs_seq (exs_if0 c0 exs_nx) ?_
      by_cases hb : k = "borrow"
      · have b2 : EX (cT (cOp eqD (cV 0) (cD (.str "borrow"))) [.dt (.str k), .dt first, .dt last, .dt (.tup cs), .un]) true := ext (ex_op (ex_v rfl) ex_d (by rw [q2]; simp [hb]))
        cases hf with
        | non =>
          have e : seenD k .non last cs = .non := by unfold seenD; rw [if_neg (by intro z; rcases z with z | z; exact hs z; exact hx z), if_pos hb]
          rw [e]
          exact exs_seq (exs_if0 (ext_and1 b2 (ext (ex_op (ex_v rfl) ex_d rfl))) exs_nx) (exs_ret ex_d)
        | of fs hfl =>
          have e : seenD k (.tup (fs.map .int)) last cs = lent fs cs := by
            unfold seenD; rw [if_neg (by intro z; rcases z with z | z; exact hs z; exact hx z), if_pos hb]
            simp [List.map_map, Function.comp_def]
          rw [e]
          exact exs_rt (exs_if1 (ext_and1 b2 (ext (ex_op (ex_v rfl) ex_d rfl))) (exs_ret (ex_fn (ex_c (ex_v rfl) (ex_c (ex_v rfl) ex_n)) (borrowed_eq h hfl))))
      · have e : seenD k first last cs = .non := by unfold seenD; rw [if_neg (by intro z; rcases z with z | z; exact hs z; exact hx z), if_neg hb]
        rw [e]
        exact exs_seq (exs_if0 (ext_and0 (ext (ex_op (ex_v rfl) ex_d (by rw [q2]; simp [hb])))) exs_nx) (exs_ret ex_d)
end Kk02
set_option Elab.async false
set_option linter.all false
set_option maxRecDepth 100000
set_option maxHeartbeats 4000000
namespace Kk02
open PySem L2 FD
theorem cut2 (a b c : D) : cutD [a, b, c] none (some 2) = [a, b] := by
  have e1 : HT.sIx 3 0 none = 0 := rfl
  have e2 : HT.sIx 3 3 (some 2) = 2 := rfl
  unfold cutD
  show ([a, b, c].drop (HT.sIx 3 0 none)).take (HT.sIx 3 3 (some 2) - HT.sIx 3 0 none) = _
  rw [e1, e2]; rfl
open Classical in
theorem law_seen_eq {k : Str} (hk : k ∈ MAN) {first last : D} {cs : List D} (h : ∀ c ∈ cs, CellS c) (hl : cs.length ≤ 100) (hf : Nums cs.length first) (hla : Nums cs.length last) : EX (f_law_seen [.str k, first, last, .tup cs]) (seenD k first last cs) := by
  have q1 := okMW hk "sweep" (okS (by decide +kernel))
  have q2 := okMW hk "borrow" (okS (by decide +kernel))
  refine exf (N := 8) ?_
  refine exs_seq (ρ1 := [.dt (.str k), .dt first, .dt last, .dt (.tup cs), .dt (.tup (cs.map numD)), .un, .un, .un]) (exs_asg (ex_call (ex_c (ex_lc (exi_s (ex_v rfl) rfl) (exc_map (F := numD) fun d hd => ⟨_, rfl, ?_⟩) (by simp; omega)) ex_n) rfl) rfl) ?_
  · obtain ⟨k, v, r, rfl⟩ := h d hd
    exact ex_op (ex_v rfl) ex_d rfl
  have hp : EX (cCall tupleD (cC (cLc (iS (cV 3)) [6] (gN 6) tY (cSl (cV 6) oN (oS (cD (.int 2))))) cN) [.dt (.str k), .dt first, .dt last, .dt (.tup cs), .dt (.tup (cs.map numD)), .un, .un, .un]) (.tup (cs.map pairD)) := by
    refine ex_call (ex_c (ex_lc (exi_s (ex_v rfl) rfl) (exc_map (F := pairD) fun d hd => ⟨_, rfl, ?_⟩) (by simp; omega)) ex_n) rfl
    obtain ⟨k, v, r, rfl⟩ := h d hd
    refine ex_sl (ex_v rfl) exo_n (exo_s ex_d) ?_
    show some (D.tup (cutD [.int k, .int v, r] none (some 2))) = _
    rw [cut2]; rfl
  by_cases hs : k = "sweep"
  · have e : seenD k first last cs = .tup (cs.map pairD) := by unfold seenD; rw [if_pos (.inl hs)]
    rw [e]
    exact exs_rt (exs_if1 (ext_or1 (ext (ex_op (ex_v rfl) ex_d (by rw [q1]; simp [hs])))) (exs_ret hp))
  have b1 : EX (cT (cOp eqD (cV 0) (cD (.str "sweep"))) [.dt (.str k), .dt first, .dt last, .dt (.tup cs), .dt (.tup (cs.map numD)), .un, .un, .un]) false := ext (ex_op (ex_v rfl) ex_d (by rw [q1]; simp [hs]))
  by_cases hx : last = .tup (cs.map numD)
  · have e : seenD k first last cs = .tup (cs.map pairD) := by unfold seenD; rw [if_pos (.inr hx)]
    rw [e]
    refine exs_rt (exs_if1 (ext_or0 b1 (ext_and1 (ext (ex_op (ex_v rfl) ex_d ?_)) (ext (ex_op (ex_v rfl) (ex_v rfl) ?_)))) (exs_ret hp))
    · rw [hx]; rfl
    · rw [hx, numD_map h, eqD_ints (by simp; omega) (by simp; omega)]; simp
  have c0 : EX (cOr (cT (cOp eqD (cV 0) (cD (.str "sweep")))) (cAnd (cT (cOp notND (cV 2) (cD .non))) (cT (cOp eqD (cV 2) (cV 4)))) [.dt (.str k), .dt first, .dt last, .dt (.tup cs), .dt (.tup (cs.map numD)), .un, .un, .un]) false := by
    refine ext_or0 b1 ?_
    cases hla with
    | non => exact ext_and0 (ext (ex_op (ex_v rfl) ex_d rfl))
    | of ms hm =>
      refine ext_and1 (ext (ex_op (ex_v rfl) ex_d rfl)) (ext (ex_op (ex_v rfl) (ex_v rfl) ?_))
      rw [numD_map h, eqD_ints (by omega) (by simp; omega)]
      congr 2
      refine decide_eq_false fun z => hx ?_
      rw [numD_map h, z]
  refine exs_seq (exs_if0 c0 exs_nx) ?_
  by_cases hb : k = "borrow"
  · have b2 : EX (cT (cOp eqD (cV 0) (cD (.str "borrow"))) [.dt (.str k), .dt first, .dt last, .dt (.tup cs), .dt (.tup (cs.map numD)), .un, .un, .un]) true := ext (ex_op (ex_v rfl) ex_d (by rw [q2]; simp [hb]))
    cases hf with
    | non =>
      have e : seenD k .non last cs = .non := by unfold seenD; rw [if_neg (by intro z; rcases z with z | z; exact hs z; exact hx z), if_pos hb]
      rw [e]
      exact exs_seq (exs_if0 (ext_and1 b2 (ext (ex_op (ex_v rfl) ex_d rfl))) exs_nx) (exs_ret ex_d)
    | of fs hfl =>
      have e : seenD k (.tup (fs.map .int)) last cs = lent fs cs := by
        unfold seenD; rw [if_neg (by intro z; rcases z with z | z; exact hs z; exact hx z), if_pos hb]
        simp [List.map_map, Function.comp_def]
      rw [e]
      let p : D → Bool := fun d => match d with
        | .int j => decide (((fs[j.toNat]?).getD 0) + 1 < ((cs.map numI)[j.toNat]?).getD 0)
        | _ => false
      have hfind := find_lent fs cs 0 p (fun j f c h1 h2 => by
        show decide (((fs[((0 + j : Nat) : Int).toNat]?).getD 0) + 1 < ((cs.map numI)[((0 + j : Nat) : Int).toNat]?).getD 0) = _
        have e0 : ((0 + j : Nat) : Int).toNat = j := by omega
        rw [e0, h1, List.getElem?_map, h2]
        simp only [Option.getD_some, Option.map_some]
        rw [decide_eq_decide]
        omega) hfl
      have e00 : (((0 : Nat)) : Int) = 0 := rfl
      rw [e00, hfl] at hfind
      have hlc : EX (cLc (iR1 (cC (cCall lenD (cC (cV 3) cN)) cN)) [7] (gN 7) (cT (cOp gtD (cOp ixD (cV 4) (cV 7)) (cOp addD (cOp ixD (cV 1) (cV 7)) (cD (.int 1))))) (cV 7) [.dt (.str k), .dt (.tup (fs.map .int)), .dt last, .dt (.tup cs), .dt (.tup (cs.map numD)), .un, .un, .un]) (.lst (((rngD 0 cs.length).filter p).map id)) := by
        refine ex_lc (exi_r (ex_call (ex_c (ex_v rfl) ex_n) rfl) (by omega)) (exc_fil (F := id) fun d hd => ⟨_, rfl, ?_, ex_v rfl⟩) ?_
        · unfold rngD at hd
          obtain ⟨j, hj, rfl⟩ := List.mem_map.mp hd
          have hj := List.mem_range.mp hj
          have hjf : j < fs.length := by omega
          have e0 : ((0 : Int) + (j : Int)) = ((j : Nat) : Int) := by omega
          rw [e0]
          have i1 : ixD (.tup (cs.map numD)) (.int ((j : Nat) : Int)) = some (.int (numI cs[j])) := by
            refine ix_nat ?_
            rw [numD_map h, List.getElem?_map, List.getElem?_map, List.getElem?_eq_getElem hj]; rfl
          have i2 : ixD (.tup (fs.map .int)) (.int ((j : Nat) : Int)) = some (.int fs[j]) := by
            refine ix_nat ?_
            rw [List.getElem?_map, List.getElem?_eq_getElem hjf]; rfl
          have pe : p (.int ((j : Nat) : Int)) = decide (fs[j] + 1 < numI cs[j]) := by
            show decide (((fs[((j : Nat) : Int).toNat]?).getD 0) + 1 < ((cs.map numI)[((j : Nat) : Int).toNat]?).getD 0) = _
            rw [Int.toNat_natCast, List.getElem?_eq_getElem hjf, List.getElem?_map, List.getElem?_eq_getElem hj]
            rfl
          rw [pe]
          exact ext (ex_op (ex_op (ex_v rfl) (ex_v rfl) i1) (ex_op (ex_op (ex_v rfl) (ex_v rfl) i2) ex_d rfl) rfl)
        · rw [List.length_map]
          refine Nat.le_trans (List.length_filter_le _ _) ?_
          simp [rngD]; omega
      rw [List.map_id] at hlc
      have cb : EX (cAnd (cT (cOp eqD (cV 0) (cD (.str "borrow")))) (cT (cOp notND (cV 1) (cD .non))) [.dt (.str k), .dt (.tup (fs.map .int)), .dt last, .dt (.tup cs), .dt (.tup (cs.map numD)), .un, .un, .un]) true := ext_and1 b2 (ext (ex_op (ex_v rfl) ex_d rfl))
      rcases hfind with ⟨z1, z2⟩ | ⟨j, c, r, z1, z2, z3⟩
      · rw [z2]
        rw [z1] at hlc
        exact exs_seq (exs_if1 cb (exs_seq (exs_asg hlc rfl) (exs_if0 (ext (ex_op (ex_call (ex_c (ex_v rfl) ex_n) rfl) ex_d rfl)) exs_nx))) (exs_ret ex_d)
      · rw [z3]
        rw [z1] at hlc
        have hcm : c ∈ cs := List.mem_of_getElem? z2
        obtain ⟨kk, vv, rr, rfl⟩ := h c hcm
        refine exs_rt (exs_if1 cb (exs_seq (exs_asg hlc rfl) (exs_if1 (ext (ex_op (ex_call (ex_c (ex_v rfl) ex_n) rfl) ex_d ?_)) (exs_ret (ex_op (ex_op (ex_v rfl) (ex_op (ex_v rfl) ex_d (by rw [ixD_lst (by omega)]; rfl)) (ix_nat (i := 0 + j) (by rw [Nat.zero_add]; exact z2))) ex_d rfl)))))
        simp only [gtD_int, List.length_cons]
        congr 2
        exact decide_eq_true (by omega)
  · have e : seenD k first last cs = .non := by unfold seenD; rw [if_neg (by intro z; rcases z with z | z; exact hs z; exact hx z), if_neg hb]
    rw [e]
    exact exs_seq (exs_if0 (ext_and0 (ext (ex_op (ex_v rfl) ex_d (by rw [q2]; simp [hb])))) exs_nx) (exs_ret ex_d)
end Kk02
set_option Elab.async false
set_option linter.all false
set_option maxRecDepth 100000
set_option maxHeartbeats 4000000
namespace Kk02
open PySem L2 FD
theorem inR_int {a b : Int} {d : D} (h : inR a b d = true) : ∃ i, d = .int i ∧ a ≤ i ∧ i ≤ b := by
  cases d <;> simp [inR] at h
  exact ⟨_, rfl, h.1, h.2⟩
theorem fld_kind (k d : D) : fldD "kind" (thePlay k d) = some k := rfl
theorem fld_inputs (k d : D) : fldD "inputs" (thePlay k d) = some d := rfl
/-- a see, a put -/
def deedD : Option Int → D
  | none => .tup [.str "see"]
  | some w => .tup [.str "put", .int w]
theorem deed_form {d : D} (h : deedB d = true) (hf : fine d = true) : ∃ o, d = deedD o ∧ ∀ w, o = some w → 0 ≤ w ∧ w ≤ 999 := by
  cases d with
  | tup xs =>
    match xs, h with
    | [], h => simp [deedB] at h
    | [x], h =>
      cases x <;> simp [deedB, isW] at h
      subst h
      exact ⟨none, rfl, fun w z => by cases z⟩
    | [x, y], h =>
      simp only [deedB, Bool.and_eq_true] at h
      obtain ⟨hx, hy⟩ := h
      obtain ⟨i, rfl, h0, h1⟩ := inR_int hy
      cases x <;> simp [isW] at hx
      subst hx
      exact ⟨some i, rfl, fun w z => by cases z; exact ⟨h0, h1⟩⟩
    | _ :: _ :: _ :: _, h => simp [deedB] at h
  | _ => simp [deedB] at h
def putsB (k : Str) (o : Option Int) (ready : D) : Bool := o.isSome && (!(k == "borrow") || !isNonB ready)
def stD (done : Nat) (first last : D) (now : List D) (ready : D) : D := .tup [.int (done : Nat), first, last, .tup now, ready]
theorem sSee : okStr "see" = true := okS (by decide +kernel)
theorem sPut : okStr "put" = true := okS (by decide +kernel)
theorem sBor : okStr "borrow" = true := okS (by decide +kernel)
theorem deed0 (o : Option Int) : ∃ w : Str, ixD (deedD o) (.int 0) = some (.str w) ∧ okStr w = true ∧ (w == "put") = o.isSome := by
  cases o with
  | none => exact ⟨_, rfl, sSee, by decide +kernel⟩
  | some w => exact ⟨_, rfl, sPut, by simp⟩
/-- what stands of one hand -/
structure At (k : Str) (ds : List D) (i : Nat) (ss : List D) (done : Nat) (o : Option Int) : Prop where
  hk : k ∈ MAN
  hi : ds[i]? = some (.tup ss)
  hd : ss[done]? = some (deedD o)
theorem puts_next_eq {k : Str} {ds ss : List D} {i done : Nat} {o : Option Int} (A : At k ds i ss done o) (first last : D) (now : List D) (ready : D) : EX (f_puts_next [thePlay (.str k) (.tup ds), .int i, stD done first last now ready]) (.bl (putsB k o ready)) := by
  obtain ⟨w, w1, w2, w3⟩ := deed0 o
  have ix : EX (cOp ixD (cOp ixD (cOp ixD (c1 (fldD "inputs") (cV 0)) (cV 1)) (cOp ixD (cV 2) (cD (.int 0)))) (cD (.int 0)) [.dt (thePlay (.str k) (.tup ds)), .dt (.int i), .dt (stD done first last now ready)]) (.str w) :=
    ex_op (ex_op (ex_op (ex_1 (ex_v rfl) (fld_inputs _ _)) (ex_v rfl) (ix_nat A.hi)) (ex_op (ex_v rfl) ex_d rfl) (ix_nat A.hd)) ex_d w1
  have ne := neD_str w2 sPut
  rw [w3] at ne
  refine exf (N := 3) ?_
  cases ho : o.isSome with
  | false =>
    rw [ho] at ne
    have e : putsB k o ready = false := by simp [putsB, ho]
    rw [e]
    exact exs_rt (exs_if1 (ext (ex_op ix ex_d ne)) (exs_ret ex_d))
  | true =>
    rw [ho] at ne
    have e : putsB k o ready = (!(k == "borrow") || !isNonB ready) := by simp [putsB, ho]
    rw [e]
    refine exs_seq (exs_if0 (ext (ex_op ix ex_d ne)) exs_nx) (exs_ret ?_)
    have nb := neD_str (okM k A.hk) sBor
    cases hb : (k == "borrow") with
    | false =>
      rw [hb] at nb
      exact ex_or1 (ex_op (ex_1 (ex_v rfl) (fld_kind _ _)) ex_d nb)
    | true =>
      rw [hb] at nb
      exact ex_or0 (ex_op (ex_1 (ex_v rfl) (fld_kind _ _)) ex_d nb) (ex_op (ex_op (ex_v rfl) ex_d rfl) ex_d (notND_non _))
theorem law_is_put_eq {k : Str} {ds ss cells states tolds : List D} {i done : Nat} {o : Option Int} (A : At k ds i ss done o) {first last : D} {now : List D} {ready : D} (hs : states[i]? = some (stD done first last now ready)) :
    EX (f_law_is_put [.str k, .tup ds, .tup [.tup cells, .tup states, .tup tolds], .int i]) (.bl (putsB k o ready)) := by
  obtain ⟨w, w1, w2, w3⟩ := deed0 o
  have eq := eqD_str w2 sPut
  rw [w3] at eq
  refine exf (N := 9) ?_
  refine exs_seq (exs_asg (x := stD done first last now ready) (ex_op (ex_op (ex_v rfl) ex_d rfl) (ex_v rfl) (ix_nat hs)) rfl) (exs_ret ?_)
  have ix : EX (cOp ixD (cOp ixD (cOp ixD (cV 1) (cV 3)) (cV 4)) (cD (.int 0)) [.dt (.str k), .dt (.tup ds), .dt (.tup [.tup cells, .tup states, .tup tolds]), .dt (.int i), .dt (.int (done : Nat)), .dt first, .dt last, .dt (.tup now), .dt ready]) (.str w) :=
    ex_op (ex_op (ex_op (ex_v rfl) (ex_v rfl) (ix_nat A.hi)) (ex_v rfl) (ix_nat A.hd)) ex_d w1
  cases ho : o.isSome with
  | false =>
    rw [ho] at eq
    have e : putsB k o ready = false := by simp [putsB, ho]
    rw [e]
    exact ex_and0 (ex_op ix ex_d eq)
  | true =>
    rw [ho] at eq
    have e : putsB k o ready = (!(k == "borrow") || !isNonB ready) := by simp [putsB, ho]
    rw [e]
    refine ex_and1 (ex_op ix ex_d eq) ?_
    have nb := neD_str (okM k A.hk) sBor
    cases hb : (k == "borrow") with
    | false =>
      rw [hb] at nb
      exact ex_or1 (ex_op (ex_v rfl) ex_d nb)
    | true =>
      rw [hb] at nb
      exact ex_or0 (ex_op (ex_v rfl) ex_d nb) (ex_op (ex_v rfl) ex_d (notND_non _))
/-! words -/
def wordD (k : Str) (o : Option Int) (now : List D) (ready : D) : D := if putsB k o ready = true then .tup [.str "put"] else .tup [.str "look", .int (now.length : Nat)]
theorem word_in_manner_eq {k : Str} {ds ss : List D} {i done : Nat} {o : Option Int} (A : At k ds i ss done o) (first last : D) (now : List D) (ready : D) : EX (f_word_in_manner [thePlay (.str k) (.tup ds), stD done first last now ready, .int i]) (wordD k o now ready) := by
  have p := puts_next_eq A first last now ready
  have pc : EX (cT (cFn 3 f_puts_next (cC (cV 0) (cC (cV 2) (cC (cV 1) cN)))) [.dt (thePlay (.str k) (.tup ds)), .dt (stD done first last now ready), .dt (.int i)]) (putsB k o ready) := ext (ex_fn (ex_c (ex_v rfl) (ex_c (ex_v rfl) (ex_c (ex_v rfl) ex_n))) p)
  refine exf (N := 3) ?_
  unfold wordD
  cases hp : putsB k o ready with
  | true =>
    rw [hp] at pc
    exact exs_rt (exs_if1 pc (exs_ret (ex_tup (ex_c ex_d ex_n))))
  | false =>
    rw [hp] at pc
    exact exs_seq (exs_if0 pc exs_nx) (exs_ret (ex_tup (ex_c ex_d (ex_c (ex_call (ex_c (ex_op (ex_v rfl) ex_d rfl) ex_n) rfl) ex_n))))
theorem law_next_eq {k : Str} {ds ss cells states tolds : List D} {i done : Nat} {o : Option Int} (A : At k ds i ss done o) {first last : D} {now : List D} {ready : D} (hs : states[i]? = some (stD done first last now ready)) :
    EX (f_law_next [.str k, .tup ds, .tup [.tup cells, .tup states, .tup tolds], .int i]) (wordD k o now ready) := by
  have p := law_is_put_eq (cells := cells) (tolds := tolds) A hs
  have pc : EX (cT (cFn 4 f_law_is_put (cC (cV 0) (cC (cV 1) (cC (cV 2) (cC (cV 3) cN))))) [.dt (.str k), .dt (.tup ds), .dt (.tup [.tup cells, .tup states, .tup tolds]), .dt (.int i)]) (putsB k o ready) := ext (ex_fn (ex_c (ex_v rfl) (ex_c (ex_v rfl) (ex_c (ex_v rfl) (ex_c (ex_v rfl) ex_n)))) p)
  refine exf (N := 4) ?_
  unfold wordD
  cases hp : putsB k o ready with
  | true =>
    rw [hp] at pc
    exact exs_rt (exs_if1 pc (exs_ret (ex_tup (ex_c ex_d ex_n))))
  | false =>
    rw [hp] at pc
    exact exs_seq (exs_if0 pc exs_nx) (exs_ret (ex_tup (ex_c ex_d (ex_c (ex_call (ex_c (ex_op (ex_op (ex_op (ex_v rfl) ex_d rfl) (ex_v rfl) (ix_nat hs)) ex_d rfl) ex_n) rfl) ex_n))))
end Kk02
set_option Elab.async false
set_option linter.all false
set_option maxRecDepth 100000
set_option maxHeartbeats 4000000
namespace Kk02
open PySem L2 FD
theorem add_nil (xs : List D) (h : xs.length ≤ 1000) : addD (.tup xs) (.tup []) = some (.tup xs) := by
  show (if xs.length + ([] : List D).length ≤ 1000 then some (D.tup (xs ++ [])) else none) = _
  rw [if_pos (by simpa using h), List.append_nil]
theorem add_tt {xs ys : List D} (h : xs.length + ys.length ≤ 1000) : addD (.tup xs) (.tup ys) = some (.tup (xs ++ ys)) := if_pos h
def wOf : Option Int → Int
  | some w => w
  | none => 0
theorem behind_put_eq {ss : List D} {done : Nat} {w : Int} (hd : ss[done]? = some (deedD (some w))) (c v : Int) (r first last : D) (now : List D) (ready : D) :
    EX (f_behind_put [.tup ss, .tup [.int c, .int v, r], stD done first last now ready]) (.tup [.tup [.int (c + 1), .int w, ready], aheadD ss ((done : Int) + 1), .tup []]) := by
  refine exf (N := 5) ?_
  refine exs_seq (exs_par (ex_c (ex_op (ex_v rfl) ex_d rfl) (ex_c (ex_op (ex_v rfl) ex_d rfl) ex_n))) ?_
  refine exs_seq (exs_asg (ex_tup (ex_c (ex_op (ex_op (ex_v rfl) ex_d rfl) ex_d rfl) (ex_c (ex_op (ex_op (ex_v rfl) (ex_v rfl) (ix_nat hd)) ex_d rfl) (ex_c (ex_v rfl) ex_n)))) rfl) ?_
  exact exs_ret (ex_tup (ex_c (ex_v rfl) (ex_c (ex_fn (ex_c (ex_v rfl) (ex_c (ex_op (ex_v rfl) ex_d rfl) ex_n)) (state_ahead_eq _ _)) (ex_c (ex_tup ex_n) ex_n))))
theorem behind_picture_eq {ss : List D} {done : Nat} {o : Option Int} (hd : ss[done]? = some (deedD o)) (pic : D) :
    EX (f_behind_picture [.tup ss, .int (done : Nat), pic]) (if o.isSome = true then .tup [stD done .non .non [] pic, .tup []] else .tup [aheadD ss ((done : Int) + 1), .tup [pic]]) := by
  obtain ⟨w, w1, w2, w3⟩ := deed0 o
  have eq := eqD_str w2 sPut
  rw [w3] at eq
  have c0 : EX (cT (cOp eqD (cOp ixD (cOp ixD (cV 0) (cV 1)) (cD (.int 0))) (cD (.str "put"))) [.dt (.tup ss), .dt (.int (done : Nat)), .dt pic]) o.isSome := ext (ex_op (ex_op (ex_op (ex_v rfl) (ex_v rfl) (ix_nat hd)) ex_d w1) ex_d eq)
  refine exf (N := 3) ?_
  cases ho : o.isSome with
  | true =>
    rw [ho] at c0
    exact exs_rt (exs_if1 c0 (exs_ret (ex_tup (ex_c (ex_tup (ex_c (ex_v rfl) (ex_c ex_d (ex_c ex_d (ex_c (ex_tup ex_n) (ex_c (ex_v rfl) ex_n)))))) (ex_c (ex_tup ex_n) ex_n)))))
  | false =>
    rw [ho] at c0
    exact exs_seq (exs_if0 c0 exs_nx) (exs_ret (ex_tup (ex_c (ex_fn (ex_c (ex_v rfl) (ex_c (ex_op (ex_v rfl) ex_d rfl) ex_n)) (state_ahead_eq _ _)) (ex_c (ex_tup (ex_c (ex_v rfl) ex_n)) ex_n))))
/-- behind one more cell -/
noncomputable def lookD (k : Str) (ss : List D) (done : Nat) (o : Option Int) (first last : D) (now2 : List D) (ready : D) (n : Nat) : D × List D :=
  if now2.length < n then (stD done first last now2 ready, [])
  else if isNonB (seenD k first last now2) = true then (stD done (if isNonB first = true then .tup (now2.map numD) else first) (.tup (now2.map numD)) [] ready, [])
  else if o.isSome = true then (stD done .non .non [] (seenD k first last now2), []) else (aheadD ss ((done : Int) + 1), [seenD k first last now2])
theorem behind_look_eq {k : Str} {ds ss cells : List D} {i done : Nat} {o : Option Int} (A : At k ds i ss done o) {first last : D} {now : List D} {ready x : D} (hx : cells[now.length]? = some x) (hc : ∀ c ∈ now ++ [x], CellS c) (hn : cells.length ≤ 100) (hf : Nums cells.length first) (hl : Nums cells.length last) :
    EX (f_behind_look [thePlay (.str k) (.tup ds), .tup cells, stD done first last now ready, .int i]) (.tup [(lookD k ss done o first last (now ++ [x]) ready cells.length).1, .tup (lookD k ss done o first last (now ++ [x]) ready cells.length).2]) := by
  have hlt : now.length < cells.length := (List.getElem?_eq_some_iff.mp hx).1
  refine exf (N := 11) ?_
  refine exs_seq (exs_asg (ex_v rfl) rfl) ?_
  refine exs_seq (exs_asg (x := .tup (now ++ [x])) (ex_op (ex_v rfl) (ex_tup (ex_c (ex_op (ex_v rfl) (ex_call (ex_c (ex_v rfl) ex_n) rfl) (ix_nat hx)) ex_n)) (add_tt (by simp; omega))) rfl) ?_
  have cL : EX (cT (cOp ltD (cCall lenD (cC (cV 4) cN)) (cCall lenD (cC (cV 1) cN))) [.dt (thePlay (.str k) (.tup ds)), .dt (.tup cells), .dt (stD done first last now ready), .dt (.int i), .dt (.tup (now ++ [x])), .un, .un, .dt (.int (done : Nat)), .dt first, .dt last, .dt ready]) (decide ((now ++ [x]).length < cells.length)) := by
    refine ext (ex_op (ex_call (ex_c (ex_v rfl) ex_n) rfl) (ex_call (ex_c (ex_v rfl) ex_n) rfl) ?_)
    rw [ltD_int]
    congr 2
    rw [decide_eq_decide]
    omega
  unfold lookD
  by_cases h1 : (now ++ [x]).length < cells.length
  · rw [if_pos h1]
    rw [decide_eq_true h1] at cL
    exact exs_rt (exs_if1 cL (exs_ret (ex_tup (ex_c (ex_tup (ex_c (ex_v rfl) (ex_c (ex_v rfl) (ex_c (ex_v rfl) (ex_c (ex_v rfl) (ex_c (ex_v rfl) ex_n)))))) (ex_c (ex_tup ex_n) ex_n)))))
  · rw [if_neg h1]
    rw [decide_eq_false h1] at cL
    have len2 : (now ++ [x]).length = cells.length := by simp at h1 ⊢; omega
    refine exs_seq (exs_if0 cL exs_nx) ?_
    have hp := picture_eq A.hk (first := first) (last := last) hc (by omega) (by rw [len2]; exact hf) (by rw [len2]; exact hl)
    have hnm := numbers_of_eq hc (by omega)
    generalize seenD k first last (now ++ [x]) = pic at hp ⊢
    refine exs_seq (exs_asg (ex_fn (ex_c (ex_1 (ex_v rfl) (fld_kind _ _)) (ex_c (ex_v rfl) (ex_c (ex_v rfl) (ex_c (ex_v rfl) ex_n)))) hp) rfl) ?_
    have cP : EX (cT (cOp notND (cV 5) (cD .non)) [.dt (thePlay (.str k) (.tup ds)), .dt (.tup cells), .dt (stD done first last now ready), .dt (.int i), .dt (.tup (now ++ [x])), .dt pic, .un, .dt (.int (done : Nat)), .dt first, .dt last, .dt ready]) (!isNonB pic) := ext (ex_op (ex_v rfl) ex_d (notND_non _))
    cases hb : isNonB pic with
    | false =>
      rw [hb] at cP
      have bp := behind_picture_eq A.hd pic
      rw [if_neg (by decide)]
      refine exs_rt (exs_if1 cP (exs_ret (ex_fn (ex_c (ex_op (ex_1 (ex_v rfl) (fld_inputs _ _)) (ex_v rfl) (ix_nat A.hi)) (ex_c (ex_v rfl) (ex_c (ex_v rfl) ex_n))) ?_)))
      cases ho : o.isSome with
      | true => rw [ho] at bp; exact bp
      | false => rw [ho] at bp; exact bp
    | true =>
      rw [hb] at cP
      rw [if_pos rfl]
      refine exs_seq (exs_if0 cP exs_nx) ?_
      refine exs_seq (exs_asg (ex_fn (ex_c (ex_v rfl) ex_n) hnm) rfl) ?_
      have cF : EX (cT (cOp isND (cV 8) (cD .non)) [.dt (thePlay (.str k) (.tup ds)), .dt (.tup cells), .dt (stD done first last now ready), .dt (.int i), .dt (.tup (now ++ [x])), .dt pic, .dt (.tup ((now ++ [x]).map numD)), .dt (.int (done : Nat)), .dt first, .dt last, .dt ready]) (isNonB first) := ext (ex_op (ex_v rfl) ex_d (isND_non _))
      cases hff : isNonB first with
      | true =>
        rw [hff] at cF
        exact exs_seq (exs_if1 cF (exs_asg (ex_v rfl) rfl)) (exs_ret (ex_tup (ex_c (ex_tup (ex_c (ex_v rfl) (ex_c (ex_v rfl) (ex_c (ex_v rfl) (ex_c (ex_tup ex_n) (ex_c (ex_v rfl) ex_n)))))) (ex_c (ex_tup ex_n) ex_n))))
      | false =>
        rw [hff] at cF
        exact exs_seq (exs_if0 cF exs_nx) (exs_ret (ex_tup (ex_c (ex_tup (ex_c (ex_v rfl) (ex_c (ex_v rfl) (ex_c (ex_v rfl) (ex_c (ex_tup ex_n) (ex_c (ex_v rfl) ex_n)))))) (ex_c (ex_tup ex_n) ex_n))))
/-- behind one step: the cell, the state, what is told anew -/
noncomputable def nextD (k : Str) (ss : List D) (done : Nat) (o : Option Int) (first last : D) (now : List D) (ready cell x : D) (n : Nat) : D × D × List D :=
  if putsB k o ready = true then (.tup [.int (numI cell + 1), .int (wOf o), ready], aheadD ss ((done : Int) + 1), [])
  else (cell, lookD k ss done o first last (now ++ [x]) ready n)
theorem step_in_manner_eq {k : Str} {ds ss cells : List D} {i done : Nat} {o : Option Int} (A : At k ds i ss done o) {first last : D} {now : List D} {ready x cell : D} (hcell : cells[i]? = some cell) (hcs : CellS cell) (hx : cells[now.length]? = some x) (hc : ∀ c ∈ now ++ [x], CellS c) (hn : cells.length ≤ 100) (hf : Nums cells.length first) (hl : Nums cells.length last) :
    EX (f_step_in_manner [thePlay (.str k) (.tup ds), .tup cells, stD done first last now ready, .int i]) (.tup [(nextD k ss done o first last now ready cell x cells.length).1, (nextD k ss done o first last now ready cell x cells.length).2.1, .tup (nextD k ss done o first last now ready cell x cells.length).2.2]) := by
  have p := puts_next_eq A first last now ready
  have pc : EX (cT (cFn 3 f_puts_next (cC (cV 0) (cC (cV 3) (cC (cV 2) cN)))) [.dt (thePlay (.str k) (.tup ds)), .dt (.tup cells), .dt (stD done first last now ready), .dt (.int i), .un]) (putsB k o ready) := ext (ex_fn (ex_c (ex_v rfl) (ex_c (ex_v rfl) (ex_c (ex_v rfl) ex_n))) p)
  refine exf (N := 5) ?_
  unfold nextD
  cases hp : putsB k o ready with
  | true =>
    rw [hp] at pc
    obtain ⟨c, v, r, rfl⟩ := hcs
    have ho : ∃ w, o = some w := by
      cases o with
      | none => simp [putsB] at hp
      | some w => exact ⟨w, rfl⟩
    obtain ⟨w, rfl⟩ := ho
    rw [if_pos rfl]
    exact exs_rt (exs_if1 pc (exs_ret (ex_fn (ex_c (ex_op (ex_1 (ex_v rfl) (fld_inputs _ _)) (ex_v rfl) (ix_nat A.hi)) (ex_c (ex_op (ex_v rfl) (ex_v rfl) (ix_nat hcell)) (ex_c (ex_v rfl) ex_n))) (behind_put_eq A.hd c v r first last now ready))))
  | false =>
    rw [hp] at pc
    rw [if_neg (by decide)]
    refine exs_seq (exs_if0 pc exs_nx) ?_
    refine exs_seq (exs_asg (ex_fn (ex_c (ex_v rfl) (ex_c (ex_v rfl) (ex_c (ex_v rfl) (ex_c (ex_v rfl) ex_n)))) (behind_look_eq A hx hc hn hf hl)) rfl) ?_
    exact exs_ret (ex_tup (ex_c (ex_op (ex_v rfl) (ex_v rfl) (ix_nat hcell)) (ex_c (ex_v rfl) (ex_c (ex_v rfl) ex_n))))
end Kk02
set_option Elab.async false
set_option linter.all false
set_option maxRecDepth 100000
set_option maxHeartbeats 4000000
namespace Kk02
open PySem L2 FD
theorem set_same {xs : List D} {i : Nat} {x : D} (h : xs[i]? = some x) : xs.set i x = xs := by
  apply List.ext_getElem?
  intro j
  by_cases hj : i = j
  · subst hj
    rw [List.getElem?_set_self (List.getElem?_eq_some_iff.mp h).1, h]
  · rw [List.getElem?_set_ne hj]
/-- what stands, and the hand i in it -/
structure Sta (k : Str) (ds : List D) (i : Nat) (ss : List D) (done : Nat) (o : Option Int) (cells states tolds : List D) (first last : D) (now : List D) (ready x cell : D) (ts : List D) : Prop where
  A : At k ds i ss done o
  cell_ : cells[i]? = some cell
  cs : CellS cell
  st : states[i]? = some (stD done first last now ready)
  td : tolds[i]? = some (.tup ts)
  hx : cells[now.length]? = some x
  hc : ∀ c ∈ now ++ [x], CellS c
  n1 : cells.length ≤ 100
  n2 : states.length = cells.length
  n3 : tolds.length = cells.length
  n4 : ds.length = cells.length
  n5 : ts.length ≤ 100
  f : Nums cells.length first
  l : Nums cells.length last
  r : putsB k o ready = false → ready = .non
noncomputable def newS (k : Str) (ss : List D) (i done : Nat) (o : Option Int) (cells states tolds : List D) (first last : D) (now : List D) (ready x cell : D) (ts : List D) : D :=
  .tup [.tup (cells.set i (nextD k ss done o first last now ready cell x cells.length).1), .tup (states.set i (nextD k ss done o first last now ready cell x cells.length).2.1), .tup (tolds.set i (.tup (ts ++ (nextD k ss done o first last now ready cell x cells.length).2.2)))]
section
variable {k : Str} {ds ss cells states tolds : List D} {i done : Nat} {o : Option Int} {first last : D} {now : List D} {ready x cell : D} {ts : List D}
theorem inMANN {k : Str} (hk : k ∈ MAN) : inD (.str k) k_MANNERS = some (.bl true) := by
  have := inD_strs k MAN
  rw [List.contains_iff_mem.mpr hk] at this
  exact this
theorem step_of_hand_eq (S : Sta k ds i ss done o cells states tolds first last now ready x cell ts) : EX (f_step_of_hand [thePlay (.str k) (.tup ds), .tup cells, stD done first last now ready, .int i]) (.tup [(nextD k ss done o first last now ready cell x cells.length).1, (nextD k ss done o first last now ready cell x cells.length).2.1, .tup (nextD k ss done o first last now ready cell x cells.length).2.2]) :=
  exf (N := 4) (exs_rt (exs_if1 (ext (ex_op (ex_1 (ex_v rfl) (fld_kind _ _)) ex_d (inMANN S.A.hk))) (exs_ret (ex_fn (ex_c (ex_v rfl) (ex_c (ex_v rfl) (ex_c (ex_v rfl) (ex_c (ex_v rfl) ex_n)))) (step_in_manner_eq S.A S.cell_ S.cs S.hx S.hc S.n1 S.f S.l)))))
theorem add_len (S : Sta k ds i ss done o cells states tolds first last now ready x cell ts) : (nextD k ss done o first last now ready cell x cells.length).2.2.length ≤ 1 := by
  unfold nextD lookD
  repeat' split
  all_goals simp
theorem standing_behind_eq (S : Sta k ds i ss done o cells states tolds first last now ready x cell ts) : EX (f_standing_behind [thePlay (.str k) (.tup ds), .tup [.tup cells, .tup states, .tup tolds], .int i]) (newS k ss i done o cells states tolds first last now ready x cell ts) := by
  have hi : i < cells.length := (List.getElem?_eq_some_iff.mp S.cell_).1
  have hs := step_of_hand_eq S
  have al := add_len S
  unfold newS
  generalize nextD k ss done o first last now ready cell x cells.length = N at hs al ⊢
  obtain ⟨c', s', a⟩ := N
  have n5 := S.n5
  refine exf (N := 9) ?_
  refine exs_seq (exs_asg (ex_v rfl) rfl) ?_
  refine exs_seq (exs_asg (ex_fn (ex_c (ex_v rfl) (ex_c (ex_v rfl) (ex_c (ex_op (ex_v rfl) (ex_v rfl) (ix_nat S.st)) (ex_c (ex_v rfl) ex_n)))) hs) rfl) ?_
  refine exs_ret (ex_tup (ex_c (ex_fn (ex_c (ex_v rfl) (ex_c (ex_v rfl) (ex_c (ex_v rfl) ex_n))) (put_at_eq hi (by have := S.n1; omega))) (ex_c (ex_fn (ex_c (ex_v rfl) (ex_c (ex_v rfl) (ex_c (ex_v rfl) ex_n))) (put_at_eq (by rw [S.n2]; exact hi) (by have := S.n1; have := S.n2; omega))) (ex_c (ex_fn (ex_c (ex_v rfl) (ex_c (ex_v rfl) (ex_c (ex_op (ex_op (ex_v rfl) (ex_v rfl) (ix_nat S.td)) (ex_v rfl) (add_tt ?_)) ex_n))) (put_at_eq (by rw [S.n3]; exact hi) (by have := S.n1; have := S.n3; omega))) ex_n))))
  show ts.length + a.length ≤ 1000
  have : a.length ≤ 1 := al
  omega
theorem many_eq (k : Str) (hk : k ∈ MAN) (ds : List D) : EX (f_many_hands [thePlay (.str k) (.tup ds)]) (.int (ds.length : Nat)) := by
  have q := okMW hk "near" (okS (by decide +kernel))
  have e : (k == ("near" : Str)) = false := by
    simp only [List.mem_cons, List.not_mem_nil, or_false] at hk
    rcases hk with rfl | rfl | rfl <;> decide +kernel
  rw [e] at q
  exact exf (N := 1) (exs_seq (exs_if0 (ext (ex_op (ex_1 (ex_v rfl) (fld_kind _ _)) ex_d q)) exs_nx) (exs_ret (ex_call (ex_c (ex_1 (ex_v rfl) (fld_inputs _ _)) ex_n) rfl)))
theorem is_hand_eq (hk : k ∈ MAN) (hi : i < ds.length) : EX (f_is_hand [thePlay (.str k) (.tup ds), .int i]) (.bl true) := by
  refine exf (N := 2) (exs_ret (ex_fn (ex_c (ex_fn (ex_c (ex_v rfl) ex_n) (many_eq k hk ds)) (ex_c (ex_v rfl) ex_n)) fun g => ?_))
  rw [is_number_below_eq _ rfl]
  congr 3
  simp [inR]
  omega
theorem check_turn_eq {st3 : D} (hk : k ∈ MAN) (hi : i < ds.length) (hs : states[i]? = some st3) (hn : isNonB st3 = false) {c t : D} : EX (f_check_turn [thePlay (.str k) (.tup ds), .tup [c, .tup states, t], .int i]) .non := by
  refine exf_nx (N := 3) (exs_seq (exs_if0 (ext_not (b := true) (ext (ex_fn (ex_c (ex_v rfl) (ex_c (ex_v rfl) ex_n)) (is_hand_eq hk hi)))) exs_nx) (exs_if0 (ext (ex_op (ex_op (ex_op (ex_v rfl) ex_d rfl) (ex_v rfl) (ix_nat hs)) ex_d ?_)) exs_nx))
  rw [isND_non, hn]
theorem step_eq (S : Sta k ds i ss done o cells states tolds first last now ready x cell ts) : EX (f_step [thePlay (.str k) (.tup ds), .tup [.tup cells, .tup states, .tup tolds], .int i]) (newS k ss i done o cells states tolds first last now ready x cell ts) := by
  have hi : i < ds.length := by rw [S.n4]; exact (List.getElem?_eq_some_iff.mp S.cell_).1
  exact exf (N := 3) (exs_seq (exs_drop (ex_fn (ex_c (ex_v rfl) (ex_c (ex_v rfl) (ex_c (ex_v rfl) ex_n))) (check_turn_eq S.A.hk hi S.st rfl))) (exs_ret (ex_fn (ex_c (ex_v rfl) (ex_c (ex_v rfl) (ex_c (ex_v rfl) ex_n))) (standing_behind_eq S))))
theorem next_step_eq (S : Sta k ds i ss done o cells states tolds first last now ready x cell ts) : EX (f_next_step [thePlay (.str k) (.tup ds), .tup [.tup cells, .tup states, .tup tolds], .int i]) (wordD k o now ready) := by
  have hi : i < ds.length := by rw [S.n4]; exact (List.getElem?_eq_some_iff.mp S.cell_).1
  refine exf (N := 3) (exs_seq (exs_drop (ex_fn (ex_c (ex_v rfl) (ex_c (ex_v rfl) (ex_c (ex_v rfl) ex_n))) (check_turn_eq S.A.hk hi S.st rfl))) (exs_ret (ex_fn (ex_c (ex_v rfl) (ex_c (ex_op (ex_op (ex_v rfl) ex_d rfl) (ex_v rfl) (ix_nat S.st)) (ex_c (ex_v rfl) ex_n))) ?_)))
  exact exf (N := 3) (exs_rt (exs_if1 (ext (ex_op (ex_1 (ex_v rfl) (fld_kind _ _)) ex_d (inMANN S.A.hk))) (exs_ret (ex_fn (ex_c (ex_v rfl) (ex_c (ex_v rfl) (ex_c (ex_v rfl) ex_n))) (word_in_manner_eq S.A first last now ready)))))
end
end Kk02
set_option Elab.async false
set_option linter.all false
set_option maxRecDepth 100000
set_option maxHeartbeats 400000
namespace Kk02
open PySem L2 FD
section
variable {k : Str} {ds ss cells states tolds : List D} {i done : Nat} {o : Option Int} {first last : D} {now : List D} {ready x cell : D} {ts : List D}
theorem deed1 (w : Int) : ixD (deedD (some w)) (.int 1) = some (.int w) := rfl
theorem law_stepped_eq (S : Sta k ds i ss done o cells states tolds first last now ready x cell ts) : EX (f_law_stepped [.str k, .tup ds, .tup [.tup cells, .tup states, .tup tolds], .int i]) (newS k ss i done o cells states tolds first last now ready x cell ts) := by
  have hi : i < cells.length := (List.getElem?_eq_some_iff.mp S.cell_).1
  have hlt : now.length < cells.length := (List.getElem?_eq_some_iff.mp S.hx).1
  have i2 : i < states.length := by rw [S.n2]; exact hi
  have i3 : i < tolds.length := by rw [S.n3]; exact hi
  have l1 : cells.length ≤ 400 := by have := S.n1; omega
  have l2 : states.length ≤ 400 := by have := S.n1; have := S.n2; omega
  have l3 : tolds.length ≤ 400 := by have := S.n1; have := S.n3; omega
  have n5 := S.n5
  have tsame : tolds.set i (.tup (ts ++ [])) = tolds := by rw [List.append_nil]; exact set_same S.td
  have csame : cells.set i cell = cells := set_same S.cell_
  obtain ⟨w0, w1, w2, w3⟩ := deed0 o
  refine exf (N := 16) ?_
  refine exs_seq (ρ1 := [.dt (.str k), .dt (.tup ds), .dt (.tup [.tup cells, .tup states, .tup tolds]), .dt (.int i), .un, .un, .un, .dt (.tup tolds), .dt (.tup cells), .dt (.tup states), .un, .un, .un, .un, .un, .un]) (exs_asg (ex_v rfl) rfl) ?_
  refine exs_seq (ρ1 := [.dt (.str k), .dt (.tup ds), .dt (.tup [.tup cells, .tup states, .tup tolds]), .dt (.int i), .un, .dt (.tup now), .un, .dt (.tup tolds), .dt (.tup cells), .dt (.tup states), .dt (.int (done : Nat)), .dt first, .dt last, .dt ready, .un, .un]) (exs_asg (x := stD done first last now ready) (ex_op (ex_v rfl) (ex_v rfl) (ix_nat S.st)) rfl) ?_
  refine exs_seq (ρ1 := [.dt (.str k), .dt (.tup ds), .dt (.tup [.tup cells, .tup states, .tup tolds]), .dt (.int i), .dt (deedD o), .dt (.tup now), .un, .dt (.tup tolds), .dt (.tup cells), .dt (.tup states), .dt (.int (done : Nat)), .dt first, .dt last, .dt ready, .un, .un]) (exs_asg (x := deedD o) (ex_op (ex_op (ex_v rfl) (ex_v rfl) (ix_nat S.A.hi)) (ex_v rfl) (ix_nat S.A.hd)) rfl) ?_
  have p := law_is_put_eq (cells := cells) (tolds := tolds) S.A S.st
  have pc : EX (cT (cFn 4 f_law_is_put (cC (cV 0) (cC (cV 1) (cC (cV 2) (cC (cV 3) cN))))) [.dt (.str k), .dt (.tup ds), .dt (.tup [.tup cells, .tup states, .tup tolds]), .dt (.int i), .dt (deedD o), .dt (.tup now), .un, .dt (.tup tolds), .dt (.tup cells), .dt (.tup states), .dt (.int (done : Nat)), .dt first, .dt last, .dt ready, .un, .un]) (putsB k o ready) :=
    ext (ex_fn (ex_c (ex_v rfl) (ex_c (ex_v rfl) (ex_c (ex_v rfl) (ex_c (ex_v rfl) ex_n)))) p)
  unfold newS nextD
  cases hp : putsB k o ready with
  | true =>
    rw [hp] at pc
    obtain ⟨c, v, r, rfl⟩ := S.cs
    have ho : ∃ w, o = some w := by
      cases o with
      | none => simp [putsB] at hp
      | some w => exact ⟨w, rfl⟩
    obtain ⟨w, rfl⟩ := ho
    rw [if_pos rfl]
    simp only
    rw [tsame]
    refine exs_rt (exs_if1 pc (exs_seq (exs_asg (ex_fn (ex_c (ex_v rfl) (ex_c (ex_v rfl) (ex_c (ex_tup (ex_c (ex_op (ex_op (ex_op (ex_v rfl) (ex_v rfl) (ix_nat S.cell_)) ex_d rfl) ex_d rfl) (ex_c (ex_op (ex_v rfl) ex_d (deed1 w)) (ex_c (ex_v rfl) ex_n)))) ex_n))) (law_put_at_eq hi l1)) rfl) (exs_ret (ex_tup (ex_c (ex_v rfl) (ex_c (ex_fn (ex_c (ex_v rfl) (ex_c (ex_v rfl) (ex_c (ex_fn (ex_c (ex_v rfl) (ex_c (ex_v rfl) (ex_c (ex_v rfl) ex_n))) (law_behind_eq S.A.hi _)) ex_n))) (law_put_at_eq i2 l2)) (ex_c (ex_v rfl) ex_n)))))))
  | false =>
    rw [hp] at pc
    have hr := S.r hp
    subst hr
    rw [if_neg (by decide)]
    simp only
    rw [csame]
    refine exs_seq (ρ1 := [.dt (.str k), .dt (.tup ds), .dt (.tup [.tup cells, .tup states, .tup tolds]), .dt (.int i), .dt (deedD o), .dt (.tup now), .un, .dt (.tup tolds), .dt (.tup cells), .dt (.tup states), .dt (.int (done : Nat)), .dt first, .dt last, .dt .non, .un, .un]) (exs_if0 pc exs_nx) ?_
    refine exs_seq (ρ1 := [.dt (.str k), .dt (.tup ds), .dt (.tup [.tup cells, .tup states, .tup tolds]), .dt (.int i), .dt (deedD o), .dt (.tup (now ++ [x])), .un, .dt (.tup tolds), .dt (.tup cells), .dt (.tup states), .dt (.int (done : Nat)), .dt first, .dt last, .dt .non, .un, .un]) (exs_asg (x := .tup (now ++ [x])) (ex_op (ex_v rfl) (ex_tup (ex_c (ex_op (ex_v rfl) (ex_call (ex_c (ex_v rfl) ex_n) rfl) (ix_nat S.hx)) ex_n)) (add_tt (by simp; have := S.n1; omega))) rfl) ?_
    have cL : EX (cT (cOp ltD (cCall lenD (cC (cV 5) cN)) (cCall lenD (cC (cV 8) cN))) [.dt (.str k), .dt (.tup ds), .dt (.tup [.tup cells, .tup states, .tup tolds]), .dt (.int i), .dt (deedD o), .dt (.tup (now ++ [x])), .un, .dt (.tup tolds), .dt (.tup cells), .dt (.tup states), .dt (.int (done : Nat)), .dt first, .dt last, .dt .non, .un, .un]) (decide ((now ++ [x]).length < cells.length)) := by
      refine ext (ex_op (ex_call (ex_c (ex_v rfl) ex_n) rfl) (ex_call (ex_c (ex_v rfl) ex_n) rfl) ?_)
      rw [ltD_int]
      congr 2
      rw [decide_eq_decide]
      omega
    unfold lookD
    by_cases h1 : (now ++ [x]).length < cells.length
    · rw [if_pos h1]
      rw [decide_eq_true h1] at cL
      simp only
      rw [tsame]
      exact exs_rt (exs_if1 cL (exs_ret (ex_tup (ex_c (ex_v rfl) (ex_c (ex_fn (ex_c (ex_v rfl) (ex_c (ex_v rfl) (ex_c (ex_tup (ex_c (ex_v rfl) (ex_c (ex_v rfl) (ex_c (ex_v rfl) (ex_c (ex_v rfl) (ex_c (ex_v rfl) ex_n)))))) ex_n))) (law_put_at_eq i2 l2)) (ex_c (ex_v rfl) ex_n))))))
    · rw [if_neg h1]
      rw [decide_eq_false h1] at cL
      have len2 : (now ++ [x]).length = cells.length := by simp at h1 ⊢; omega
      refine exs_seq (ρ1 := [.dt (.str k), .dt (.tup ds), .dt (.tup [.tup cells, .tup states, .tup tolds]), .dt (.int i), .dt (deedD o), .dt (.tup (now ++ [x])), .un, .dt (.tup tolds), .dt (.tup cells), .dt (.tup states), .dt (.int (done : Nat)), .dt first, .dt last, .dt .non, .un, .un]) (exs_if0 cL exs_nx) ?_
      have hs := law_seen_eq S.A.hk (first := first) (last := last) S.hc (by have := S.n1; omega) (by rw [len2]; exact S.f) (by rw [len2]; exact S.l)
      have hnm : EX (cCall tupleD (cC (cLc (iS (cV 5)) [15] (gN 15) tY (cOp ixD (cV 15) (cD (.int 0)))) cN) [.dt (.str k), .dt (.tup ds), .dt (.tup [.tup cells, .tup states, .tup tolds]), .dt (.int i), .dt (deedD o), .dt (.tup (now ++ [x])), .dt (seenD k first last (now ++ [x])), .dt (.tup tolds), .dt (.tup cells), .dt (.tup states), .dt (.int (done : Nat)), .dt first, .dt last, .dt .non, .un, .un]) (.tup ((now ++ [x]).map numD)) := by
        refine ex_call (ex_c (ex_lc (exi_s (ex_v rfl) rfl) (exc_map (F := numD) fun d hd => ⟨_, rfl, ?_⟩) (by have := S.n1; simp; omega)) ex_n) rfl
        obtain ⟨kk, vv, rr, rfl⟩ := S.hc d hd
        exact ex_op (ex_v rfl) ex_d rfl
      generalize seenD k first last (now ++ [x]) = pic at hs hnm ⊢
      refine exs_seq (ρ1 := [.dt (.str k), .dt (.tup ds), .dt (.tup [.tup cells, .tup states, .tup tolds]), .dt (.int i), .dt (deedD o), .dt (.tup (now ++ [x])), .dt pic, .dt (.tup tolds), .dt (.tup cells), .dt (.tup states), .dt (.int (done : Nat)), .dt first, .dt last, .dt .non, .un, .un]) (exs_asg (ex_fn (ex_c (ex_v rfl) (ex_c (ex_v rfl) (ex_c (ex_v rfl) (ex_c (ex_v rfl) ex_n)))) hs) rfl) ?_
      have cP : EX (cT (cOp isND (cV 6) (cD .non)) [.dt (.str k), .dt (.tup ds), .dt (.tup [.tup cells, .tup states, .tup tolds]), .dt (.int i), .dt (deedD o), .dt (.tup (now ++ [x])), .dt pic, .dt (.tup tolds), .dt (.tup cells), .dt (.tup states), .dt (.int (done : Nat)), .dt first, .dt last, .dt .non, .un, .un]) (isNonB pic) := ext (ex_op (ex_v rfl) ex_d (isND_non _))
      cases hb : isNonB pic with
      | true =>
        rw [hb] at cP
        rw [if_pos rfl]
        simp only
        rw [tsame]
        have cF : EX (cT (cOp isND (cV 11) (cD .non)) [.dt (.str k), .dt (.tup ds), .dt (.tup [.tup cells, .tup states, .tup tolds]), .dt (.int i), .dt (deedD o), .dt (.tup (now ++ [x])), .dt pic, .dt (.tup tolds), .dt (.tup cells), .dt (.tup states), .dt (.int (done : Nat)), .dt first, .dt last, .dt .non, .dt (.tup ((now ++ [x]).map numD)), .un]) (isNonB first) := ext (ex_op (ex_v rfl) ex_d (isND_non _))
        refine exs_rt (exs_if1 cP (exs_seq (ρ1 := [.dt (.str k), .dt (.tup ds), .dt (.tup [.tup cells, .tup states, .tup tolds]), .dt (.int i), .dt (deedD o), .dt (.tup (now ++ [x])), .dt pic, .dt (.tup tolds), .dt (.tup cells), .dt (.tup states), .dt (.int (done : Nat)), .dt first, .dt last, .dt .non, .dt (.tup ((now ++ [x]).map numD)), .un]) (exs_asg hnm rfl) ?_))
        cases hff : isNonB first with
        | true =>
          rw [hff] at cF
          show EX _ (Fl.rt (D.tup [.tup cells, .tup (states.set i (stD done (.tup ((now ++ [x]).map numD)) (.tup ((now ++ [x]).map numD)) [] .non)), .tup tolds]))
          exact exs_seq (ρ1 := [.dt (.str k), .dt (.tup ds), .dt (.tup [.tup cells, .tup states, .tup tolds]), .dt (.int i), .dt (deedD o), .dt (.tup (now ++ [x])), .dt pic, .dt (.tup tolds), .dt (.tup cells), .dt (.tup states), .dt (.int (done : Nat)), .dt (.tup ((now ++ [x]).map numD)), .dt last, .dt .non, .dt (.tup ((now ++ [x]).map numD)), .un]) (exs_if1 cF (exs_asg (ex_v rfl) rfl)) (exs_ret (ex_tup (ex_c (ex_v rfl) (ex_c (ex_fn (ex_c (ex_v rfl) (ex_c (ex_v rfl) (ex_c (ex_tup (ex_c (ex_v rfl) (ex_c (ex_v rfl) (ex_c (ex_v rfl) (ex_c (ex_tup ex_n) (ex_c ex_d ex_n)))))) ex_n))) (law_put_at_eq i2 l2)) (ex_c (ex_v rfl) ex_n)))))
        | false =>
          rw [hff] at cF
          show EX _ (Fl.rt (D.tup [.tup cells, .tup (states.set i (stD done first (.tup ((now ++ [x]).map numD)) [] .non)), .tup tolds]))
          exact exs_seq (ρ1 := [.dt (.str k), .dt (.tup ds), .dt (.tup [.tup cells, .tup states, .tup tolds]), .dt (.int i), .dt (deedD o), .dt (.tup (now ++ [x])), .dt pic, .dt (.tup tolds), .dt (.tup cells), .dt (.tup states), .dt (.int (done : Nat)), .dt first, .dt last, .dt .non, .dt (.tup ((now ++ [x]).map numD)), .un]) (exs_if0 cF exs_nx) (exs_ret (ex_tup (ex_c (ex_v rfl) (ex_c (ex_fn (ex_c (ex_v rfl) (ex_c (ex_v rfl) (ex_c (ex_tup (ex_c (ex_v rfl) (ex_c (ex_v rfl) (ex_c (ex_v rfl) (ex_c (ex_tup ex_n) (ex_c ex_d ex_n)))))) ex_n))) (law_put_at_eq i2 l2)) (ex_c (ex_v rfl) ex_n)))))
      | false =>
        rw [hb] at cP
        rw [if_neg (by decide)]
        refine exs_seq (ρ1 := [.dt (.str k), .dt (.tup ds), .dt (.tup [.tup cells, .tup states, .tup tolds]), .dt (.int i), .dt (deedD o), .dt (.tup (now ++ [x])), .dt pic, .dt (.tup tolds), .dt (.tup cells), .dt (.tup states), .dt (.int (done : Nat)), .dt first, .dt last, .dt .non, .un, .un]) (exs_if0 cP exs_nx) ?_
        have eq := eqD_str w2 sPut
        rw [w3] at eq
        have cO : EX (cT (cOp eqD (cOp ixD (cV 4) (cD (.int 0))) (cD (.str "put"))) [.dt (.str k), .dt (.tup ds), .dt (.tup [.tup cells, .tup states, .tup tolds]), .dt (.int i), .dt (deedD o), .dt (.tup (now ++ [x])), .dt pic, .dt (.tup tolds), .dt (.tup cells), .dt (.tup states), .dt (.int (done : Nat)), .dt first, .dt last, .dt .non, .un, .un]) o.isSome := ext (ex_op (ex_op (ex_v rfl) ex_d w1) ex_d eq)
        cases ho : o.isSome with
        | true =>
          rw [ho] at cO
          rw [if_pos rfl]
          simp only
          rw [tsame]
          exact exs_rt (exs_if1 cO (exs_ret (ex_tup (ex_c (ex_v rfl) (ex_c (ex_fn (ex_c (ex_v rfl) (ex_c (ex_v rfl) (ex_c (ex_tup (ex_c (ex_v rfl) (ex_c ex_d (ex_c ex_d (ex_c (ex_tup ex_n) (ex_c (ex_v rfl) ex_n)))))) ex_n))) (law_put_at_eq i2 l2)) (ex_c (ex_v rfl) ex_n))))))
        | false =>
          rw [ho] at cO
          rw [if_neg (by decide)]
          refine exs_seq (ρ1 := [.dt (.str k), .dt (.tup ds), .dt (.tup [.tup cells, .tup states, .tup tolds]), .dt (.int i), .dt (deedD o), .dt (.tup (now ++ [x])), .dt pic, .dt (.tup tolds), .dt (.tup cells), .dt (.tup states), .dt (.int (done : Nat)), .dt first, .dt last, .dt .non, .un, .un]) (exs_if0 cO exs_nx) ?_
          refine exs_seq (ρ1 := [.dt (.str k), .dt (.tup ds), .dt (.tup [.tup cells, .tup states, .tup tolds]), .dt (.int i), .dt (deedD o), .dt (.tup (now ++ [x])), .dt pic, .dt (.tup (tolds.set i (.tup (ts ++ [pic])))), .dt (.tup cells), .dt (.tup states), .dt (.int (done : Nat)), .dt first, .dt last, .dt .non, .un, .un]) (exs_asg (ex_fn (ex_c (ex_v rfl) (ex_c (ex_v rfl) (ex_c (ex_op (ex_op (ex_v rfl) (ex_v rfl) (ix_nat S.td)) (ex_tup (ex_c (ex_v rfl) ex_n)) (add_tt (by simp; omega))) ex_n))) (law_put_at_eq i3 l3)) rfl) ?_
          exact exs_ret (ex_tup (ex_c (ex_v rfl) (ex_c (ex_fn (ex_c (ex_v rfl) (ex_c (ex_v rfl) (ex_c (ex_fn (ex_c (ex_v rfl) (ex_c (ex_v rfl) (ex_c (ex_v rfl) ex_n))) (law_behind_eq S.A.hi _)) ex_n))) (law_put_at_eq i2 l2)) (ex_c (ex_v rfl) ex_n))))
end
end Kk02
set_option Elab.async false
set_option linter.all false
set_option maxRecDepth 100000
set_option maxHeartbeats 400000
namespace Kk02
open PySem L2 FD
def cell0 : D := .tup [.int 0, .int 0, .non]
def startD : D → D
  | .tup ss => aheadD ss 0
  | _ => .non
def firstD (ds : List D) : D := .tup [.tup (ds.map fun _ => cell0), .tup (ds.map startD), .tup (ds.map fun _ => .tup [])]
theorem flat_rep (d : D) (n : Nat) : (List.replicate n [d]).flatten = List.replicate n d := by
  induction n with
  | zero => rfl
  | succ n ih => rw [List.replicate_succ, List.flatten_cons, ih, List.replicate_succ]; rfl
theorem map_same (ds : List D) (c : D) : (ds.map fun _ => c) = List.replicate ds.length c := by
  induction ds with
  | nil => rfl
  | cons d ds ih => rw [List.map_cons, ih]; rfl
theorem mul_rep (d : D) {n : Nat} (h1 : 1 ≤ n) (h2 : n ≤ 500) : mulD2 (.tup [d]) (.int (n : Nat)) = some (.tup (List.replicate n d)) := by
  by_cases h : n = 1
  · subst h; rfl
  · have e : mulD2 (.tup [d]) (.int (n : Nat)) = mulD (.tup [d]) (.int (n : Nat)) := by
      unfold mulD2
      split
      · rename_i h3 h4
        have := D.int.inj h4
        omega
      · rfl
    rw [e]
    show (if _ then _ else _) = _
    rw [if_pos ⟨by simp, by omega, by omega, by simp, by simp; omega⟩]
    rw [show ((n : Nat) : Int).toNat = n from rfl, flat_rep]
theorem law_first_eq {ds : List D} (h : ∀ d ∈ ds, ∃ ss, d = .tup ss) (h1 : 1 ≤ ds.length) (h2 : ds.length ≤ 500) : EX (f_law_first [.tup ds]) (firstD ds) := by
  have e1 := map_same ds cell0
  have e3 := map_same ds (D.tup [])
  unfold firstD
  rw [e1, e3]
  refine exf (N := 3) ?_
  refine exs_seq (ρ1 := [.dt (.tup ds), .dt (.tup (ds.map startD)), .un]) (exs_asg (ex_call (ex_c (ex_lc (exi_s (ex_v rfl) rfl) (exc_map (F := startD) fun d hd => ⟨_, rfl, ?_⟩) (by simp; omega)) ex_n) rfl) rfl) ?_
  · obtain ⟨ss, rfl⟩ := h d hd
    refine ex_op (x := .lst [.non, fresh 0]) (ex_lst (ex_c ex_d (ex_c (ex_tup (ex_c ex_d (ex_c ex_d (ex_c ex_d (ex_c (ex_tup ex_n) (ex_c ex_d ex_n)))))) ex_n))) (ex_call (ex_c (ex_op (ex_call (ex_c (ex_v rfl) ex_n) rfl) ex_d rfl) ex_n) rfl) ?_
    show ixD (.lst [.non, fresh 0]) (.int (if decide ((0 : Int) < ((ss.length : Nat) : Int)) = true then 1 else 0)) = some (if (0 : Int) = ((ss.length : Nat) : Int) then .non else fresh 0)
    by_cases z : ss.length = 0
    · rw [decide_eq_false (by omega), if_neg (by decide), if_pos (by omega)]; rfl
    · rw [decide_eq_true (by omega), if_pos rfl, if_neg (by omega)]; rfl
  refine exs_ret (ex_tup (ex_c (ex_op (x := .tup [cell0]) (ex_tup (ex_c (ex_tup (ex_c ex_d (ex_c ex_d (ex_c ex_d ex_n)))) ex_n)) (ex_call (ex_c (ex_v rfl) ex_n) rfl) (mul_rep _ h1 h2)) (ex_c (ex_v rfl) (ex_c (ex_op (x := .tup [.tup []]) (ex_tup (ex_c (ex_tup ex_n) ex_n)) (ex_call (ex_c (ex_v rfl) ex_n) rfl) (mul_rep _ h1 h2)) ex_n))))
theorem first_of_hand_eq {k : Str} {ds ss : List D} {i : Nat} (hk : k ∈ MAN) (hi : ds[i]? = some (.tup ss)) : EX (f_first_of_hand [thePlay (.str k) (.tup ds), .int i]) (.tup [cell0, aheadD ss 0]) :=
  exf (N := 2) (exs_rt (exs_if1 (ext (ex_op (ex_1 (ex_v rfl) (fld_kind _ _)) ex_d (inMANN hk))) (exs_ret (ex_fn (ex_c (ex_v rfl) (ex_c (ex_v rfl) ex_n)) (exf (N := 2) (exs_ret (ex_tup (ex_c ex_d (ex_c (ex_fn (ex_c (ex_op (ex_1 (ex_v rfl) (fld_inputs _ _)) (ex_v rfl) (ix_nat hi)) (ex_c ex_d ex_n)) (state_ahead_eq _ _)) ex_n)))))))))
def fstD : D → D
  | .tup [a, _] => a
  | _ => .non
def sndD : D → D
  | .tup [_, a] => a
  | _ => .non
theorem rng_map {ds : List D} (F : D → D) (G : D → D) (h : ∀ (j : Nat) (d : D), ds[j]? = some d → F (.int ((j : Nat) : Int)) = G d) : (rngD 0 ds.length).map F = ds.map G := by
  apply List.ext_getElem?
  intro j
  unfold rngD
  rw [List.map_map, List.getElem?_map, List.getElem?_map]
  by_cases hj : j < ds.length
  · rw [List.getElem?_range hj, List.getElem?_eq_getElem hj]
    simp only [Option.map_some, Function.comp]
    rw [show (0 : Int) + (j : Int) = ((j : Nat) : Int) by omega, h j ds[j] (List.getElem?_eq_getElem hj)]
  · rw [List.getElem?_eq_none (l := List.range ds.length) (by simp; omega), List.getElem?_eq_none (l := ds) (by omega)]; rfl
theorem first_standing_eq {k : Str} {ds : List D} (hk : k ∈ MAN) (h : ∀ d ∈ ds, ∃ ss, d = .tup ss) (h2 : ds.length ≤ 500) : EX (f_first_standing [thePlay (.str k) (.tup ds)]) (firstD ds) := by
  let F : D → D := fun d => match d with
    | .int j => .tup [cell0, startD ((ds[j.toNat]?).getD .non)]
    | _ => .non
  have hF : ∀ (j : Nat) (d : D), ds[j]? = some d → F (.int ((j : Nat) : Int)) = .tup [cell0, startD d] := fun j d hd => by
    show D.tup [cell0, startD ((ds[((j : Nat) : Int).toNat]?).getD .non)] = _
    rw [Int.toNat_natCast, hd]; rfl
  have fm := rng_map F (fun d => .tup [cell0, startD d]) hF
  refine exf (N := 9) ?_
  refine exs_seq (ρ1 := [.dt (thePlay (.str k) (.tup ds)), .dt (.rng 0 (ds.length : Nat)), .un, .un, .un, .un, .un, .un, .un]) (exs_asg (ex_call (ex_c (ex_fn (ex_c (ex_v rfl) ex_n) (many_eq k hk ds)) ex_n) rfl) rfl) ?_
  refine exs_seq (ρ1 := [.dt (thePlay (.str k) (.tup ds)), .dt (.rng 0 (ds.length : Nat)), .dt (.lst ((rngD 0 ds.length).map F)), .un, .un, .un, .un, .un, .un]) (exs_asg (ex_lc (exi_v (ex_v rfl) (by omega)) (exc_map (F := F) fun d hd => ⟨_, rfl, ?_⟩) (by simp [rngD]; omega)) rfl) ?_
  · unfold rngD at hd
    obtain ⟨j, hj, rfl⟩ := List.mem_map.mp hd
    have hj := List.mem_range.mp hj
    have hx : ds[j]? = some ds[j] := List.getElem?_eq_getElem hj
    obtain ⟨ss, hs⟩ := h _ (List.mem_of_getElem? hx)
    have e0 : ((0 : Int) + (j : Int)) = ((j : Nat) : Int) := by omega
    rw [e0, hF j _ hx, hs]
    exact ex_fn (ex_c (ex_v rfl) (ex_c (ex_v rfl) ex_n)) (first_of_hand_eq hk (by rw [hx, hs]))
  rw [fm]
  refine exs_seq (ρ1 := [.dt (thePlay (.str k) (.tup ds)), .dt (.rng 0 (ds.length : Nat)), .dt (.lst (ds.map fun d => .tup [cell0, startD d])), .dt (.tup ((ds.map fun d => D.tup [cell0, startD d]).map fstD)), .un, .un, .un, .un, .un]) (exs_asg (ex_call (ex_c (ex_lc (exi_s (ex_v rfl) rfl) (exc_map (F := fstD) fun d hd => ?_) (by simp; omega)) ex_n) rfl) rfl) ?_
  · obtain ⟨e, _, rfl⟩ := List.mem_map.mp hd
    exact ⟨_, rfl, ex_v rfl⟩
  refine exs_seq (ρ1 := [.dt (thePlay (.str k) (.tup ds)), .dt (.rng 0 (ds.length : Nat)), .dt (.lst (ds.map fun d => .tup [cell0, startD d])), .dt (.tup ((ds.map fun d => D.tup [cell0, startD d]).map fstD)), .dt (.tup ((ds.map fun d => D.tup [cell0, startD d]).map sndD)), .un, .un, .un, .un]) (exs_asg (ex_call (ex_c (ex_lc (exi_s (ex_v rfl) rfl) (exc_map (F := sndD) fun d hd => ?_) (by simp; omega)) ex_n) rfl) rfl) ?_
  · obtain ⟨e, _, rfl⟩ := List.mem_map.mp hd
    exact ⟨_, rfl, ex_v rfl⟩
  have e1 : (ds.map fun d => D.tup [cell0, startD d]).map fstD = ds.map fun _ => cell0 := by
    rw [List.map_map]; rfl
  have e2 : (ds.map fun d => D.tup [cell0, startD d]).map sndD = ds.map startD := by
    rw [List.map_map]; rfl
  have e3 := rng_map (ds := ds) (fun _ => D.tup []) (fun _ => D.tup []) (fun _ _ _ => rfl)
  rw [e1, e2]
  unfold firstD
  rw [← e3]
  exact exs_ret (ex_tup (ex_c (ex_v rfl) (ex_c (ex_v rfl) (ex_c (ex_call (ex_c (ex_lc (exi_v (ex_v rfl) (by omega)) (exc_map (F := fun _ => .tup []) fun d hd => ⟨_, rfl, ex_tup ex_n⟩) (by simp [rngD]; omega)) ex_n) rfl) ex_n))))
end Kk02
set_option Elab.async false
set_option linter.all false
set_option maxRecDepth 100000
set_option maxHeartbeats 400000
namespace Kk02
open PySem L2 FD
/-- the hands that are not over -/
def goes (states : List D) : D → Bool
  | .int j => !isNonB ((states[j.toNat]?).getD .non)
  | _ => false
def ableL (states : List D) : List D := (rngD 0 states.length).filter (goes states)
theorem enum_able (p : D → Bool) : ∀ (xs : List D) (a : Nat), (∀ (j : Nat) (d : D), xs[j]? = some d → p (.int ((a + j : Nat) : Int)) = !isNonB d) →
    ((((xs.zipIdx a).map fun q => D.tup [.int (q.2 : Nat), q.1]).filter fun d => !isNonB (sndD d)).map fstD) = (rngD (a : Int) xs.length).filter p
  | [], _, _ => rfl
  | x :: xs, a, h => by
    have h0 := h 0 x rfl
    rw [Nat.add_zero] at h0
    have e1 : ((a : Int) + 1) = ((a + 1 : Nat) : Int) := by omega
    have ih := enum_able p xs (a + 1) fun j d hd => by
      rw [show a + 1 + j = a + (j + 1) by omega]; exact h (j + 1) d (by simpa using hd)
    rw [List.zipIdx_cons, List.map_cons, List.length_cons, rngD_cons, List.filter_cons, List.filter_cons, h0, e1]
    show ((if (!isNonB x) = true then _ else _) : List D).map fstD = _
    by_cases hx : (!isNonB x) = true
    · rw [if_pos hx, if_pos hx, List.map_cons, ih]; rfl
    · rw [if_neg hx, if_neg hx, ih]
theorem goes_at {states : List D} {j : Nat} {d : D} (h : states[j]? = some d) : goes states (.int ((j : Nat) : Int)) = !isNonB d := by
  show (!isNonB ((states[((j : Nat) : Int).toNat]?).getD .non)) = _
  rw [Int.toNat_natCast, h]; rfl
theorem able_len (states : List D) : (ableL states).length ≤ states.length := by
  unfold ableL
  refine Nat.le_trans (List.length_filter_le _ _) ?_
  simp [rngD]
theorem can_step_eq {states : List D} (hl : states.length ≤ 500) (play c t : D) : EX (f_can_step [play, .tup [c, .tup states, t]]) (.tup (ableL states)) := by
  have e := enum_able (goes states) states 0 (fun j d hd => by rw [Nat.zero_add]; exact goes_at hd)
  have e0 : ((0 : Nat) : Int) = 0 := rfl
  rw [e0] at e
  have al := able_len states
  unfold ableL at al ⊢
  rw [← e] at al ⊢
  refine exf (N := 4) (exs_ret (ex_call (ex_c (ex_lc (exi_e (ex_c (ex_op (ex_v rfl) ex_d rfl) ex_n) rfl) (exc_fil (p := fun d => !isNonB (sndD d)) (F := fstD) fun d hd => ?_) (by omega)) ex_n) rfl))
  obtain ⟨⟨x, j⟩, _, rfl⟩ := List.mem_map.mp hd
  exact ⟨_, rfl, ext (ex_op (ex_v rfl) ex_d (notND_non _)), ex_v rfl⟩
/-- one of those that go: its number and what stands of it -/
theorem mem_able {states : List D} {d : D} (h : d ∈ ableL states) : ∃ (i : Nat) (s : D), d = .int ((i : Nat) : Int) ∧ states[i]? = some s ∧ isNonB s = false := by
  unfold ableL at h
  obtain ⟨h1, h2⟩ := List.mem_filter.mp h
  unfold rngD at h1
  obtain ⟨i, hi, rfl⟩ := List.mem_map.mp h1
  have hi := List.mem_range.mp hi
  have hs : states[i]? = some states[i] := List.getElem?_eq_getElem hi
  have e0 : ((0 : Int) + (i : Int)) = ((i : Nat) : Int) := by omega
  rw [e0] at h2 ⊢
  rw [goes_at hs] at h2
  exact ⟨i, _, rfl, hs, by simpa using h2⟩
theorem able_ints {states : List D} {d : D} (h : d ∈ ableL states) : ∃ (i : Nat), d = .int ((i : Nat) : Int) ∧ i < states.length := by
  obtain ⟨i, s, rfl, hs, _⟩ := mem_able h
  exact ⟨i, rfl, (List.getElem?_eq_some_iff.mp hs).1⟩
theorem able_plain {states : List D} (hl : states.length ≤ 500) : plain 2 (.tup (ableL states)) = true := by
  rw [plain_tup]
  refine ⟨Nat.le_trans (able_len states) hl, fun d hd => ?_⟩
  obtain ⟨i, rfl, _⟩ := able_ints hd
  rfl
end Kk02
set_option Elab.async false
set_option linter.all false
set_option maxRecDepth 100000
set_option maxHeartbeats 400000
namespace Kk02
open PySem L2 FD
/-- a picture that is ready, or none -/
def RdOk (r : D) : Prop := r = .non ∨ (tiny 3 r = true ∧ isNonB r = false)
structure CellOk (c : D) : Prop where
  e : ∃ (a v : Int) (r : D), c = .tup [.int a, .int v, r] ∧ 0 ≤ a ∧ a ≤ 6 ∧ 0 ≤ v ∧ v ≤ 999 ∧ RdOk r
theorem CellOk.s {c : D} (h : CellOk c) : CellS c := by
  obtain ⟨a, v, r, rfl, _⟩ := h.e
  exact ⟨a, v, r, rfl⟩
def NumsT (n : Nat) (x : D) : Prop := x = .non ∨ ∃ ns : List Int, x = .tup (ns.map .int) ∧ ns.length = n ∧ ∀ m ∈ ns, 0 ≤ m ∧ m ≤ 6
theorem NumsT.nums {n : Nat} {x : D} (h : NumsT n x) : Nums n x := by
  rcases h with rfl | ⟨ns, rfl, h, _⟩
  · exact .non
  · exact .of ns h
theorem nums_cells {cs : List D} (h : ∀ c ∈ cs, CellOk c) : NumsT cs.length (.tup (cs.map numD)) := by
  refine .inr ⟨cs.map numI, by rw [numD_map fun c hc => (h c hc).s], by simp, fun m hm => ?_⟩
  obtain ⟨c, hc, rfl⟩ := List.mem_map.mp hm
  obtain ⟨a, v, r, rfl, h0, h1, _⟩ := (h c hc).e
  exact ⟨h0, h1⟩
theorem pic_cells {cs : List D} (h : ∀ c ∈ cs, CellOk c) (hl : cs.length ≤ 6) : tiny 3 (.tup (cs.map pairD)) = true := by
  rw [tiny_tup]
  refine ⟨by simpa using hl, fun d hd => ?_⟩
  obtain ⟨c, hc, rfl⟩ := List.mem_map.mp hd
  obtain ⟨a, v, r, rfl, h0, h1, h2, h3, _⟩ := (h c hc).e
  show tiny 2 (.tup [.int a, .int v]) = true
  rw [tiny_tup]
  refine ⟨by simp, fun d hd => ?_⟩
  have z : d = .int a ∨ d = .int v := by simpa using hd
  rcases z with rfl | rfl
  · exact tiny_int (n := 0) (by omega)
  · exact tiny_int (n := 0) (by omega)
theorem lent_ok : ∀ (fs : List Int) (cs : List D), (∀ c ∈ cs, CellOk c) → RdOk (lent fs cs)
  | [], _, _ => .inl rfl
  | _ :: _, [], _ => .inl rfl
  | f :: fs, c :: cs, h => by
    unfold lent
    split
    · obtain ⟨a, v, r, rfl, _, _, _, _, hr⟩ := (h c (by simp)).e
      exact hr
    · exact lent_ok fs cs fun c hc => h c (by simp [hc])
open Classical in
theorem seen_ok {k : Str} {first last : D} {cs : List D} (h : ∀ c ∈ cs, CellOk c) (hl : cs.length ≤ 6) : RdOk (seenD k first last cs) := by
  unfold seenD
  split
  · exact .inr ⟨pic_cells h hl, rfl⟩
  · split
    · split
      · exact lent_ok _ _ h
      · exact .inl rfl
    · exact .inl rfl
/-- what stands of a hand that goes on -/
structure Going (k : Str) (n : Nat) (ss : List D) (done : Nat) (first last : D) (now : List D) (ready : D) : Prop where
  d : done < ss.length
  f : NumsT n first
  l : NumsT n last
  n1 : now.length < n
  nc : ∀ c ∈ now, CellOk c
  r : RdOk ready
  rb : ready ≠ .non → k = "borrow" ∧ ∃ w, ss[done]? = some (deedD (some w))
def SInv (k : Str) (n : Nat) (ss : List D) (done : Nat) (state : D) : Prop := state = .non ∨ ∃ first last now ready, state = stD done first last now ready ∧ Going k n ss done first last now ready
/-- what stands of a hand -/
structure HInv (k : Str) (n : Nat) (ss : List D) (cell state told : D) : Prop where
  e : ∃ (done : Nat) (a v : Int) (r : D) (ts : List D), cell = .tup [.int a, .int v, r] ∧ 0 ≤ a ∧ a ≤ (done : Int) ∧ 0 ≤ v ∧ v ≤ 999 ∧ RdOk r ∧ told = .tup ts ∧ ts.length ≤ done ∧ (∀ t ∈ ts, tiny 3 t = true) ∧ done ≤ ss.length ∧ SInv k n ss done state
theorem ahead_inv {k : Str} {n : Nat} {ss : List D} {done : Nat} (hd : done < ss.length) (hn : 1 ≤ n) : SInv k n ss (done + 1) (aheadD ss ((done : Int) + 1)) := by
  unfold aheadD
  by_cases h : (done : Int) + 1 = (ss.length : Int)
  · rw [if_pos h]; exact .inl rfl
  · rw [if_neg h]
    refine .inr ⟨.non, .non, [], .non, ?_, by omega, .inl rfl, .inl rfl, (show 0 < n by omega), fun c hc => by simp at hc, .inl rfl, fun z => absurd rfl z⟩
    show fresh ((done : Int) + 1) = _
    rfl
theorem isNonB_of {x : D} (h : isNonB x = true) : x = .non := by cases x <;> simp [isNonB] at h; rfl
theorem next_inv {k : Str} {n : Nat} {ss : List D} {done : Nat} {o : Option Int} {first last : D} {now : List D} {ready x : D} {a v : Int} {r : D} {ts : List D} (G : Going k n ss done first last now ready) (hs : ss[done]? = some (deedD o)) (ho : ∀ w, o = some w → 0 ≤ w ∧ w ≤ 999) (hss : ss.length ≤ 6) (hn1 : 1 ≤ n) (hn5 : n ≤ 5)
    (hx : CellOk x) (a0 : 0 ≤ a) (a1 : a ≤ (done : Int)) (v0 : 0 ≤ v) (v1 : v ≤ 999) (hr : RdOk r) (ht : ts.length ≤ done) (htt : ∀ t ∈ ts, tiny 3 t = true) :
    HInv k n ss (nextD k ss done o first last now ready (.tup [.int a, .int v, r]) x n).1 (nextD k ss done o first last now ready (.tup [.int a, .int v, r]) x n).2.1 (.tup (ts ++ (nextD k ss done o first last now ready (.tup [.int a, .int v, r]) x n).2.2)) := by
  have hc : ∀ c ∈ now ++ [x], CellOk c := fun c hc => by
    rcases List.mem_append.mp hc with h | h
    · exact G.nc c h
    · have : c = x := by simpa using h
      exact this ▸ hx
  have hd := G.d
  unfold nextD
  by_cases hp : putsB k o ready = true
  · rw [if_pos hp]
    obtain ⟨w, rfl⟩ : ∃ w, o = some w := by
      cases o with
      | none => simp [putsB] at hp
      | some w => exact ⟨w, rfl⟩
    obtain ⟨w0, w1⟩ := ho w rfl
    refine ⟨done + 1, a + 1, w, ready, ts ++ [], rfl, by omega, by omega, w0, w1, G.r, rfl, by simp; omega, by simpa using htt, by omega, ahead_inv hd hn1⟩
  · rw [if_neg hp]
    have keep : ∀ (st : D), SInv k n ss done st → HInv k n ss (.tup [.int a, .int v, r]) st (.tup (ts ++ [])) := fun st h => ⟨done, a, v, r, ts ++ [], rfl, a0, a1, v0, v1, hr, rfl, by simpa using ht, by simpa using htt, by omega, h⟩
    simp only
    unfold lookD
    by_cases h1 : (now ++ [x]).length < n
    · rw [if_pos h1]
      exact keep _ (.inr ⟨first, last, now ++ [x], ready, rfl, hd, G.f, G.l, h1, hc, G.r, G.rb⟩)
    · rw [if_neg h1]
      have n1 := G.n1
      have len2 : (now ++ [x]).length = n := by simp at h1 ⊢; omega
      have hnum := nums_cells hc
      rw [len2] at hnum
      by_cases hb : isNonB (seenD k first last (now ++ [x])) = true
      · rw [if_pos hb]
        refine keep _ (.inr ⟨_, _, [], ready, rfl, hd, ?_, hnum, (show 0 < n by omega), fun c hc => by simp at hc, G.r, G.rb⟩)
        by_cases hf : isNonB first = true
        · rw [if_pos hf]; exact hnum
        · rw [if_neg hf]; exact G.f
      · rw [if_neg hb]
        have hso := seen_ok (k := k) (first := first) (last := last) hc (by omega)
        have hsp : tiny 3 (seenD k first last (now ++ [x])) = true := by
          rcases hso with z | z
          · rw [z] at hb; simp [isNonB] at hb
          · exact z.1
        by_cases hos : o.isSome = true
        · rw [if_pos hos]
          obtain ⟨w, rfl⟩ := Option.isSome_iff_exists.mp hos
          have hbor : k = "borrow" := by
            by_cases z : k = "borrow"
            · exact z
            · exact absurd (by simp [putsB, z]) hp
          exact keep _ (.inr ⟨.non, .non, [], _, rfl, hd, .inl rfl, .inl rfl, (show 0 < n by omega), fun c hc => by simp at hc, hso, fun _ => ⟨hbor, w, hs⟩⟩)
        · rw [if_neg hos]
          refine ⟨done + 1, a, v, r, ts ++ [seenD k first last (now ++ [x])], rfl, a0, by omega, v0, v1, hr, rfl, by simp; omega, fun t h => ?_, by omega, ahead_inv hd hn1⟩
          rcases List.mem_append.mp h with h | h
          · exact htt t h
          · have : t = seenD k first last (now ++ [x]) := by simpa using h
            exact this ▸ hsp
end Kk02
set_option Elab.async false
set_option linter.all false
set_option maxRecDepth 100000
set_option maxHeartbeats 400000
namespace Kk02
open PySem L2 FD
/-- what stands of a play -/
structure Inv (k : Str) (ds cells states tolds : List D) : Prop where
  hk : k ∈ MAN
  n1 : 1 ≤ ds.length
  n5 : ds.length ≤ 5
  c : cells.length = ds.length
  s : states.length = ds.length
  t : tolds.length = ds.length
  all : ∀ d ∈ ds, ∃ ss, d = .tup ss ∧ ss.length ≤ 6 ∧ ∀ e ∈ ss, ∃ o, e = deedD o ∧ ∀ w, o = some w → 0 ≤ w ∧ w ≤ 999
  h : ∀ (i : Nat) (ss : List D) (c s t : D), ds[i]? = some (.tup ss) → cells[i]? = some c → states[i]? = some s → tolds[i]? = some t → HInv k ds.length ss c s t
section
variable {k : Str} {ds cells states tolds : List D}
theorem Inv.at (I : Inv k ds cells states tolds) {i : Nat} (hi : i < ds.length) : ∃ ss c s t, ds[i]? = some (.tup ss) ∧ cells[i]? = some c ∧ states[i]? = some s ∧ tolds[i]? = some t ∧ ss.length ≤ 6 ∧ (∀ e ∈ ss, ∃ o, e = deedD o ∧ ∀ w, o = some w → 0 ≤ w ∧ w ≤ 999) ∧ HInv k ds.length ss c s t := by
  have d1 : ds[i]? = some ds[i] := List.getElem?_eq_getElem hi
  obtain ⟨ss, hs, h6, hd⟩ := I.all _ (List.mem_of_getElem? d1)
  rw [hs] at d1
  have c1 : cells[i]? = some (cells[i]'(by rw [I.c]; exact hi)) := List.getElem?_eq_getElem _
  have s1 : states[i]? = some (states[i]'(by rw [I.s]; exact hi)) := List.getElem?_eq_getElem _
  have t1 : tolds[i]? = some (tolds[i]'(by rw [I.t]; exact hi)) := List.getElem?_eq_getElem _
  exact ⟨ss, _, _, _, d1, c1, s1, t1, h6, hd, I.h i ss _ _ _ d1 c1 s1 t1⟩
theorem Inv.cell (I : Inv k ds cells states tolds) {i : Nat} {c : D} (h : cells[i]? = some c) : CellOk c := by
  have hi : i < ds.length := by rw [← I.c]; exact (List.getElem?_eq_some_iff.mp h).1
  obtain ⟨ss, c', s, t, _, c1, _, _, h6, _, H⟩ := I.at hi
  rw [h] at c1
  cases c1
  obtain ⟨done, a, v, r, ts, rfl, a0, a1, v0, v1, hr, _, _, _, hd, _⟩ := H.e
  exact ⟨a, v, r, rfl, a0, by omega, v0, v1, hr⟩
theorem go_step (I : Inv k ds cells states tolds) {i : Nat} {s0 : D} (hs0 : states[i]? = some s0) (hn : isNonB s0 = false) :
    ∃ (cells' states' tolds' : List D) (word : D), Inv k ds cells' states' tolds' ∧
      EX (f_step [thePlay (.str k) (.tup ds), .tup [.tup cells, .tup states, .tup tolds], .int ((i : Nat) : Int)]) (.tup [.tup cells', .tup states', .tup tolds']) ∧
      EX (f_law_stepped [.str k, .tup ds, .tup [.tup cells, .tup states, .tup tolds], .int ((i : Nat) : Int)]) (.tup [.tup cells', .tup states', .tup tolds']) ∧
      EX (f_next_step [thePlay (.str k) (.tup ds), .tup [.tup cells, .tup states, .tup tolds], .int ((i : Nat) : Int)]) word ∧
      EX (f_law_next [.str k, .tup ds, .tup [.tup cells, .tup states, .tup tolds], .int ((i : Nat) : Int)]) word ∧ plain 2 word = true := by
  have hi : i < ds.length := by rw [← I.s]; exact (List.getElem?_eq_some_iff.mp hs0).1
  obtain ⟨ss, c, s, t, d1, c1, s1, t1, h6, hds, H⟩ := I.at hi
  rw [hs0] at s1
  cases s1
  obtain ⟨done, a, v, r, ts, rfl, a0, a1, v0, v1, hr, rfl, ht, htt, hd, hS⟩ := H.e
  rcases hS with z | ⟨first, last, now, ready, rfl, G⟩
  · rw [z] at hn; simp [isNonB] at hn
  have hdd : ss[done]? = some (ss[done]'G.d) := List.getElem?_eq_getElem _
  obtain ⟨o, ho, hob⟩ := hds _ (List.mem_of_getElem? hdd)
  rw [ho] at hdd
  have hx : cells[now.length]? = some (cells[now.length]'(by rw [I.c]; exact G.n1)) := List.getElem?_eq_getElem _
  have hxo := I.cell hx
  generalize cells[now.length]'(by rw [I.c]; exact G.n1) = x at hx hxo
  have n5 := I.n5
  have hc : ∀ c ∈ now ++ [x], CellS c := fun c hc => by
    rcases List.mem_append.mp hc with h | h
    · exact (G.nc c h).s
    · have : c = x := by simpa using h
      exact this ▸ hxo.s
  have Sx : Sta k ds i ss done o cells states tolds first last now ready x (.tup [.int a, .int v, r]) ts := {
      A := ⟨I.hk, d1, hdd⟩
      cell_ := c1
      cs := ⟨a, v, r, rfl⟩
      st := hs0
      td := t1
      hx := hx
      hc := hc
      n1 := by rw [I.c]; omega
      n2 := by rw [I.s, I.c]
      n3 := by rw [I.t, I.c]
      n4 := by rw [I.c]
      n5 := by omega
      f := by rw [I.c]; exact G.f.nums
      l := by rw [I.c]; exact G.l.nums
      r := fun hp => by
        rcases G.r with z | ⟨_, z⟩
        · exact z
        · have ne : ready ≠ .non := fun e => by rw [e] at z; simp [isNonB] at z
          obtain ⟨hb, w, hw⟩ := G.rb ne
          rw [hdd] at hw
          have eo : o = some w := by
            have := Option.some.inj hw
            cases o with
            | none => simp [deedD] at this
            | some w' => simp [deedD] at this; rw [this]
          rw [eo, hb] at hp
          simp [putsB, z] at hp }
  have hnx := next_inv (o := o) G hdd hob h6 I.n1 I.n5 hxo a0 a1 v0 v1 hr ht htt
  have e1 := step_eq Sx
  have e2 := law_stepped_eq Sx
  unfold newS at e1 e2
  rw [I.c] at e1 e2
  refine ⟨_, _, _, wordD k o now ready, ?_, e1, e2, next_step_eq Sx, law_next_eq Sx.A hs0, ?_⟩
  · refine ⟨I.hk, I.n1, I.n5, by rw [List.length_set, I.c], by rw [List.length_set, I.s], by rw [List.length_set, I.t], I.all, fun j ss' c' s' t' k1 k2 k3 k4 => ?_⟩
    by_cases hj : i = j
    · subst hj
      rw [List.getElem?_set_self (by rw [I.c]; exact hi)] at k2
      rw [List.getElem?_set_self (by rw [I.s]; exact hi)] at k3
      rw [List.getElem?_set_self (by rw [I.t]; exact hi)] at k4
      rw [d1] at k1
      cases k1
      cases k2
      cases k3
      cases k4
      exact hnx
    · rw [List.getElem?_set_ne hj] at k2 k3 k4
      exact I.h j ss' c' s' t' k1 k2 k3 k4
  · unfold wordD
    split
    · rw [plain_tup]
      refine ⟨by simp, fun d hd => ?_⟩
      have : d = .str "put" := by simpa using hd
      rw [this]; exact sPut
    · rw [plain_tup]
      refine ⟨by simp, fun d hd => ?_⟩
      have : d = .str "look" ∨ d = .int (now.length : Nat) := by simpa using hd
      rcases this with rfl | rfl
      · exact (okS (by decide +kernel) : okStr "look" = true)
      · rfl
end
end Kk02
set_option Elab.async false
set_option linter.all false
set_option maxRecDepth 100000
set_option maxHeartbeats 400000
namespace Kk02
open PySem L2 FD
theorem script_form {d : D} (h : Script d) : ∃ ss, d = .tup ss ∧ ss.length ≤ 6 ∧ ∀ e ∈ ss, ∃ o, e = deedD o ∧ ∀ w, o = some w → 0 ≤ w ∧ w ≤ 999 := by
  obtain ⟨h1, h2⟩ := h
  cases d with
  | tup xs =>
    obtain ⟨_, hm⟩ := fine_tup.mp h2
    simp only [scriptB, Bool.and_eq_true, decide_eq_true_eq] at h1
    exact ⟨xs, rfl, h1.1, fun e he => deed_form (List.all_eq_true.mp h1.2 e he) (hm e he)⟩
  | _ => simp [scriptB] at h1
theorem first_inv {k : Str} {ds : List D} {n : Nat} (hk : k ∈ MAN) (h : Menu n Script ds) (h1 : 1 ≤ n) (h5 : n ≤ 5) : Inv k ds (ds.map fun _ => cell0) (ds.map startD) (ds.map fun _ => .tup []) := by
  refine ⟨hk, by rw [h.1]; exact h1, by rw [h.1]; exact h5, by simp, by simp, by simp, fun d hd => script_form (h.2 d hd), fun i ss c s t k1 k2 k3 k4 => ?_⟩
  rw [List.getElem?_map, k1] at k2 k3 k4
  cases k2
  cases k3
  cases k4
  refine ⟨0, 0, 0, .non, [], rfl, by omega, by omega, by omega, by omega, .inl rfl, rfl, by simp, fun t ht => by simp at ht, by omega, ?_⟩
  show SInv k ds.length ss 0 (aheadD ss 0)
  unfold aheadD
  by_cases z : (0 : Int) = (ss.length : Int)
  · rw [if_pos z]; exact .inl rfl
  · rw [if_neg z]
    refine .inr ⟨.non, .non, [], .non, rfl, by omega, .inl rfl, .inl rfl, (show 0 < ds.length by rw [h.1]; omega), fun c hc => by simp at hc, .inl rfl, fun z => absurd rfl z⟩
theorem RdOk.tiny {r : D} (h : RdOk r) : tiny 3 r = true := by
  rcases h with rfl | h
  · rfl
  · exact h.1
theorem CellOk.tiny {c : D} (h : CellOk c) : tiny 4 c = true := by
  obtain ⟨a, v, r, rfl, h0, h1, h2, h3, hr⟩ := h.e
  rw [tiny_tup]
  refine ⟨by simp, fun d hd => ?_⟩
  have z : d = .int a ∨ d = .int v ∨ d = r := by simpa using hd
  rcases z with rfl | rfl | rfl
  · exact tiny_int (n := 2) (by omega)
  · exact tiny_int (n := 2) (by omega)
  · exact hr.tiny
theorem NumsT.tiny {n : Nat} {x : D} (h : NumsT n x) (hn : n ≤ 6) : tiny 2 x = true := by
  rcases h with rfl | ⟨ns, rfl, hl, hm⟩
  · rfl
  · rw [tiny_tup]
    refine ⟨by simp; omega, fun d hd => ?_⟩
    obtain ⟨m, h1, rfl⟩ := List.mem_map.mp hd
    have := hm m h1
    exact tiny_int (n := 0) (by omega)
theorem Inv.tiny {k : Str} {ds cells states tolds : List D} (I : Inv k ds cells states tolds) : tiny 8 (.tup [.tup cells, .tup states, .tup tolds]) = true := by
  have n5 := I.n5
  have pick : ∀ {xs : List D}, xs.length = ds.length → ∀ d ∈ xs, ∃ i, i < ds.length ∧ xs[i]? = some d := fun {xs} hl d hd => by
    obtain ⟨i, hi, e⟩ := List.mem_iff_getElem.mp hd
    exact ⟨i, by omega, by rw [List.getElem?_eq_getElem hi, e]⟩
  rw [tiny_tup]
  refine ⟨by simp, fun d hd => ?_⟩
  have z : d = .tup cells ∨ d = .tup states ∨ d = .tup tolds := by simpa using hd
  rcases z with rfl | rfl | rfl
  · refine tiny_le (n := 5) 2 ?_
    rw [tiny_tup]
    refine ⟨by rw [I.c]; omega, fun d hd => ?_⟩
    obtain ⟨i, hi, e⟩ := pick I.c d hd
    exact (I.cell e).tiny
  · rw [tiny_tup]
    refine ⟨by rw [I.s]; omega, fun d hd => ?_⟩
    obtain ⟨i, hi, e⟩ := pick I.s d hd
    obtain ⟨ss, c, s, t, d1, c1, s1, t1, h6, hds, H⟩ := I.at hi
    rw [e] at s1
    cases s1
    obtain ⟨done, a, v, r, ts, _, _, _, _, _, _, _, _, _, hdn, hS⟩ := H.e
    rcases hS with rfl | ⟨first, last, now, ready, rfl, G⟩
    · rfl
    · show Kk02.tiny 6 (.tup [.int (done : Nat), first, last, .tup now, ready]) = true
      rw [tiny_tup]
      refine ⟨by simp, fun d hd => ?_⟩
      have z : d = .int (done : Nat) ∨ d = first ∨ d = last ∨ d = .tup now ∨ d = ready := by simpa using hd
      rcases z with rfl | rfl | rfl | rfl | rfl
      · exact tiny_int (n := 4) (by omega)
      · exact tiny_le 3 (G.f.tiny (by omega))
      · exact tiny_le 3 (G.l.tiny (by omega))
      · rw [tiny_tup]
        exact ⟨by have := G.n1; omega, fun c hc => (G.nc c hc).tiny⟩
      · exact tiny_le 2 G.r.tiny
  · refine tiny_le (n := 5) 2 ?_
    rw [tiny_tup]
    refine ⟨by rw [I.t]; omega, fun d hd => ?_⟩
    obtain ⟨i, hi, e⟩ := pick I.t d hd
    obtain ⟨ss, c, s, t, d1, c1, s1, t1, h6, hds, H⟩ := I.at hi
    rw [e] at t1
    cases t1
    obtain ⟨done, a, v, r, ts, _, _, _, _, _, _, rfl, hl, ht, hdn, _⟩ := H.e
    rw [tiny_tup]
    exact ⟨by omega, fun t h => ht t h⟩
end Kk02
set_option Elab.async false
set_option linter.all false
set_option maxRecDepth 100000
set_option maxHeartbeats 400000
namespace Kk02
open PySem L2 FD
/-! ### the signs of what is shown -/
theorem ok_ofString (s : String) : PyData.strOk (Str.ofString s) = true := by
  rw [Str.ofString_eq_toList]
  unfold PyData.strOk
  simp only [List.all_toArray, List.all_map, List.all_eq_true, Function.comp]
  intro c _
  exact decide_eq_true (by
    have := c.valid
    have h : c.toNat < 1114112 := by
      rcases this with h | h
      · exact Nat.lt_trans h (by decide)
      · exact h.2
    exact h)
theorem ok_app {a b : Str} (ha : PyData.strOk a = true) (hb : PyData.strOk b = true) : PyData.strOk (a ++ b) = true := by
  show (a.cps ++ b.cps).all _ = true
  rw [Array.all_append]
  exact Bool.and_eq_true_iff.mpr ⟨ha, hb⟩
theorem ok_join {s : Str} (hs : PyData.strOk s = true) : ∀ ts : List Str, (∀ t ∈ ts, PyData.strOk t = true) → PyData.strOk (Str.join s ts) = true
  | [], _ => by unfold Str.join; decide +kernel
  | [x], h => by unfold Str.join; exact h x (by simp)
  | x :: y :: r, h => by
    show PyData.strOk (x ++ s ++ Str.join s (y :: r)) = true
    exact ok_app (ok_app (h x (by simp)) hs) (ok_join hs (y :: r) fun t ht => h t (by simp [ht]))
theorem ok_tupleText {ts : List Str} (h : ∀ t ∈ ts, PyData.strOk t = true) : PyData.strOk (tupleText ts) = true := by
  unfold tupleText
  exact ok_app (ok_app (ok_ofString _) (ok_join (ok_ofString _) ts h)) (ok_ofString _)
/-! ### its length -/
theorem len_app (a b : Str) : (a ++ b).length = a.length + b.length := by
  show (a.cps ++ b.cps).size = _
  rw [Array.size_append]; rfl
theorem len_join (m : Nat) : ∀ ts : List Str, (∀ t ∈ ts, t.length ≤ m) → (Str.join ", " ts).length ≤ ts.length * (m + 2)
  | [], _ => by unfold Str.join; exact Nat.zero_le _
  | [x], h => by
    have := h x (by simp)
    unfold Str.join
    simp; omega
  | x :: y :: r, h => by
    have h1 := h x (by simp)
    have ih := len_join m (y :: r) fun t ht => h t (by simp [ht])
    have e : (Str.ofString ", ").length = 2 := by decide +kernel
    show (x ++ Str.ofString ", " ++ Str.join (Str.ofString ", ") (y :: r)).length ≤ _
    rw [len_app, len_app, e]
    simp only [List.length_cons] at ih ⊢
    rw [Nat.add_mul (r.length + 1) 1]
    omega
theorem len_tupleText {ts : List Str} {m : Nat} (h : ∀ t ∈ ts, t.length ≤ m) : (tupleText ts).length ≤ ts.length * (m + 2) + 4 := by
  have j := len_join m ts h
  have e : (Str.ofString "(").length = 1 := by decide +kernel
  unfold tupleText
  rw [len_app, len_app, e]
  have e2 : (Str.ofString (if (ts.length == 1) = true then ",)" else ")")).length ≤ 2 := by
    split <;> decide +kernel
  omega
end Kk02
set_option Elab.async false
set_option linter.all false
set_option maxRecDepth 100000
set_option maxHeartbeats 400000
namespace Kk02
open PySem L2 FD
def fB : Nat → Nat
  | 0 => 5
  | n + 1 => 6 * fB n + 16
theorem fB5 (n : Nat) : 5 ≤ fB n := by
  cases n with
  | zero => decide
  | succ n => unfold fB; omega
def shOk (m : Nat) (d : D) : Prop := ∃ p, d.py = some p ∧ p.showable = true ∧ PyData.strOk p.shown = true ∧ p.shown.length ≤ m
theorem shs_ok {m : Nat} : ∀ {ds : List D}, (∀ d ∈ ds, shOk m d) → ∃ ps, D.pys ds = some ps ∧ PyData.showableAll ps = true ∧ (∀ t ∈ PyData.shownAll ps, PyData.strOk t = true ∧ t.length ≤ m) ∧ (PyData.shownAll ps).length = ds.length
  | [], _ => ⟨[], rfl, rfl, fun t h => by simp [PyData.shownAll] at h, rfl⟩
  | d :: ds, h => by
    obtain ⟨p, h1, h2, h3, h4⟩ := h d (by simp)
    obtain ⟨ps, e1, e2, e3, e4⟩ := shs_ok (ds := ds) fun d hd => h d (by simp [hd])
    refine ⟨p :: ps, by simp [D.pys, h1, e1], by simp [PyData.showableAll, h2, e2], fun t ht => ?_, by simp [PyData.shownAll, e4]⟩
    simp only [PyData.shownAll, List.mem_cons] at ht
    rcases ht with rfl | ht
    · exact ⟨h3, h4⟩
    · exact e3 t ht
theorem tiny_shown {n : Nat} : ∀ {d : D}, tiny (n + 1) d = true → shOk (fB n) d := by
  induction n with
  | zero =>
    intro d h
    cases d with
    | non => exact ⟨_, rfl, rfl, ok_ofString _, by show (Str.ofString "None").length ≤ 5; rw [ofString_length]; decide⟩
    | int i =>
      have hi : i.natAbs ≤ 1000 := by simpa [tiny] using h
      refine ⟨_, rfl, ?_, ok_ofString _, ?_⟩
      · show decide (i.natAbs.log2 < 1920) = true
        have : i.natAbs.log2 ≤ i.natAbs := Nat.log2_le_self _
        exact decide_eq_true (by omega)
      · show (Str.ofString (toString i)).length ≤ 5
        rw [ofString_length]
        exact int_text_length_le10 (k := 4) (by decide) (by omega)
    | tup xs =>
      obtain ⟨hl, hm⟩ := tiny_tup.mp h
      cases xs with
      | nil => exact ⟨.tuple [], rfl, rfl, ok_tupleText (fun t ht => by simp [PyData.shownAll] at ht), by show (tupleText []).length ≤ 5; exact Nat.le_trans (len_tupleText (m := 0) fun t ht => by simp at ht) (by decide)⟩
      | cons x xs => have := hm x (by simp); simp [tiny] at this
    | _ => simp [tiny] at h
  | succ n ih =>
    intro d h
    cases d with
    | non => exact ⟨_, rfl, rfl, ok_ofString _, Nat.le_trans (by show (Str.ofString "None").length ≤ 5; rw [ofString_length]; decide) (fB5 _)⟩
    | int i =>
      have hi : i.natAbs ≤ 1000 := by simpa [tiny] using h
      refine ⟨_, rfl, ?_, ok_ofString _, Nat.le_trans (m := 5) ?_ (fB5 _)⟩
      · show decide (i.natAbs.log2 < 1920) = true
        have : i.natAbs.log2 ≤ i.natAbs := Nat.log2_le_self _
        exact decide_eq_true (by omega)
      · show (Str.ofString (toString i)).length ≤ 5
        rw [ofString_length]
        exact int_text_length_le10 (k := 4) (by decide) (by omega)
    | tup xs =>
      obtain ⟨hl, hm⟩ := tiny_tup.mp h
      obtain ⟨ps, e1, e2, e3, e4⟩ := shs_ok (ds := xs) fun d hd => ih (hm d hd)
      refine ⟨.tuple ps, by simp [D.py, e1], e2, ok_tupleText fun t ht => (e3 t ht).1, ?_⟩
      have := len_tupleText (ts := PyData.shownAll ps) (m := fB n) fun t ht => (e3 t ht).2
      rw [e4] at this
      show (tupleText (PyData.shownAll ps)).length ≤ 6 * fB n + 16
      have z : xs.length * (fB n + 2) ≤ 6 * (fB n + 2) := Nat.mul_le_mul_right _ hl
      omega
    | _ => simp [tiny] at h
/-- repr of a standing is some text -/
theorem repr_tiny {d : D} (h : tiny 8 d = true) : ∃ x : Str, reprD [d] = some (.str x) ∧ okStr x = true := by
  obtain ⟨p, h1, h2, h3, h4⟩ := tiny_shown (n := 7) h
  obtain ⟨p', e1, e2, e3, _⟩ := plain_py (tiny_plain h)
  rw [h1] at e1
  cases e1
  refine ⟨p.shown, ?_, ?_⟩
  · have sz : p.shown.length ≤ sizeLine := Nat.le_trans h4 (by decide +kernel)
    simp only [reprD, h1]
    exact if_pos (ck_of ⟨shaped_of e2 e3 (by decide), h2, sz⟩)
  · exact h3
end Kk02
set_option Elab.async false
set_option linter.all false
set_option maxRecDepth 100000
set_option maxHeartbeats 400000
namespace Kk02
open PySem L2 FD
theorem mkNear {k : Str} (hk : k ∈ MAN) : (k == ("near" : Str)) = false := by
  simp only [List.mem_cons, List.not_mem_nil, or_false] at hk
  rcases hk with rfl | rfl | rfl <;> decide +kernel
theorem man_kin {k : Str} (hk : k ∈ MAN) : k ∈ KIN := by
  simp only [List.mem_cons, List.not_mem_nil, or_false] at hk ⊢
  rcases hk with rfl | rfl | rfl <;> simp
theorem inputs_man {k : Str} {ds : List D} {n : Nat} (hk : k ∈ MAN) (h : Menu n Script ds) (h1 : 1 ≤ n) (h5 : n ≤ 5) : EX (f_is_inputs [.str k, .tup ds]) (.bl true) := by
  have q := okMW hk "near" (okS (by decide +kernel))
  rw [mkNear hk] at q
  have hf : fine (.tup ds) = true := by
    rw [fine_tup]
    exact ⟨by rw [h.1]; omega, fun d hd => (h.2 d hd).2⟩
  have hr : EX (f_is_row_of_hands [.tup ds]) (.bl true) := fun g => by
    rw [is_row_eq hf g, rowB_of h h1 h5]
  have ha : allD [.lst (ds.map fun d => .bl (scriptB d))] = some (.bl true) := by
    rw [allD_map]
    congr 2
    exact List.all_eq_true.mpr fun d hd => (h.2 d hd).1
  refine exf (N := 3) ?_
  refine exs_seq (exs_if0 (ext (ex_op (ex_v rfl) ex_d q)) exs_nx) ?_
  refine exs_seq (exs_if0 (ext_not (b := true) (ext (ex_fn (ex_c (ex_v rfl) ex_n) hr))) exs_nx) ?_
  refine exs_rt (exs_if1 (ext (ex_op (ex_v rfl) ex_d (inMANN hk))) (exs_ret (ex_call (ex_c (ex_lc (exi_s (ex_v rfl) rfl) (exc_map (F := fun d => .bl (scriptB d)) fun d hd => ⟨_, rfl, ?_⟩) (by rw [List.length_map, h.1]; omega)) ex_n) ha)))
  exact ex_fn (ex_c (ex_v rfl) ex_n) fun g => is_script_eq (h.2 d hd).2 g
theorem play_man {k : Str} {ds : List D} {n : Nat} (hk : k ∈ MAN) (h : Menu n Script ds) (h1 : 1 ≤ n) (h5 : n ≤ 5) : EX (f_Play [.str k, .tup ds]) (thePlay (.str k) (.tup ds)) := fun g => by
  have hw := is_word_of_eq KIN (d := .str k) (ok7 k (man_kin hk)) g
  rw [← kKIN] at hw
  have hw1 : isW KIN (.str k) = true := List.contains_iff_mem.mpr (man_kin hk)
  rw [hw1] at hw
  have hi := inputs_man hk h h1 h5 g
  simp [f_Play, mkF2, hw, hi, thePlay]
/-! ### numbers in lists -/
theorem ints_of : ∀ {xs : List D}, (∀ d ∈ xs, ∃ i : Int, d = .int i) → ∃ is : List Int, xs = is.map .int
  | [], _ => ⟨[], rfl⟩
  | d :: xs, h => by
    obtain ⟨i, rfl⟩ := h d (by simp)
    obtain ⟨is, rfl⟩ := ints_of (xs := xs) fun d hd => h d (by simp [hd])
    exact ⟨i :: is, rfl⟩
theorem inV_ints (z : Int) : ∀ ws : List Int, inV (.int z) (ws.map V.int) = ws.contains z
  | [] => rfl
  | w :: ws => by
    have ih := inV_ints z ws
    simp only [inV] at ih
    simp only [List.map_cons, inV, List.any_cons, ih, List.contains_cons, eqV]
    congr 1
    exact Bool.beq_comm
theorem flat_ints (ws : List Int) : (ws.map D.int).all flatD = true := by simp [flatD]
theorem inD_ints (z : Int) (ws : List Int) : inD (.int z) (.lst (ws.map .int)) = some (.bl (ws.contains z)) := by
  have h1 := flat_ints ws
  have h2 : (ws.map D.int).map toV = ws.map V.int := by simp [toV]
  simp [inD, inB, flatD, h1, h2, inV_ints, toV]
theorem notInD_ints (z : Int) (ws : List Int) : notInD (.int z) (.lst (ws.map .int)) = some (.bl (!ws.contains z)) := by
  have h1 := flat_ints ws
  have h2 : (ws.map D.int).map toV = ws.map V.int := by simp [toV]
  simp [notInD, inB, flatD, h1, h2, inV_ints, toV]
/-! ### chosen -/
theorem ts_ex {ρ ρ1 : List En} {a b : FS} {Q : Fl → Prop} (ha : EX (a ρ) (.nx ρ1)) (hb : TM (b ρ1) Q) : TM (sSeq a b ρ) Q := fun g hg => by
  obtain ⟨f, g2, e, q⟩ := hb g hg
  exact ⟨f, g2, (sSeq_nx (ha g)).trans e, q⟩
theorem t_chosen {ns : List Int} {last mode : Int} (h0 : 1 ≤ ns.length) (h5 : ns.length ≤ 5) : TM (f_law_chosen [.hnd, .lst (ns.map .int), .int last, .int mode]) (fun d => d ∈ ns.map D.int) := by
  refine tf_fn (N := 6) ?_
  refine ts_ifret (B := fun b => b = true → D.int last ∈ ns.map D.int) ?_ (fun hb => ?_) (fun _ => ?_)
  · refine tt_and (P := fun _ => True) (R := fun b => b = true → D.int last ∈ ns.map D.int) (TM.of (a := mode == 0) trivial fun g => ext (ex_op (ex_v rfl) ex_d (eqD_int _ _)) g) (fun _ => ?_) (fun _ z => by cases z) (fun y _ hy => hy)
    refine tt_and (P := fun b => b = true → D.int last ∈ ns.map D.int) (R := fun _ => True) (TM.of (a := ns.contains last) (fun z => ?_) fun g => ?_) (fun _ => ?_) (fun _ z => by cases z) (fun y h _ _ => h rfl)
    · exact List.mem_map.mpr ⟨last, List.contains_iff_mem.mp z, rfl⟩
    · exact ext (ex_op (ex_v rfl) (ex_v rfl) (inD_ints _ _)) g
    · refine tt_t (te_op te_takeK (te_d (P := fun d => d = .int 0) rfl) ?_) (P := fun d => ∃ b, d = .bl b) ?_
      · rintro x y ⟨v, rfl, _⟩ rfl
        exact ⟨_, rfl, _, rfl⟩
      · rintro x ⟨b, rfl⟩
        exact ⟨b, rfl, trivial⟩
  · exact ts_ret (te_v rfl (hb rfl)) fun x hx => ⟨x, rfl, hx⟩
  refine ts_ifret (B := fun b => b = (mode == 1)) (TM.of rfl fun g => ext (ex_op (ex_v rfl) ex_d (eqD_int _ _)) g) (fun hb => ?_) (fun _ => ?_)
  · let p : D → Bool := fun d => match d with
      | .int i => decide (last < i)
      | _ => false
    have hfl : ((ns.map D.int).filter p).length ≤ (ns.map D.int).length := List.length_filter_le _ _
    rw [List.length_map] at hfl
    have e : EX (cOp addD (cLc (iS (cV 1)) [5] (gN 5) (cT (cOp gtD (cV 5) (cV 2))) (cV 5)) (cV 1) [.dt .hnd, .dt (.lst (ns.map .int)), .dt (.int last), .dt (.int mode), .un, .un]) (.lst (((ns.map D.int).filter p).map id ++ ns.map D.int)) := by
      refine ex_op (ex_lc (exi_s (ex_v rfl) rfl) (exc_fil (p := p) (F := id) fun d hd => ?_) ?_) (ex_v rfl) ?_
      · obtain ⟨i, _, rfl⟩ := List.mem_map.mp hd
        exact ⟨_, rfl, ext (ex_op (ex_v rfl) (ex_v rfl) rfl), ex_v rfl⟩
      · rw [List.length_map]; omega
      · show (if _ then _ else _) = _
        rw [if_pos]
        rw [List.length_map, List.length_map]; omega
    rw [List.map_id] at e
    refine ts_ex (exs_asg e rfl) ?_
    have hl : 0 < ((ns.map D.int).filter p ++ ns.map D.int).length := by rw [List.length_append, List.length_map]; omega
    have hx : ((ns.map D.int).filter p ++ ns.map D.int)[0]? = some ((ns.map D.int).filter p ++ ns.map D.int)[0] := List.getElem?_eq_getElem hl
    refine ts_ret (P := fun d => d ∈ ns.map D.int) (TM.of ?_ (ex_op (ex_v rfl) ex_d ((ixD_lst (by omega)).trans hx))) fun x hx => ⟨x, rfl, hx⟩
    rcases List.mem_append.mp (List.getElem_mem hl) with h | h
    · exact (List.mem_filter.mp h).1
    · exact h
  · refine ts_ret (P := fun d => d ∈ ns.map D.int) (te_pickV (n := ns.length - 1) rfl ⟨by rw [List.length_map]; omega, fun x hx => hx⟩ (by omega)) fun x hx => ⟨x, rfl, hx⟩
end Kk02
set_option Elab.async false
set_option linter.all false
set_option maxRecDepth 100000
set_option maxHeartbeats 1000000
namespace Kk02
open PySem L2 FD
theorem t_loopB {gs : FG} {fb : FS} {I : List En → Prop} (h : ∀ d ρ, I ρ → ∃ ρ1, gs d ρ = some ρ1 ∧ TM (fb ρ1) (fun f => ∃ ρ2, (f = .nx ρ2 ∨ f = .bk ρ2) ∧ I ρ2)) : ∀ (ds : List D) (ρ : List En), I ρ → TM (loopD gs fb ds ρ) (fun f => ∃ ρ2, f = .nx ρ2 ∧ I ρ2)
  | [], ρ, i => TM.pure ⟨ρ, rfl, i⟩
  | d :: ds, ρ, i => fun g hg => by
    obtain ⟨ρ1, h1, hb⟩ := h d ρ i
    obtain ⟨f, g2, e, ⟨ρ2, hf, i2⟩, hg2⟩ := hb g hg
    rcases hf with rfl | rfl
    · obtain ⟨f3, g3, e3, q3, hg3⟩ := t_loopB h ds ρ2 i2 g2 hg2
      refine ⟨f3, g3, ?_, q3, hg3⟩
      unfold loopD
      rw [h1]
      simp only [e]
      exact e3
    · refine ⟨.nx ρ2, g2, ?_, ⟨ρ2, rfl, i2⟩, hg2⟩
      unfold loopD
      rw [h1]
      simp only [e]
theorem ts_brk {ρ : List En} {c : FT} {b : FS} {k : Bool} {Q : Fl → Prop} (hc : EX (c ρ) k) (h1 : k = true → Q (.bk ρ)) (h2 : k = false → TM (b ρ) Q) : TM (sSeq (sIf c sBk sNx) b ρ) Q := by
  cases k with
  | true =>
    intro g hg
    refine ⟨.bk ρ, g, ?_, h1 rfl, hg⟩
    have e : sIf c sBk sNx ρ g = some (.ok (.bk ρ) g) := by
      show (c ρ g).bd _ = _
      rw [hc g]; rfl
    unfold sSeq
    rw [e]
  | false => exact ts_ex (exs_if0 hc exs_nx) (h2 rfl)
theorem exl_in {fb : FS} {gs : FG} {F : En → List En} (hg : ∀ d x, gs d (F x) = some (F (.dt d))) : ∀ (ds : List D) (x : En), (∀ d ∈ ds, EX (fb (F (.dt d))) (.nx (F (.dt d)))) → ∃ y, EX (loopD gs fb ds (F x)) (.nx (F y))
  | [], x, _ => ⟨x, fun g => rfl⟩
  | d :: ds, x, h => by
    obtain ⟨y, e⟩ := exl_in hg ds (.dt d) fun d hd => h d (by simp [hd])
    refine ⟨y, fun g => ?_⟩
    unfold loopD
    rw [hg]
    simp only [h d (by simp) g]
    exact e g
theorem deed_plain {o : Option Int} (h : ∀ w, o = some w → 0 ≤ w ∧ w ≤ 999) : plain 2 (deedD o) = true := by
  cases o with
  | none =>
    unfold deedD
    rw [plain_tup]
    refine ⟨by simp, fun d hd => ?_⟩
    have : d = .str "see" := by simpa using hd
    rw [this]; exact sSee
  | some w =>
    unfold deedD
    rw [plain_tup]
    refine ⟨by simp, fun d hd => ?_⟩
    have : d = .str "put" ∨ d = .int w := by simpa using hd
    rcases this with rfl | rfl
    · exact sPut
    · rfl
section
variable {k : Str} {ds cells states tolds : List D}
theorem scripts_plain (I : Inv k ds cells states tolds) : plain 5 (.tup [.str k, .tup ds]) = true := by
  have n5 := I.n5
  rw [plain_tup]
  refine ⟨by simp, fun d hd => ?_⟩
  have z : d = .str k ∨ d = .tup ds := by simpa using hd
  rcases z with rfl | rfl
  · exact okM k I.hk
  · rw [plain_tup]
    refine ⟨by omega, fun d hd => ?_⟩
    obtain ⟨ss, rfl, h6, hm⟩ := I.all d hd
    rw [plain_tup]
    refine ⟨by omega, fun e he => ?_⟩
    obtain ⟨o, rfl, ho⟩ := hm e he
    exact deed_plain ho
abbrev env (k : Str) (ds : List D) (S : D) (mode : Int) (ns : List Int) (last : Int) (x7 x10 x11 x12 x13 x14 : En) : List En :=
  [.un, .dt .hnd, .dt (thePlay (.str k) (.tup ds)), .dt S, .dt (.int mode), .dt (.lst (ns.map .int)), .dt (.int last), x7, .dt (.str k), .dt (.tup ds), x10, x11, x12, x13, x14]
noncomputable abbrev body1 : FS := (sAsg (cLc (iR1 (cC (cCall lenD (cC (cV 9) cN)) cN)) [12] (gN 12) (cT (cOp notND (cOp ixD (cOp ixD (cV 3) (cD (.int 1))) (cV 12)) (cD .non))) (cV 12)) (gN 10))
noncomputable abbrev body2 : FS := (sIf (cNot (cT (cFn 2 f_law_same (cC (cFn 2 f_can_step (cC (cV 2) (cC (cV 3) cN))) (cC (cCall tupleD (cC (cV 10) cN)) cN))))) (sRet (cD (.bl false))) sNx)
noncomputable abbrev body3 : FS := (sAsg (cLc (iS (cV 10)) [12] (gN 12) (cT (cOp notInD (cV 12) (cV 5))) (cV 12)) (gN 11))
noncomputable abbrev inner : FS := (sIf (cNot (cT (cFn 2 f_law_same (cC (cFn 3 f_next_step (cC (cV 2) (cC (cV 3) (cC (cV 12) cN)))) (cC (cFn 4 f_law_next (cC (cV 8) (cC (cV 9) (cC (cV 3) (cC (cV 12) cN))))) cN))))) (sRet (cD (.bl false))) sNx)
noncomputable abbrev body9 : FS := (sIf (cOr (cNot (cT (cFn 2 f_law_same (cC (cFn 3 f_step (cC (cV 2) (cC (cV 3) (cC (cV 6) cN)))) (cC (cV 13) cN))))) (cT (cOp neD (cCall reprD (cC (cV 3) cN)) (cV 14)))) (sRet (cD (.bl false))) sNx)
noncomputable abbrev bodyL : FS := (sSeq body1 (sSeq body2 (sSeq body3 (sSeq (sIf (cT (cOp eqD (cCall lenD (cC (cV 11) cN)) (cD (.int 0)))) sBk sNx) (sSeq (sAsg (cFn 4 f_law_chosen (cC (cV 1) (cC (cV 11) (cC (cV 6) (cC (cV 4) cN))))) (gN 6)) (sSeq (sFor (iS (cV 10)) (gN 12) inner) (sSeq (sAsg (cFn 4 f_law_stepped (cC (cV 8) (cC (cV 9) (cC (cV 3) (cC (cV 6) cN))))) (gN 13)) (sSeq (sAsg (cCall reprD (cC (cV 3) cN)) (gN 14)) (sSeq body9 (sAsg (cV 13) (gN 3)))))))))))
abbrev stD3 (cells states tolds : List D) : D := .tup [.tup cells, .tup states, .tup tolds]
theorem body1_eq (I : Inv k ds cells states tolds) (mode : Int) (ns : List Int) (last : Int) (x7 x10 x11 x12 x13 x14 : En) : EX (body1 (env k ds (stD3 cells states tolds) mode ns last x7 x10 x11 x12 x13 x14)) (.nx (env k ds (stD3 cells states tolds) mode ns last x7 (.dt (.lst (ableL states))) x11 x12 x13 x14)) := by
  have n5 := I.n5
  have al := able_len states
  have e : ((rngD 0 ds.length).filter (goes states)).map id = ableL states := by
    rw [List.map_id, ← I.s]; rfl
  rw [← e] at al ⊢
  refine exs_asg (ex_lc (exi_r (n := ds.length) (ex_call (ex_c (ex_v rfl) ex_n) rfl) (by omega)) (exc_fil (p := goes states) (F := id) fun d hd => ?_) (by rw [I.s] at al; omega)) rfl
  unfold rngD at hd
  obtain ⟨j, hj, rfl⟩ := List.mem_map.mp hd
  have hj := List.mem_range.mp hj
  have e0 : ((0 : Int) + (j : Int)) = ((j : Nat) : Int) := by omega
  rw [e0]
  have hs : states[j]? = some (states[j]'(by rw [I.s]; exact hj)) := List.getElem?_eq_getElem _
  rw [goes_at hs]
  exact ⟨_, rfl, ext (ex_op (ex_op (ex_op (ex_v rfl) ex_d rfl) (ex_v rfl) (ix_nat hs)) ex_d (notND_non _)), ex_v rfl⟩
theorem body2_eq (I : Inv k ds cells states tolds) (mode : Int) (ns : List Int) (last : Int) (x7 x11 x12 x13 x14 : En) : EX (body2 (env k ds (stD3 cells states tolds) mode ns last x7 (.dt (.lst (ableL states))) x11 x12 x13 x14)) (.nx (env k ds (stD3 cells states tolds) mode ns last x7 (.dt (.lst (ableL states))) x11 x12 x13 x14)) := by
  have n5 := I.n5
  have hl : states.length ≤ 500 := by rw [I.s]; omega
  exact exs_if0 (ext_not (b := true) (ext (ex_fn (ex_c (ex_fn (ex_c (ex_v rfl) (ex_c (ex_v rfl) ex_n)) (can_step_eq hl _ _ _)) (ex_c (ex_call (ex_c (ex_v rfl) ex_n) rfl) ex_n)) (law_same_refl (n := 2) (by decide) (able_plain hl))))) exs_nx
def freeP (ns : List Int) : D → Bool
  | .int i => !ns.contains i
  | _ => false
theorem body3_eq (I : Inv k ds cells states tolds) (mode : Int) (ns : List Int) (last : Int) (x7 x11 x12 x13 x14 : En) : EX (body3 (env k ds (stD3 cells states tolds) mode ns last x7 (.dt (.lst (ableL states))) x11 x12 x13 x14)) (.nx (env k ds (stD3 cells states tolds) mode ns last x7 (.dt (.lst (ableL states))) (.dt (.lst ((ableL states).filter (freeP ns)))) x12 x13 x14)) := by
  have n5 := I.n5
  have al := able_len states
  rw [I.s] at al
  have fl := List.length_filter_le (freeP ns) (ableL states)
  have e : ((ableL states).filter (freeP ns)).map id = (ableL states).filter (freeP ns) := List.map_id _
  rw [← e] at fl ⊢
  refine exs_asg (ex_lc (exi_s (ex_v rfl) rfl) (exc_fil (p := freeP ns) (F := id) fun d hd => ?_) (by omega)) rfl
  obtain ⟨i, rfl, _⟩ := able_ints hd
  exact ⟨_, rfl, ext (ex_op (ex_v rfl) (ex_v rfl) (notInD_ints _ _)), ex_v rfl⟩
theorem inner_eq (I : Inv k ds cells states tolds) (mode : Int) (ns : List Int) (last : Int) (x7 x10 x11 x13 x14 : En) {d : D} (hd : d ∈ ableL states) : EX (inner (env k ds (stD3 cells states tolds) mode ns last x7 x10 x11 (.dt d) x13 x14)) (.nx (env k ds (stD3 cells states tolds) mode ns last x7 x10 x11 (.dt d) x13 x14)) := by
  obtain ⟨i, s, rfl, hs, hn⟩ := mem_able hd
  obtain ⟨c', s', t', word, _, _, _, w1, w2, w3⟩ := go_step I hs hn
  exact exs_if0 (ext_not (b := true) (ext (ex_fn (ex_c (ex_fn (ex_c (ex_v rfl) (ex_c (ex_v rfl) (ex_c (ex_v rfl) ex_n))) w1) (ex_c (ex_fn (ex_c (ex_v rfl) (ex_c (ex_v rfl) (ex_c (ex_v rfl) (ex_c (ex_v rfl) ex_n)))) w2) ex_n)) (law_same_refl (n := 2) (by decide) w3)))) exs_nx
def LI (k : Str) (ds : List D) (mode : Int) (ns : List Int) (ρ : List En) : Prop := ∃ cells states tolds last x7 x10 x11 x12 x13 x14, ρ = env k ds (stD3 cells states tolds) mode ns last x7 x10 x11 x12 x13 x14 ∧ Inv k ds cells states tolds
theorem bodyL_ok {mode : Int} {ns : List Int} (d : D) (ρ : List En) (h : LI k ds mode ns ρ) : ∃ ρ1, gN 7 d ρ = some ρ1 ∧ TM (bodyL ρ1) (fun f => ∃ ρ2, (f = .nx ρ2 ∨ f = .bk ρ2) ∧ LI k ds mode ns ρ2) := by
  obtain ⟨cells, states, tolds, last, x7, x10, x11, x12, x13, x14, rfl, I⟩ := h
  have n5 := I.n5
  have al := able_len states
  rw [I.s] at al
  refine ⟨env k ds (stD3 cells states tolds) mode ns last (.dt d) x10 x11 x12 x13 x14, rfl, ?_⟩
  refine ts_ex (body1_eq I mode ns last _ x10 x11 x12 x13 x14) ?_
  refine ts_ex (body2_eq I mode ns last _ x11 x12 x13 x14) ?_
  refine ts_ex (body3_eq I mode ns last _ x11 x12 x13 x14) ?_
  have fl := List.length_filter_le (freeP ns) (ableL states)
  have fm : ∀ e ∈ (ableL states).filter (freeP ns), ∃ i : Int, e = .int i := fun e he => by
    obtain ⟨i, rfl, _⟩ := able_ints (List.mem_filter.mp he).1
    exact ⟨_, rfl⟩
  obtain ⟨fs, hfs⟩ := ints_of fm
  refine ts_brk (k := ((((ableL states).filter (freeP ns)).length : Int) == 0)) (ext (ex_op (ex_call (ex_c (ex_v rfl) ex_n) rfl) ex_d (eqD_int _ _))) (fun _ => ⟨_, .inr rfl, _, _, _, _, _, _, _, _, _, _, rfl, I⟩) fun hz => ?_
  have hz' : ((ableL states).filter (freeP ns)).length ≠ 0 := fun z => by
    rw [z] at hz; simp at hz
  have hfl : fs.length = ((ableL states).filter (freeP ns)).length := by rw [hfs, List.length_map]
  refine ts_seq (I := fun ρ1 => ∃ e, e ∈ ableL states ∧ ∃ i : Int, e = .int i ∧ ρ1 = env k ds (stD3 cells states tolds) mode ns i (.dt d) (.dt (.lst (ableL states))) (.dt (.lst ((ableL states).filter (freeP ns)))) x12 x13 x14) (ts_asg (P := fun e => e ∈ (ableL states).filter (freeP ns)) (te_fn (fa_c (P := fun d => d = .hnd) (te_v rfl rfl) (fa_c (P := fun d => d = .lst (fs.map .int)) (te_v rfl (by rw [hfs])) (fa_c (P := fun d => d = .int last) (te_v rfl rfl) (fa_c (P := fun d => d = .int mode) (te_v rfl rfl) fa_n)))) fun xs h => ?_) ?_) ?_
  · match xs, h with
    | [a, b, c, e], h =>
      obtain ⟨rfl, rfl, rfl, rfl, _⟩ := h
      exact ⟨rfl, (t_chosen (by omega) (by omega)).imp fun x hx => by rw [hfs]; exact hx⟩
  · intro e he
    obtain ⟨i, rfl⟩ := fm e he
    exact ⟨_, rfl, _, rfl, _, (List.mem_filter.mp he).1, i, rfl, rfl⟩
  rintro _ ⟨_, he, i, rfl, rfl⟩
  obtain ⟨y, ey⟩ := exl_in (fb := inner) (gs := gN 12) (F := fun x => env k ds (stD3 cells states tolds) mode ns i (.dt d) (.dt (.lst (ableL states))) (.dt (.lst ((ableL states).filter (freeP ns)))) x x13 x14) (fun d x => rfl) (ableL states) x12 fun e he => inner_eq I mode ns i _ _ _ _ _ he
  refine ts_ex (exs_for (exi_s (ex_v rfl) rfl) ey) ?_
  obtain ⟨j, s, hj, hs, hn⟩ := mem_able he
  cases hj
  obtain ⟨c', s', t', word, I', p1, p2, _, _, _⟩ := go_step I hs hn
  obtain ⟨x, hx, ox⟩ := repr_tiny I.tiny
  have e7 : EX (sAsg (cFn 4 f_law_stepped (cC (cV 8) (cC (cV 9) (cC (cV 3) (cC (cV 6) cN))))) (gN 13) (env k ds (stD3 cells states tolds) mode ns ((j : Nat) : Int) (.dt d) (.dt (.lst (ableL states))) (.dt (.lst ((ableL states).filter (freeP ns)))) y x13 x14)) (.nx (env k ds (stD3 cells states tolds) mode ns ((j : Nat) : Int) (.dt d) (.dt (.lst (ableL states))) (.dt (.lst ((ableL states).filter (freeP ns)))) y (.dt (stD3 c' s' t')) x14)) :=
    exs_asg (ex_fn (ex_c (ex_v rfl) (ex_c (ex_v rfl) (ex_c (ex_v rfl) (ex_c (ex_v rfl) ex_n)))) p2) rfl
  refine ts_ex e7 ?_
  have e8 : EX (sAsg (cCall reprD (cC (cV 3) cN)) (gN 14) (env k ds (stD3 cells states tolds) mode ns ((j : Nat) : Int) (.dt d) (.dt (.lst (ableL states))) (.dt (.lst ((ableL states).filter (freeP ns)))) y (.dt (stD3 c' s' t')) x14)) (.nx (env k ds (stD3 cells states tolds) mode ns ((j : Nat) : Int) (.dt d) (.dt (.lst (ableL states))) (.dt (.lst ((ableL states).filter (freeP ns)))) y (.dt (stD3 c' s' t')) (.dt (.str x)))) :=
    exs_asg (ex_call (ex_c (ex_v rfl) ex_n) hx) rfl
  refine ts_ex e8 ?_
  have ne : neD (.str x) (.str x) = some (.bl false) := by
    rw [neD_str ox ox]; simp
  have e9 : EX (body9 (env k ds (stD3 cells states tolds) mode ns ((j : Nat) : Int) (.dt d) (.dt (.lst (ableL states))) (.dt (.lst ((ableL states).filter (freeP ns)))) y (.dt (stD3 c' s' t')) (.dt (.str x)))) (.nx (env k ds (stD3 cells states tolds) mode ns ((j : Nat) : Int) (.dt d) (.dt (.lst (ableL states))) (.dt (.lst ((ableL states).filter (freeP ns)))) y (.dt (stD3 c' s' t')) (.dt (.str x)))) :=
    exs_if0 (ext_or0 (ext_not (b := true) (ext (ex_fn (ex_c (ex_fn (ex_c (ex_v rfl) (ex_c (ex_v rfl) (ex_c (ex_v rfl) ex_n))) p1) (ex_c (ex_v rfl) ex_n)) (law_same_refl (n := 8) (by decide) (tiny_plain I'.tiny))))) (ext (ex_op (ex_call (ex_c (ex_v rfl) ex_n) hx) (ex_v rfl) ne))) exs_nx
  refine ts_ex e9 ?_
  refine TM.of (a := .nx (env k ds (stD3 c' s' t') mode ns ((j : Nat) : Int) (.dt d) (.dt (.lst (ableL states))) (.dt (.lst ((ableL states).filter (freeP ns)))) y (.dt (stD3 c' s' t')) (.dt (.str x)))) ⟨_, .inl rfl, _, _, _, _, _, _, _, _, _, _, rfl, I'⟩ ?_
  exact exs_asg (ex_v rfl) rfl
end
theorem main_tm : TM (b_law (.un :: .dt .hnd :: List.replicate 13 .un)) (fun f => ∃ d, f = .rt d ∧ d = .bl true) := by
  refine ts_seq (I := fun ρ1 => ∃ k ds n, ρ1 = [.un, .dt .hnd, .un, .un, .un, .un, .un, .un, .dt (.str k), .dt (.tup ds), .un, .un, .un, .un, .un] ∧ k ∈ MAN ∧ Menu n Script ds ∧ 1 ≤ n ∧ n ≤ 5) (ts_asg (P := Man) (te_fn (fa_c (P := fun d => d = .hnd) (te_v rfl rfl) fa_n) fun xs h => ?_) ?_) ?_
  · obtain ⟨x, rfl, rfl⟩ := fit1 h
    exact ⟨rfl, t_manner⟩
  · rintro x ⟨k, ds, n, rfl, h⟩
    exact ⟨_, rfl, _, rfl, k, ds, n, rfl, h⟩
  rintro _ ⟨k, ds, n, rfl, hk, hm, h1, h5⟩
  have hl : ds.length = n := hm.1
  have ht : ∀ d ∈ ds, ∃ ss, d = .tup ss := fun d hd => by
    obtain ⟨ss, e, _⟩ := script_form (hm.2 d hd)
    exact ⟨ss, e⟩
  have I0 := first_inv hk hm h1 h5
  refine ts_ex (exs_asg (ex_fn (ex_c (ex_v rfl) (ex_c (ex_v rfl) ex_n)) (play_man hk hm h1 h5)) rfl) ?_
  refine ts_ex (exs_asg (ex_fn (ex_c (ex_v rfl) ex_n) (law_first_eq ht (by omega) (by omega))) rfl) ?_
  have hs : EX (sIf (cNot (cT (cFn 2 f_law_same (cC (cFn 1 f_first_standing (cC (cV 2) cN)) (cC (cV 3) cN))))) (sRet (cD (.bl false))) sNx [.un, .dt .hnd, .dt (thePlay (.str k) (.tup ds)), .dt (firstD ds), .un, .un, .un, .un, .dt (.str k), .dt (.tup ds), .un, .un, .un, .un, .un]) (.nx [.un, .dt .hnd, .dt (thePlay (.str k) (.tup ds)), .dt (firstD ds), .un, .un, .un, .un, .dt (.str k), .dt (.tup ds), .un, .un, .un, .un, .un]) :=
    exs_if0 (ext_not (b := true) (ext (ex_fn (ex_c (ex_fn (ex_c (ex_v rfl) ex_n) (first_standing_eq hk ht (by omega))) (ex_c (ex_v rfl) ex_n)) (law_same_refl (n := 8) (by decide) (tiny_plain I0.tiny))))) exs_nx
  refine ts_ex hs ?_
  refine ts_seq (I := fun ρ1 => ∃ m, ρ1 = [.un, .dt .hnd, .dt (thePlay (.str k) (.tup ds)), .dt (firstD ds), .dt (.int m), .un, .un, .un, .dt (.str k), .dt (.tup ds), .un, .un, .un, .un, .un]) (ts_asg te_takeK ?_) ?_
  · rintro _ ⟨v, rfl, h⟩
    exact ⟨_, rfl, _, rfl, v, rfl⟩
  rintro _ ⟨m, rfl⟩
  refine ts_seq (I := fun ρ1 => ∃ ns : List Int, ρ1 = [.un, .dt .hnd, .dt (thePlay (.str k) (.tup ds)), .dt (firstD ds), .dt (.int m), .dt (.lst (ns.map .int)), .un, .un, .dt (.str k), .dt (.tup ds), .un, .un, .un, .un, .un]) (ts_asg (P := fun d => ∃ ns : List Int, d = .lst (ns.map .int)) (te_lc (ds := rngD 0 n) (R := fun ys => ys.Sublist (rngD 0 n)) ?_ (t_compF ?_) ?_) ?_) ?_
  · have := ti_rng (ρ := [.un, .dt .hnd, .dt (thePlay (.str k) (.tup ds)), .dt (firstD ds), .dt (.int m), .un, .un, .un, .dt (.str k), .dt (.tup ds), .un, .un, .un, .un, .un]) (a := cCall lenD (cC (cV 9) cN)) (j := (n : Int)) (by omega) (by omega) (TM.of rfl (by rw [← hl]; exact ex_call (ex_c (ex_v rfl) ex_n) rfl))
    exact this
  · intro d hd
    refine ⟨_, rfl, ?_, te_v rfl rfl⟩
    refine tt_t (te_op te_takeK (te_d (P := fun d => d = .int 0) rfl) ?_) (P := fun d => ∃ b, d = .bl b) ?_
    · rintro x y ⟨v, rfl, _⟩ rfl
      exact ⟨_, eqD_int _ _, _, rfl⟩
    · rintro x ⟨b, rfl⟩
      exact ⟨b, rfl, trivial⟩
  · intro ys hy
    have hyl := hy.length_le
    rw [rng_len] at hyl
    refine ⟨by omega, ?_⟩
    obtain ⟨is, rfl⟩ := ints_of (xs := ys) fun d hd => by
      have := hy.subset hd
      unfold rngD at this
      obtain ⟨j, _, rfl⟩ := List.mem_map.mp this
      exact ⟨_, rfl⟩
    exact ⟨is, rfl⟩
  · rintro _ ⟨ns, rfl⟩
    exact ⟨_, rfl, _, rfl, ns, rfl⟩
  rintro _ ⟨ns, rfl⟩
  refine ts_ex (ρ1 := env k ds (firstD ds) m ns (-1) .un .un .un .un .un .un) (exs_asg (ex_1 ex_d rfl) rfl) ?_
  refine ts_seq (I := LI k ds m ns) (ts_forR (R := fun _ => True) ?_ fun xs _ => t_loopB (I := LI k ds m ns) bodyL_ok xs _ ⟨_, _, _, _, _, _, _, _, _, _, rfl, I0⟩) ?_
  · show TM (fun g => (cC (cFn 2 f_law_pick _) cN _ g).bd _) _
    refine TM.bd (fa_c (te_pick (P := Range 0 160) (n := 2) (me_c (te_d ⟨_, rfl, by decide, by decide⟩) (me_c (te_d ⟨_, rfl, by decide, by decide⟩) (me_c (te_d ⟨_, rfl, by decide, by decide⟩) me_n)))) fa_n) fun xs h => ?_
    obtain ⟨_, rfl, v, rfl, g0, g1⟩ := fit1 h
    refine TM.of (a := rngD 0 v.toNat) trivial fun g => ?_
    rw [rng1_int g0 (by omega)]; rfl
  rintro _ ⟨cells, states, tolds, last, x7, x10, x11, x12, x13, x14, rfl, I⟩
  refine TM.of ⟨_, rfl, rfl⟩ (exs_ret (ex_fn (ex_c (ex_tup (ex_c (ex_1 (ex_v rfl) (fld_kind _ _)) (ex_c (ex_1 (ex_v rfl) (fld_inputs _ _)) ex_n))) (ex_c (ex_tup (ex_c (ex_v rfl) (ex_c (ex_v rfl) ex_n))) ex_n)) (law_same_refl (n := 5) (by decide) (scripts_plain I))))
theorem main (ns : List Int) (_ : ns.length ≤ 63) : ∃ g, b_law (.un :: .dt .hnd :: List.replicate 13 .un) ⟨ns, 0, 0, 1, 0⟩ = some (.ok (.rt (.bl true)) g) := by
  obtain ⟨_, g, e, ⟨_, rfl, rfl⟩, _⟩ := main_tm ⟨ns, 0, 0, 1, 0⟩ ⟨by simp, by simp, by simp⟩
  exact ⟨g, e⟩
end Kk02
set_option Elab.async false
set_option linter.all false
set_option maxRecDepth 100000
set_option maxHeartbeats 0
namespace Kk02
open PySem PySem.Spec PyProof.Rows L2 FD
/-! ### the text of the errors -/
abbrev s_BadPlay_exc : Stmt := inClass (top 2) 0
theorem sc_BadPlay_exc : FnScope ["self", "part"] ["self", "part"] (defScope s_BadPlay_exc) := ⟨rfl, rfl, rfl, by decide +kernel, rfl, by decide +kernel, by decide +kernel⟩
/-! ### the defs, the facts -/
def D_BadPlay_init : He.DefD := ⟨("BadPlay", some "__init__"), "__init__", "BadPlay.__init__", defArgs s_BadPlay_exc, defBody s_BadPlay_exc, defScope s_BadPlay_exc, [], []⟩
def D_many_hands : He.DefD := ⟨("many_hands", none), "many_hands", "many_hands", defArgs s_many_hands, defBody s_many_hands, defScope s_many_hands, [], []⟩
def D_state_ahead : He.DefD := ⟨("state_ahead", none), "state_ahead", "state_ahead", defArgs s_state_ahead, defBody s_state_ahead, defScope s_state_ahead, [], []⟩
def D_first_in_manner : He.DefD := ⟨("first_in_manner", none), "first_in_manner", "first_in_manner", defArgs s_first_in_manner, defBody s_first_in_manner, defScope s_first_in_manner, [], []⟩
def D_first_of_hand : He.DefD := ⟨("first_of_hand", none), "first_of_hand", "first_of_hand", defArgs s_first_of_hand, defBody s_first_of_hand, defScope s_first_of_hand, [], []⟩
def D_first_standing : He.DefD := ⟨("first_standing", none), "first_standing", "first_standing", defArgs s_first_standing, defBody s_first_standing, defScope s_first_standing, [], []⟩
def D_can_step : He.DefD := ⟨("can_step", none), "can_step", "can_step", defArgs s_can_step, defBody s_can_step, defScope s_can_step, [], []⟩
def D_is_whole : He.DefD := ⟨("is_whole", none), "is_whole", "is_whole", defArgs s_is_whole, defBody s_is_whole, defScope s_is_whole, [], []⟩
def D_is_whole_within : He.DefD := ⟨("is_whole_within", none), "is_whole_within", "is_whole_within", defArgs s_is_whole_within, defBody s_is_whole_within, defScope s_is_whole_within, [], []⟩
def D_is_number_below : He.DefD := ⟨("is_number_below", none), "is_number_below", "is_number_below", defArgs s_is_number_below, defBody s_is_number_below, defScope s_is_number_below, [], []⟩
def D_is_hand : He.DefD := ⟨("is_hand", none), "is_hand", "is_hand", defArgs s_is_hand, defBody s_is_hand, defScope s_is_hand, [], []⟩
def D_check_turn : He.DefD := ⟨("check_turn", none), "check_turn", "check_turn", defArgs s_check_turn, defBody s_check_turn, defScope s_check_turn, [], []⟩
def D_puts_next : He.DefD := ⟨("puts_next", none), "puts_next", "puts_next", defArgs s_puts_next, defBody s_puts_next, defScope s_puts_next, [], []⟩
def D_behind_put : He.DefD := ⟨("behind_put", none), "behind_put", "behind_put", defArgs s_behind_put, defBody s_behind_put, defScope s_behind_put, [], []⟩
def D_behind_picture : He.DefD := ⟨("behind_picture", none), "behind_picture", "behind_picture", defArgs s_behind_picture, defBody s_behind_picture, defScope s_behind_picture, [], []⟩
def D_numbers_of : He.DefD := ⟨("numbers_of", none), "numbers_of", "numbers_of", defArgs s_numbers_of, defBody s_numbers_of, defScope s_numbers_of, [], []⟩
def D_borrowed : He.DefD := ⟨("borrowed", none), "borrowed", "borrowed", defArgs s_borrowed, defBody s_borrowed, defScope s_borrowed, [], []⟩
def D_picture_of_sweep : He.DefD := ⟨("picture_of_sweep", none), "picture_of_sweep", "picture_of_sweep", defArgs s_picture_of_sweep, defBody s_picture_of_sweep, defScope s_picture_of_sweep, [], []⟩
def D_behind_look : He.DefD := ⟨("behind_look", none), "behind_look", "behind_look", defArgs s_behind_look, defBody s_behind_look, defScope s_behind_look, [], []⟩
def D_step_in_manner : He.DefD := ⟨("step_in_manner", none), "step_in_manner", "step_in_manner", defArgs s_step_in_manner, defBody s_step_in_manner, defScope s_step_in_manner, [], []⟩
def D_step_of_hand : He.DefD := ⟨("step_of_hand", none), "step_of_hand", "step_of_hand", defArgs s_step_of_hand, defBody s_step_of_hand, defScope s_step_of_hand, [], []⟩
def D_put_at : He.DefD := ⟨("put_at", none), "put_at", "put_at", defArgs s_put_at, defBody s_put_at, defScope s_put_at, [], []⟩
def D_standing_behind : He.DefD := ⟨("standing_behind", none), "standing_behind", "standing_behind", defArgs s_standing_behind, defBody s_standing_behind, defScope s_standing_behind, [], []⟩
def D_step : He.DefD := ⟨("step", none), "step", "step", defArgs s_step, defBody s_step, defScope s_step, [], []⟩
def D_word_in_manner : He.DefD := ⟨("word_in_manner", none), "word_in_manner", "word_in_manner", defArgs s_word_in_manner, defBody s_word_in_manner, defScope s_word_in_manner, [], []⟩
def D_word_of_step : He.DefD := ⟨("word_of_step", none), "word_of_step", "word_of_step", defArgs s_word_of_step, defBody s_word_of_step, defScope s_word_of_step, [], []⟩
def D_next_step : He.DefD := ⟨("next_step", none), "next_step", "next_step", defArgs s_next_step, defBody s_next_step, defScope s_next_step, [], []⟩
def D_law_take : He.DefD := ⟨("_law_take", none), "_law_take", "_law_take", defArgs s_law_take, defBody s_law_take, defScope s_law_take, [], []⟩
def D_law_pick : He.DefD := ⟨("_law_pick", none), "_law_pick", "_law_pick", defArgs s_law_pick, defBody s_law_pick, defScope s_law_pick, [], []⟩
def D_law_is_integer : He.DefD := ⟨("_law_is_integer", none), "_law_is_integer", "_law_is_integer", defArgs s_law_is_integer, defBody s_law_is_integer, defScope s_law_is_integer, [], []⟩
def D_law_same : He.DefD := ⟨("_law_same", none), "_law_same", "_law_same", defArgs s_law_same, defBody s_law_same, defScope s_law_same, [], []⟩
def D_law_script : He.DefD := ⟨("_law_script", none), "_law_script", "_law_script", defArgs s_law_script, defBody s_law_script, defScope s_law_script, [], []⟩
def D_law_manner : He.DefD := ⟨("_law_manner", none), "_law_manner", "_law_manner", defArgs s_law_manner, defBody s_law_manner, defScope s_law_manner, [], []⟩
def D_law_first : He.DefD := ⟨("_law_first", none), "_law_first", "_law_first", defArgs s_law_first, defBody s_law_first, defScope s_law_first, [], []⟩
def D_law_is_put : He.DefD := ⟨("_law_is_put", none), "_law_is_put", "_law_is_put", defArgs s_law_is_put, defBody s_law_is_put, defScope s_law_is_put, [], []⟩
def D_law_next : He.DefD := ⟨("_law_next", none), "_law_next", "_law_next", defArgs s_law_next, defBody s_law_next, defScope s_law_next, [], []⟩
def D_law_put_at : He.DefD := ⟨("_law_put_at", none), "_law_put_at", "_law_put_at", defArgs s_law_put_at, defBody s_law_put_at, defScope s_law_put_at, [], []⟩
def D_law_behind : He.DefD := ⟨("_law_behind", none), "_law_behind", "_law_behind", defArgs s_law_behind, defBody s_law_behind, defScope s_law_behind, [], []⟩
def D_law_seen : He.DefD := ⟨("_law_seen", none), "_law_seen", "_law_seen", defArgs s_law_seen, defBody s_law_seen, defScope s_law_seen, [], []⟩
def D_law_stepped : He.DefD := ⟨("_law_stepped", none), "_law_stepped", "_law_stepped", defArgs s_law_stepped, defBody s_law_stepped, defScope s_law_stepped, [], []⟩
def D_law_chosen : He.DefD := ⟨("_law_chosen", none), "_law_chosen", "_law_chosen", defArgs s_law_chosen, defBody s_law_chosen, defScope s_law_chosen, [], []⟩
def D_is_word_of : He.DefD := ⟨("is_word_of", none), "is_word_of", "is_word_of", defArgs s_is_word_of, defBody s_is_word_of, defScope s_is_word_of, [], []⟩
def D_is_lot_below : He.DefD := ⟨("is_lot_below", none), "is_lot_below", "is_lot_below", defArgs s_is_lot_below, defBody s_is_lot_below, defScope s_is_lot_below, [], []⟩
def D_is_row_of_hands : He.DefD := ⟨("is_row_of_hands", none), "is_row_of_hands", "is_row_of_hands", defArgs s_is_row_of_hands, defBody s_is_row_of_hands, defScope s_is_row_of_hands, [], []⟩
def D_is_near : He.DefD := ⟨("is_near", none), "is_near", "is_near", defArgs s_is_near, defBody s_is_near, defScope s_is_near, [], []⟩
def D_is_deed : He.DefD := ⟨("is_deed", none), "is_deed", "is_deed", defArgs s_is_deed, defBody s_is_deed, defScope s_is_deed, [], []⟩
def D_is_script : He.DefD := ⟨("is_script", none), "is_script", "is_script", defArgs s_is_script, defBody s_is_script, defScope s_is_script, [], []⟩
def D_is_inputs : He.DefD := ⟨("is_inputs", none), "is_inputs", "is_inputs", defArgs s_is_inputs, defBody s_is_inputs, defScope s_is_inputs, [], []⟩
def D_MK : He.DefD := ⟨("Play", some "__init__"), "__init__", "Play.__init__", defArgs s_Play_init, defBody s_Play_init, defScope s_Play_init, [], []⟩
def D_EQ : He.DefD := ⟨("Play", some "__eq__"), "__eq__", "Play.__eq__", defArgs s_Play_eq, defBody s_Play_eq, defScope s_Play_eq, [], []⟩
def D_hand : He.DefD := ⟨("_law_hand", none), "_law_hand", "_law_hand", defArgs s_law_hand, defBody s_law_hand, defScope s_law_hand, [], []⟩
def D_law : He.DefD := ⟨("law", none), "law", "law", defArgs s_law, defBody s_law, defScope s_law, [], []⟩
def fns : List He.DefD := [D_BadPlay_init, D_many_hands, D_state_ahead, D_first_in_manner, D_first_of_hand, D_first_standing, D_can_step, D_is_whole, D_is_whole_within, D_is_number_below, D_is_hand, D_check_turn, D_puts_next, D_behind_put, D_behind_picture, D_numbers_of, D_borrowed, D_picture_of_sweep, D_behind_look, D_step_in_manner, D_step_of_hand, D_put_at, D_standing_behind, D_step, D_word_in_manner, D_word_of_step, D_next_step, D_law_take, D_law_pick, D_law_is_integer, D_law_same, D_law_script, D_law_manner, D_law_first, D_law_is_put, D_law_next, D_law_put_at, D_law_behind, D_law_seen, D_law_stepped, D_law_chosen, D_is_word_of, D_is_lot_below, D_is_row_of_hands, D_is_near, D_is_deed, D_is_script, D_is_inputs, D_MK, D_EQ, D_hand, D_law]
def fas : List He.Fa := [.free "all", .free "bool", .free "enumerate", .free "int", .free "isinstance", .free "len", .free "list", .free "range", .free "repr", .free "set", .free "str", .free "tuple", .free "type", .free "zip", .int "LOT_LIMIT" 20, .int "MOST_DEEDS" 6, .int "MOST_HANDS" 5, .int "MOST_ROUNDS" 6, .int "NEAR_MOST" 1000, .int "NUMBER_LIMIT" 1000, .glo "Play", .cls "Play", .noat "Play" "kind", .noat "Play" "inputs", .glo "many_hands", .glo "state_ahead", .glo "first_in_manner", .glo "first_of_hand", .glo "first_standing", .glo "can_step", .glo "is_whole", .glo "is_whole_within", .glo "is_number_below", .glo "is_hand", .glo "check_turn", .glo "puts_next", .glo "behind_put", .glo "behind_picture", .glo "numbers_of", .glo "borrowed", .glo "picture_of_sweep", .glo "behind_look", .glo "step_in_manner", .glo "step_of_hand", .glo "put_at", .glo "standing_behind", .glo "step", .glo "word_in_manner", .glo "word_of_step", .glo "next_step", .glo "_law_take", .glo "_law_pick", .glo "_law_is_integer", .glo "_law_same", .glo "_law_script", .glo "_law_manner", .glo "_law_first", .glo "_law_is_put", .glo "_law_next", .glo "_law_put_at", .glo "_law_behind", .glo "_law_seen", .glo "_law_stepped", .glo "_law_chosen", .glo "is_word_of", .glo "is_lot_below", .glo "is_row_of_hands", .glo "is_near", .glo "is_deed", .glo "is_script", .glo "is_inputs", .mkr "Play", .meth "Play" "__eq__", .glo "_law_hand", .glo "law"]
def exs (K : PySem.W.Frag) : List Bool := [cgB K "FIRST_CELL" [(.int 0), (.int 0), .non], ctB K "KINDS" ["sweep", "twice", "borrow", "levels", "names", "near", "chain"], ctB K "MANNERS" ["sweep", "twice", "borrow"], excB K "BadPlay" "part", clsIB K "Play", decide (PySem.W.subIn K (.type "tuple") (.ref (He.ga K "Play")) = some false)]
def ex (K : PySem.W.Frag) : Bool := (exs K).all id
theorem ex_at {K : PySem.W.Frag} (i : Nat) (e : ex K = true) {b : Bool} (h : (exs K)[i]? = some b := by rfl) : b = true := List.all_eq_true.mp e b (List.mem_of_getElem? h)
abbrev R : PySem.W.OpenRow := PySem.W.OpenLaw.row PySem.Challenge.rw_onepicture_k02_whole_manners_step_by_ste
abbrev hk : PySem.W.Hook := hookF 5 fas fns ex
def ob (s : PySem.W.SharedT) : AlF := obsF 5 fas fns ex (HandSHeadRun.getT s)
theorem ob_eq (s : PySem.W.SharedT) : ob s = hk.obs s.abs := obsF_eq (HandSHeadRun.getT_eq s)
abbrev ls0 : List Str := ["PictureError", "BadPlay", "NoHand", "NoStep", "first_in_levels", "word_in_levels", "step_in_levels", "those_below", "FIRST_CELL", "state_ahead", "first_in_manner", "word_in_manner", "puts_next", "step_in_manner", "behind_put", "behind_look", "behind_picture", "numbers_of", "picture_of_sweep", "borrowed", "is_whole", "is_whole_within", "is_number_below", "is_word_of", "is_lot_below", "MANNERS", "KINDS", "MOST_HANDS", "MOST_DEEDS", "MOST_ROUNDS"]
abbrev ls1 : List Str := ["NEAR_MOST", "NUMBER_LIMIT", "LOT_LIMIT", "Play", "many_hands", "is_inputs", "is_row_of_hands", "is_near", "is_script", "is_deed", "first_in_seeing", "word_in_seeing", "step_in_seeing", "step_in_names", "free_number", "step_in_near", "step_in_chain", "first_standing", "can_step", "step", "next_step", "is_hand", "check_turn", "first_of_hand", "word_of_step", "standing_behind", "step_of_hand", "put_at", "_law_hand", "_law_take"]
abbrev ls2 : List Str := ["_law_pick", "_law_is_integer", "_law_same", "_law_script", "_law_manner", "_law_first", "_law_put_at", "_law_is_put", "_law_next", "_law_behind", "_law_seen", "_law_stepped", "_law_chosen"]
abbrev ls : List Str := ls0 ++ ls1 ++ ls2
theorem run (w : World) : HandSHeadRun.RunEq R (PySem.W.view R.prog [81]) hk ob 4000 ls w := by
  intro os
  kernel_rfl
theorem facts {P : Program} {w : World} {K : PySem.W.Frag} {h : Heap} {mg : Str → Option Value} {f : Addr} (X : K.In h) (G : h.Ns mainGlobals mg) (hfa : mg ("law" : Str) = some (.ref f)) (c : He.SaysD fas fns K) (e : ex K = true) :
    ∃ fd : FuncData, Fun K "law" "law" s_law f fd ∧ (∀ (s : Shared) (v : Value), BindsTo s fd ⟨[v], []⟩ [("_law_script_here", v)]) ∧ ∀ base : Heap, K.In base → base.Ns mainGlobals mg → BodyG P w K mg base ["_law_script_here", "_law_hand_here", "_law_play", "_law_standing", "_law_mode", "_law_stopped", "_law_last", "_law_k", "_law_kind", "_law_scripts", "_law_able", "_law_free", "_law_one", "_law_due", "_law_before"] "law" s_law 46 f (spLaw K) := by
  obtain ⟨fd, F_law⟩ := c.def_ 51 (d := D_law) rfl
  have e0 := hfa.symm.trans (He.glo_ok X G (c.fact 74 (f := .glo "law") rfl))
  cases e0
  have bl := FunD.bindsA (ps := ["_law_script_here"]) F_law (fun _ _ _ _ _ _ us hl => match us, hl with | [_], _ => rfl)
  refine ⟨fd, fun_of F_law, fun s v => bl s [v] rfl, fun base _ _ => ?_⟩
  obtain ⟨fd_BadPlay, F_BadPlay⟩ := c.def_ 0 (d := D_BadPlay_init) rfl
  have b_BadPlay : Binds K fd_BadPlay ["self", "part"] [] := FunD.bindsN F_BadPlay (fun _ _ _ _ _ _ us hl => match us, hl with | [_, _], _ => rfl)
  have hmP : mg "Play" = some (.ref (He.ga K "Play")) := He.glo_ok X G (c.fact 20 (f := .glo "Play") rfl)
  have clP : Cls K (He.ga K "Play") := He.cls_ok (c.fact 21 (f := .cls "Play") rfl)
  have T : Txt P w K mg base := {
      b_all := He.free_ok X G (c.fact 0 (f := .free "all") rfl)
      b_bool := He.free_ok X G (c.fact 1 (f := .free "bool") rfl)
      b_enumerate := He.free_ok X G (c.fact 2 (f := .free "enumerate") rfl)
      b_int := He.free_ok X G (c.fact 3 (f := .free "int") rfl)
      b_isinstance := He.free_ok X G (c.fact 4 (f := .free "isinstance") rfl)
      b_len := He.free_ok X G (c.fact 5 (f := .free "len") rfl)
      b_list := He.free_ok X G (c.fact 6 (f := .free "list") rfl)
      b_range := He.free_ok X G (c.fact 7 (f := .free "range") rfl)
      b_repr := He.free_ok X G (c.fact 8 (f := .free "repr") rfl)
      b_set := He.free_ok X G (c.fact 9 (f := .free "set") rfl)
      b_str := He.free_ok X G (c.fact 10 (f := .free "str") rfl)
      b_tuple := He.free_ok X G (c.fact 11 (f := .free "tuple") rfl)
      b_type := He.free_ok X G (c.fact 12 (f := .free "type") rfl)
      b_zip := He.free_ok X G (c.fact 13 (f := .free "zip") rfl)
      c_FIRST_CELL := cgB_ok (dvs := [(.int 0), (.int 0), .non]) X G (ex_at 0 e) (fun C S => (.cons (.int _) (.cons (.int _) (.cons .non .nil))))
      c_KINDS := ctB_ok (zs := ["sweep", "twice", "borrow", "levels", "names", "near", "chain"]) X G (ex_at 1 e)
      c_LOT_LIMIT := ciOk X G (c.fact 14 (f := .int "LOT_LIMIT" 20) rfl)
      c_MANNERS := ctB_ok (zs := ["sweep", "twice", "borrow"]) X G (ex_at 2 e)
      c_MOST_DEEDS := ciOk X G (c.fact 15 (f := .int "MOST_DEEDS" 6) rfl)
      c_MOST_HANDS := ciOk X G (c.fact 16 (f := .int "MOST_HANDS" 5) rfl)
      c_MOST_ROUNDS := ciOk X G (c.fact 17 (f := .int "MOST_ROUNDS" 6) rfl)
      c_NEAR_MOST := ciOk X G (c.fact 18 (f := .int "NEAR_MOST" 1000) rfl)
      c_NUMBER_LIMIT := ciOk X G (c.fact 19 (f := .int "NUMBER_LIMIT" 1000) rfl)
      x_BadPlay := excB_ok X G (ex_at 3 e) (fun TC => exc_init (fun_of (st := s_BadPlay_exc) F_BadPlay) TC (excB_no (ex_at 3 e)) sc_BadPlay_exc rfl rfl rfl (by decide) (by decide)) b_BadPlay
      play := fun C h => (by cases hmP.symm.trans h; exact clsIB_ok clP (ex_at 4 e))
      play_kind := fun C h => (by cases hmP.symm.trans h; exact He.noat_ok (c.fact 22 (f := .noat "Play" "kind") rfl))
      play_inputs := fun C h => (by cases hmP.symm.trans h; exact He.noat_ok (c.fact 23 (f := .noat "Play" "inputs") rfl))
    }
  obtain ⟨fd_many_hands, F_many_hands⟩ := c.def_ 1 (d := D_many_hands) rfl
  have A_many_hands : DefAt K mg "many_hands" s_many_hands ["play"] := ⟨_, fd_many_hands, fun_of F_many_hands, He.glo_ok X G (c.fact 24 (f := .glo "many_hands") rfl), FunD.bindsN F_many_hands (fun _ _ _ _ _ _ us hl => match us, hl with | [_], _ => rfl)⟩
  have d_many_hands := d_many_hands (w := w) (base := base) T A_many_hands 
  obtain ⟨fd_state_ahead, F_state_ahead⟩ := c.def_ 2 (d := D_state_ahead) rfl
  have A_state_ahead : DefAt K mg "state_ahead" s_state_ahead ["script", "done"] := ⟨_, fd_state_ahead, fun_of F_state_ahead, He.glo_ok X G (c.fact 25 (f := .glo "state_ahead") rfl), FunD.bindsN F_state_ahead (fun _ _ _ _ _ _ us hl => match us, hl with | [_, _], _ => rfl)⟩
  have d_state_ahead := d_state_ahead (w := w) (base := base) T A_state_ahead 
  obtain ⟨fd_first_in_manner, F_first_in_manner⟩ := c.def_ 3 (d := D_first_in_manner) rfl
  have A_first_in_manner : DefAt K mg "first_in_manner" s_first_in_manner ["play", "hand"] := ⟨_, fd_first_in_manner, fun_of F_first_in_manner, He.glo_ok X G (c.fact 26 (f := .glo "first_in_manner") rfl), FunD.bindsN F_first_in_manner (fun _ _ _ _ _ _ us hl => match us, hl with | [_, _], _ => rfl)⟩
  have d_first_in_manner := d_first_in_manner (w := w) (base := base) T A_first_in_manner d_state_ahead
  obtain ⟨fd_first_of_hand, F_first_of_hand⟩ := c.def_ 4 (d := D_first_of_hand) rfl
  have A_first_of_hand : DefAt K mg "first_of_hand" s_first_of_hand ["play", "hand"] := ⟨_, fd_first_of_hand, fun_of F_first_of_hand, He.glo_ok X G (c.fact 27 (f := .glo "first_of_hand") rfl), FunD.bindsN F_first_of_hand (fun _ _ _ _ _ _ us hl => match us, hl with | [_, _], _ => rfl)⟩
  have d_first_of_hand := d_first_of_hand (w := w) (base := base) T A_first_of_hand d_first_in_manner
  obtain ⟨fd_first_standing, F_first_standing⟩ := c.def_ 5 (d := D_first_standing) rfl
  have A_first_standing : DefAt K mg "first_standing" s_first_standing ["play"] := ⟨_, fd_first_standing, fun_of F_first_standing, He.glo_ok X G (c.fact 28 (f := .glo "first_standing") rfl), FunD.bindsN F_first_standing (fun _ _ _ _ _ _ us hl => match us, hl with | [_], _ => rfl)⟩
  have d_first_standing := d_first_standing (w := w) (base := base) T A_first_standing d_many_hands d_first_of_hand
  obtain ⟨fd_can_step, F_can_step⟩ := c.def_ 6 (d := D_can_step) rfl
  have A_can_step : DefAt K mg "can_step" s_can_step ["play", "standing"] := ⟨_, fd_can_step, fun_of F_can_step, He.glo_ok X G (c.fact 29 (f := .glo "can_step") rfl), FunD.bindsN F_can_step (fun _ _ _ _ _ _ us hl => match us, hl with | [_, _], _ => rfl)⟩
  have d_can_step := d_can_step (w := w) (base := base) T A_can_step 
  obtain ⟨fd_is_whole, F_is_whole⟩ := c.def_ 7 (d := D_is_whole) rfl
  have A_is_whole : DefAt K mg "is_whole" s_is_whole ["thing"] := ⟨_, fd_is_whole, fun_of F_is_whole, He.glo_ok X G (c.fact 30 (f := .glo "is_whole") rfl), FunD.bindsN F_is_whole (fun _ _ _ _ _ _ us hl => match us, hl with | [_], _ => rfl)⟩
  have d_is_whole := d_is_whole (w := w) (base := base) T A_is_whole 
  obtain ⟨fd_is_whole_within, F_is_whole_within⟩ := c.def_ 8 (d := D_is_whole_within) rfl
  have A_is_whole_within : DefAt K mg "is_whole_within" s_is_whole_within ["least", "most", "thing"] := ⟨_, fd_is_whole_within, fun_of F_is_whole_within, He.glo_ok X G (c.fact 31 (f := .glo "is_whole_within") rfl), FunD.bindsN F_is_whole_within (fun _ _ _ _ _ _ us hl => match us, hl with | [_, _, _], _ => rfl)⟩
  have d_is_whole_within := d_is_whole_within (w := w) (base := base) T A_is_whole_within d_is_whole
  obtain ⟨fd_is_number_below, F_is_number_below⟩ := c.def_ 9 (d := D_is_number_below) rfl
  have A_is_number_below : DefAt K mg "is_number_below" s_is_number_below ["limit", "thing"] := ⟨_, fd_is_number_below, fun_of F_is_number_below, He.glo_ok X G (c.fact 32 (f := .glo "is_number_below") rfl), FunD.bindsN F_is_number_below (fun _ _ _ _ _ _ us hl => match us, hl with | [_, _], _ => rfl)⟩
  have d_is_number_below := d_is_number_below (w := w) (base := base) T A_is_number_below d_is_whole_within
  obtain ⟨fd_is_hand, F_is_hand⟩ := c.def_ 10 (d := D_is_hand) rfl
  have A_is_hand : DefAt K mg "is_hand" s_is_hand ["play", "thing"] := ⟨_, fd_is_hand, fun_of F_is_hand, He.glo_ok X G (c.fact 33 (f := .glo "is_hand") rfl), FunD.bindsN F_is_hand (fun _ _ _ _ _ _ us hl => match us, hl with | [_, _], _ => rfl)⟩
  have d_is_hand := d_is_hand (w := w) (base := base) T A_is_hand d_many_hands d_is_number_below
  obtain ⟨fd_check_turn, F_check_turn⟩ := c.def_ 11 (d := D_check_turn) rfl
  have A_check_turn : DefAt K mg "check_turn" s_check_turn ["play", "standing", "hand"] := ⟨_, fd_check_turn, fun_of F_check_turn, He.glo_ok X G (c.fact 34 (f := .glo "check_turn") rfl), FunD.bindsN F_check_turn (fun _ _ _ _ _ _ us hl => match us, hl with | [_, _, _], _ => rfl)⟩
  have d_check_turn := d_check_turn (w := w) (base := base) T A_check_turn d_is_hand
  obtain ⟨fd_puts_next, F_puts_next⟩ := c.def_ 12 (d := D_puts_next) rfl
  have A_puts_next : DefAt K mg "puts_next" s_puts_next ["play", "hand", "state"] := ⟨_, fd_puts_next, fun_of F_puts_next, He.glo_ok X G (c.fact 35 (f := .glo "puts_next") rfl), FunD.bindsN F_puts_next (fun _ _ _ _ _ _ us hl => match us, hl with | [_, _, _], _ => rfl)⟩
  have d_puts_next := d_puts_next (w := w) (base := base) T A_puts_next 
  obtain ⟨fd_behind_put, F_behind_put⟩ := c.def_ 13 (d := D_behind_put) rfl
  have A_behind_put : DefAt K mg "behind_put" s_behind_put ["script", "cell", "state"] := ⟨_, fd_behind_put, fun_of F_behind_put, He.glo_ok X G (c.fact 36 (f := .glo "behind_put") rfl), FunD.bindsN F_behind_put (fun _ _ _ _ _ _ us hl => match us, hl with | [_, _, _], _ => rfl)⟩
  have d_behind_put := d_behind_put (w := w) (base := base) T A_behind_put d_state_ahead
  obtain ⟨fd_behind_picture, F_behind_picture⟩ := c.def_ 14 (d := D_behind_picture) rfl
  have A_behind_picture : DefAt K mg "behind_picture" s_behind_picture ["script", "done", "picture"] := ⟨_, fd_behind_picture, fun_of F_behind_picture, He.glo_ok X G (c.fact 37 (f := .glo "behind_picture") rfl), FunD.bindsN F_behind_picture (fun _ _ _ _ _ _ us hl => match us, hl with | [_, _, _], _ => rfl)⟩
  have d_behind_picture := d_behind_picture (w := w) (base := base) T A_behind_picture d_state_ahead
  obtain ⟨fd_numbers_of, F_numbers_of⟩ := c.def_ 15 (d := D_numbers_of) rfl
  have A_numbers_of : DefAt K mg "numbers_of" s_numbers_of ["cells"] := ⟨_, fd_numbers_of, fun_of F_numbers_of, He.glo_ok X G (c.fact 38 (f := .glo "numbers_of") rfl), FunD.bindsN F_numbers_of (fun _ _ _ _ _ _ us hl => match us, hl with | [_], _ => rfl)⟩
  have d_numbers_of := d_numbers_of (w := w) (base := base) T A_numbers_of 
  obtain ⟨fd_borrowed, F_borrowed⟩ := c.def_ 16 (d := D_borrowed) rfl
  have A_borrowed : DefAt K mg "borrowed" s_borrowed ["first", "now"] := ⟨_, fd_borrowed, fun_of F_borrowed, He.glo_ok X G (c.fact 39 (f := .glo "borrowed") rfl), FunD.bindsN F_borrowed (fun _ _ _ _ _ _ us hl => match us, hl with | [_, _], _ => rfl)⟩
  have d_borrowed := d_borrowed (w := w) (base := base) T A_borrowed 
  obtain ⟨fd_picture_of_sweep, F_picture_of_sweep⟩ := c.def_ 17 (d := D_picture_of_sweep) rfl
  have A_picture_of_sweep : DefAt K mg "picture_of_sweep" s_picture_of_sweep ["kind", "first", "last", "now"] := ⟨_, fd_picture_of_sweep, fun_of F_picture_of_sweep, He.glo_ok X G (c.fact 40 (f := .glo "picture_of_sweep") rfl), FunD.bindsN F_picture_of_sweep (fun _ _ _ _ _ _ us hl => match us, hl with | [_, _, _, _], _ => rfl)⟩
  have d_picture_of_sweep := d_picture_of_sweep (w := w) (base := base) T A_picture_of_sweep d_numbers_of d_borrowed
  obtain ⟨fd_behind_look, F_behind_look⟩ := c.def_ 18 (d := D_behind_look) rfl
  have A_behind_look : DefAt K mg "behind_look" s_behind_look ["play", "cells", "state", "hand"] := ⟨_, fd_behind_look, fun_of F_behind_look, He.glo_ok X G (c.fact 41 (f := .glo "behind_look") rfl), FunD.bindsN F_behind_look (fun _ _ _ _ _ _ us hl => match us, hl with | [_, _, _, _], _ => rfl)⟩
  have d_behind_look := d_behind_look (w := w) (base := base) T A_behind_look d_picture_of_sweep d_behind_picture d_numbers_of
  obtain ⟨fd_step_in_manner, F_step_in_manner⟩ := c.def_ 19 (d := D_step_in_manner) rfl
  have A_step_in_manner : DefAt K mg "step_in_manner" s_step_in_manner ["play", "cells", "state", "hand"] := ⟨_, fd_step_in_manner, fun_of F_step_in_manner, He.glo_ok X G (c.fact 42 (f := .glo "step_in_manner") rfl), FunD.bindsN F_step_in_manner (fun _ _ _ _ _ _ us hl => match us, hl with | [_, _, _, _], _ => rfl)⟩
  have d_step_in_manner := d_step_in_manner (w := w) (base := base) T A_step_in_manner d_puts_next d_behind_put d_behind_look
  obtain ⟨fd_step_of_hand, F_step_of_hand⟩ := c.def_ 20 (d := D_step_of_hand) rfl
  have A_step_of_hand : DefAt K mg "step_of_hand" s_step_of_hand ["play", "cells", "state", "hand"] := ⟨_, fd_step_of_hand, fun_of F_step_of_hand, He.glo_ok X G (c.fact 43 (f := .glo "step_of_hand") rfl), FunD.bindsN F_step_of_hand (fun _ _ _ _ _ _ us hl => match us, hl with | [_, _, _, _], _ => rfl)⟩
  have d_step_of_hand := d_step_of_hand (w := w) (base := base) T A_step_of_hand d_step_in_manner
  obtain ⟨fd_put_at, F_put_at⟩ := c.def_ 21 (d := D_put_at) rfl
  have A_put_at : DefAt K mg "put_at" s_put_at ["row", "hand", "item"] := ⟨_, fd_put_at, fun_of F_put_at, He.glo_ok X G (c.fact 44 (f := .glo "put_at") rfl), FunD.bindsN F_put_at (fun _ _ _ _ _ _ us hl => match us, hl with | [_, _, _], _ => rfl)⟩
  have d_put_at := d_put_at (w := w) (base := base) T A_put_at 
  obtain ⟨fd_standing_behind, F_standing_behind⟩ := c.def_ 22 (d := D_standing_behind) rfl
  have A_standing_behind : DefAt K mg "standing_behind" s_standing_behind ["play", "standing", "hand"] := ⟨_, fd_standing_behind, fun_of F_standing_behind, He.glo_ok X G (c.fact 45 (f := .glo "standing_behind") rfl), FunD.bindsN F_standing_behind (fun _ _ _ _ _ _ us hl => match us, hl with | [_, _, _], _ => rfl)⟩
  have d_standing_behind := d_standing_behind (w := w) (base := base) T A_standing_behind d_step_of_hand d_put_at
  obtain ⟨fd_step, F_step⟩ := c.def_ 23 (d := D_step) rfl
  have A_step : DefAt K mg "step" s_step ["play", "standing", "hand"] := ⟨_, fd_step, fun_of F_step, He.glo_ok X G (c.fact 46 (f := .glo "step") rfl), FunD.bindsN F_step (fun _ _ _ _ _ _ us hl => match us, hl with | [_, _, _], _ => rfl)⟩
  have d_step := d_step (w := w) (base := base) T A_step d_check_turn d_standing_behind
  obtain ⟨fd_word_in_manner, F_word_in_manner⟩ := c.def_ 24 (d := D_word_in_manner) rfl
  have A_word_in_manner : DefAt K mg "word_in_manner" s_word_in_manner ["play", "state", "hand"] := ⟨_, fd_word_in_manner, fun_of F_word_in_manner, He.glo_ok X G (c.fact 47 (f := .glo "word_in_manner") rfl), FunD.bindsN F_word_in_manner (fun _ _ _ _ _ _ us hl => match us, hl with | [_, _, _], _ => rfl)⟩
  have d_word_in_manner := d_word_in_manner (w := w) (base := base) T A_word_in_manner d_puts_next
  obtain ⟨fd_word_of_step, F_word_of_step⟩ := c.def_ 25 (d := D_word_of_step) rfl
  have A_word_of_step : DefAt K mg "word_of_step" s_word_of_step ["play", "state", "hand"] := ⟨_, fd_word_of_step, fun_of F_word_of_step, He.glo_ok X G (c.fact 48 (f := .glo "word_of_step") rfl), FunD.bindsN F_word_of_step (fun _ _ _ _ _ _ us hl => match us, hl with | [_, _, _], _ => rfl)⟩
  have d_word_of_step := d_word_of_step (w := w) (base := base) T A_word_of_step d_word_in_manner
  obtain ⟨fd_next_step, F_next_step⟩ := c.def_ 26 (d := D_next_step) rfl
  have A_next_step : DefAt K mg "next_step" s_next_step ["play", "standing", "hand"] := ⟨_, fd_next_step, fun_of F_next_step, He.glo_ok X G (c.fact 49 (f := .glo "next_step") rfl), FunD.bindsN F_next_step (fun _ _ _ _ _ _ us hl => match us, hl with | [_, _, _], _ => rfl)⟩
  have d_next_step := d_next_step (w := w) (base := base) T A_next_step d_check_turn d_word_of_step
  obtain ⟨fd_law_take, F_law_take⟩ := c.def_ 27 (d := D_law_take) rfl
  have A_law_take : DefAt K mg "_law_take" s_law_take ["_law_hand_here", "_law_many"] := ⟨_, fd_law_take, fun_of F_law_take, He.glo_ok X G (c.fact 50 (f := .glo "_law_take") rfl), FunD.bindsN F_law_take (fun _ _ _ _ _ _ us hl => match us, hl with | [_, _], _ => rfl)⟩
  have d_law_take := d_law_take (w := w) (base := base) T A_law_take 
  obtain ⟨fd_law_pick, F_law_pick⟩ := c.def_ 28 (d := D_law_pick) rfl
  have A_law_pick : DefAt K mg "_law_pick" s_law_pick ["_law_hand_here", "_law_things"] := ⟨_, fd_law_pick, fun_of F_law_pick, He.glo_ok X G (c.fact 51 (f := .glo "_law_pick") rfl), FunD.bindsN F_law_pick (fun _ _ _ _ _ _ us hl => match us, hl with | [_, _], _ => rfl)⟩
  have d_law_pick := d_law_pick (w := w) (base := base) T A_law_pick d_law_take
  obtain ⟨fd_law_is_integer, F_law_is_integer⟩ := c.def_ 29 (d := D_law_is_integer) rfl
  have A_law_is_integer : DefAt K mg "_law_is_integer" s_law_is_integer ["_law_thing"] := ⟨_, fd_law_is_integer, fun_of F_law_is_integer, He.glo_ok X G (c.fact 52 (f := .glo "_law_is_integer") rfl), FunD.bindsN F_law_is_integer (fun _ _ _ _ _ _ us hl => match us, hl with | [_], _ => rfl)⟩
  have d_law_is_integer := d_law_is_integer (w := w) (base := base) T A_law_is_integer 
  obtain ⟨fd_law_same, F_law_same⟩ := c.def_ 30 (d := D_law_same) rfl
  have A_law_same : DefAt K mg "_law_same" s_law_same ["_law_actual", "_law_due"] := ⟨_, fd_law_same, fun_of F_law_same, He.glo_ok X G (c.fact 53 (f := .glo "_law_same") rfl), FunD.bindsN F_law_same (fun _ _ _ _ _ _ us hl => match us, hl with | [_, _], _ => rfl)⟩
  have d_law_same := d_law_same (w := w) (base := base) T A_law_same d_law_is_integer
  obtain ⟨fd_law_script, F_law_script⟩ := c.def_ 31 (d := D_law_script) rfl
  have A_law_script : DefAt K mg "_law_script" s_law_script ["_law_hand_here", "_law_most"] := ⟨_, fd_law_script, fun_of F_law_script, He.glo_ok X G (c.fact 54 (f := .glo "_law_script") rfl), FunD.bindsN F_law_script (fun _ _ _ _ _ _ us hl => match us, hl with | [_, _], _ => rfl)⟩
  have d_law_script := d_law_script (w := w) (base := base) T A_law_script d_law_take d_law_pick
  obtain ⟨fd_law_manner, F_law_manner⟩ := c.def_ 32 (d := D_law_manner) rfl
  have A_law_manner : DefAt K mg "_law_manner" s_law_manner ["_law_hand_here"] := ⟨_, fd_law_manner, fun_of F_law_manner, He.glo_ok X G (c.fact 55 (f := .glo "_law_manner") rfl), FunD.bindsN F_law_manner (fun _ _ _ _ _ _ us hl => match us, hl with | [_], _ => rfl)⟩
  have d_law_manner := d_law_manner (w := w) (base := base) T A_law_manner d_law_pick d_law_script
  obtain ⟨fd_law_first, F_law_first⟩ := c.def_ 33 (d := D_law_first) rfl
  have A_law_first : DefAt K mg "_law_first" s_law_first ["_law_scripts"] := ⟨_, fd_law_first, fun_of F_law_first, He.glo_ok X G (c.fact 56 (f := .glo "_law_first") rfl), FunD.bindsN F_law_first (fun _ _ _ _ _ _ us hl => match us, hl with | [_], _ => rfl)⟩
  have d_law_first := d_law_first (w := w) (base := base) T A_law_first 
  obtain ⟨fd_law_is_put, F_law_is_put⟩ := c.def_ 34 (d := D_law_is_put) rfl
  have A_law_is_put : DefAt K mg "_law_is_put" s_law_is_put ["_law_kind", "_law_scripts", "_law_standing", "_law_one"] := ⟨_, fd_law_is_put, fun_of F_law_is_put, He.glo_ok X G (c.fact 57 (f := .glo "_law_is_put") rfl), FunD.bindsN F_law_is_put (fun _ _ _ _ _ _ us hl => match us, hl with | [_, _, _, _], _ => rfl)⟩
  have d_law_is_put := d_law_is_put (w := w) (base := base) T A_law_is_put 
  obtain ⟨fd_law_next, F_law_next⟩ := c.def_ 35 (d := D_law_next) rfl
  have A_law_next : DefAt K mg "_law_next" s_law_next ["_law_kind", "_law_scripts", "_law_standing", "_law_one"] := ⟨_, fd_law_next, fun_of F_law_next, He.glo_ok X G (c.fact 58 (f := .glo "_law_next") rfl), FunD.bindsN F_law_next (fun _ _ _ _ _ _ us hl => match us, hl with | [_, _, _, _], _ => rfl)⟩
  have d_law_next := d_law_next (w := w) (base := base) T A_law_next d_law_is_put
  obtain ⟨fd_law_put_at, F_law_put_at⟩ := c.def_ 36 (d := D_law_put_at) rfl
  have A_law_put_at : DefAt K mg "_law_put_at" s_law_put_at ["_law_row", "_law_at", "_law_thing"] := ⟨_, fd_law_put_at, fun_of F_law_put_at, He.glo_ok X G (c.fact 59 (f := .glo "_law_put_at") rfl), FunD.bindsN F_law_put_at (fun _ _ _ _ _ _ us hl => match us, hl with | [_, _, _], _ => rfl)⟩
  have d_law_put_at := d_law_put_at (w := w) (base := base) T A_law_put_at 
  obtain ⟨fd_law_behind, F_law_behind⟩ := c.def_ 37 (d := D_law_behind) rfl
  have A_law_behind : DefAt K mg "_law_behind" s_law_behind ["_law_scripts", "_law_one", "_law_done"] := ⟨_, fd_law_behind, fun_of F_law_behind, He.glo_ok X G (c.fact 60 (f := .glo "_law_behind") rfl), FunD.bindsN F_law_behind (fun _ _ _ _ _ _ us hl => match us, hl with | [_, _, _], _ => rfl)⟩
  have d_law_behind := d_law_behind (w := w) (base := base) T A_law_behind 
  obtain ⟨fd_law_seen, F_law_seen⟩ := c.def_ 38 (d := D_law_seen) rfl
  have A_law_seen : DefAt K mg "_law_seen" s_law_seen ["_law_kind", "_law_first_here", "_law_last", "_law_now"] := ⟨_, fd_law_seen, fun_of F_law_seen, He.glo_ok X G (c.fact 61 (f := .glo "_law_seen") rfl), FunD.bindsN F_law_seen (fun _ _ _ _ _ _ us hl => match us, hl with | [_, _, _, _], _ => rfl)⟩
  have d_law_seen := d_law_seen (w := w) (base := base) T A_law_seen 
  obtain ⟨fd_law_stepped, F_law_stepped⟩ := c.def_ 39 (d := D_law_stepped) rfl
  have A_law_stepped : DefAt K mg "_law_stepped" s_law_stepped ["_law_kind", "_law_scripts", "_law_standing", "_law_one"] := ⟨_, fd_law_stepped, fun_of F_law_stepped, He.glo_ok X G (c.fact 62 (f := .glo "_law_stepped") rfl), FunD.bindsN F_law_stepped (fun _ _ _ _ _ _ us hl => match us, hl with | [_, _, _, _], _ => rfl)⟩
  have d_law_stepped := d_law_stepped (w := w) (base := base) T A_law_stepped d_law_is_put d_law_put_at d_law_behind d_law_seen
  obtain ⟨fd_law_chosen, F_law_chosen⟩ := c.def_ 40 (d := D_law_chosen) rfl
  have A_law_chosen : DefAt K mg "_law_chosen" s_law_chosen ["_law_hand_here", "_law_able", "_law_last", "_law_mode"] := ⟨_, fd_law_chosen, fun_of F_law_chosen, He.glo_ok X G (c.fact 63 (f := .glo "_law_chosen") rfl), FunD.bindsN F_law_chosen (fun _ _ _ _ _ _ us hl => match us, hl with | [_, _, _, _], _ => rfl)⟩
  have d_law_chosen := d_law_chosen (w := w) (base := base) T A_law_chosen d_law_take d_law_pick
  obtain ⟨fd_is_word_of, F_is_word_of⟩ := c.def_ 41 (d := D_is_word_of) rfl
  have A_is_word_of : DefAt K mg "is_word_of" s_is_word_of ["words", "thing"] := ⟨_, fd_is_word_of, fun_of F_is_word_of, He.glo_ok X G (c.fact 64 (f := .glo "is_word_of") rfl), FunD.bindsN F_is_word_of (fun _ _ _ _ _ _ us hl => match us, hl with | [_, _], _ => rfl)⟩
  have d_is_word_of := d_is_word_of (w := w) (base := base) T A_is_word_of 
  obtain ⟨fd_is_lot_below, F_is_lot_below⟩ := c.def_ 42 (d := D_is_lot_below) rfl
  have A_is_lot_below : DefAt K mg "is_lot_below" s_is_lot_below ["limit", "thing"] := ⟨_, fd_is_lot_below, fun_of F_is_lot_below, He.glo_ok X G (c.fact 65 (f := .glo "is_lot_below") rfl), FunD.bindsN F_is_lot_below (fun _ _ _ _ _ _ us hl => match us, hl with | [_, _], _ => rfl)⟩
  have d_is_lot_below := d_is_lot_below (w := w) (base := base) T A_is_lot_below d_is_number_below
  obtain ⟨fd_is_row_of_hands, F_is_row_of_hands⟩ := c.def_ 43 (d := D_is_row_of_hands) rfl
  have A_is_row_of_hands : DefAt K mg "is_row_of_hands" s_is_row_of_hands ["thing"] := ⟨_, fd_is_row_of_hands, fun_of F_is_row_of_hands, He.glo_ok X G (c.fact 66 (f := .glo "is_row_of_hands") rfl), FunD.bindsN F_is_row_of_hands (fun _ _ _ _ _ _ us hl => match us, hl with | [_], _ => rfl)⟩
  have d_is_row_of_hands := d_is_row_of_hands (w := w) (base := base) T A_is_row_of_hands 
  obtain ⟨fd_is_near, F_is_near⟩ := c.def_ 44 (d := D_is_near) rfl
  have A_is_near : DefAt K mg "is_near" s_is_near ["thing"] := ⟨_, fd_is_near, fun_of F_is_near, He.glo_ok X G (c.fact 67 (f := .glo "is_near") rfl), FunD.bindsN F_is_near (fun _ _ _ _ _ _ us hl => match us, hl with | [_], _ => rfl)⟩
  have d_is_near := d_is_near (w := w) (base := base) T A_is_near d_is_whole_within d_is_row_of_hands
  obtain ⟨fd_is_deed, F_is_deed⟩ := c.def_ 45 (d := D_is_deed) rfl
  have A_is_deed : DefAt K mg "is_deed" s_is_deed ["thing"] := ⟨_, fd_is_deed, fun_of F_is_deed, He.glo_ok X G (c.fact 68 (f := .glo "is_deed") rfl), FunD.bindsN F_is_deed (fun _ _ _ _ _ _ us hl => match us, hl with | [_], _ => rfl)⟩
  have d_is_deed := d_is_deed (w := w) (base := base) T A_is_deed d_is_word_of d_is_number_below
  obtain ⟨fd_is_script, F_is_script⟩ := c.def_ 46 (d := D_is_script) rfl
  have A_is_script : DefAt K mg "is_script" s_is_script ["thing"] := ⟨_, fd_is_script, fun_of F_is_script, He.glo_ok X G (c.fact 69 (f := .glo "is_script") rfl), FunD.bindsN F_is_script (fun _ _ _ _ _ _ us hl => match us, hl with | [_], _ => rfl)⟩
  have d_is_script := d_is_script (w := w) (base := base) T A_is_script d_is_deed
  obtain ⟨fd_is_inputs, F_is_inputs⟩ := c.def_ 47 (d := D_is_inputs) rfl
  have A_is_inputs : DefAt K mg "is_inputs" s_is_inputs ["kind", "thing"] := ⟨_, fd_is_inputs, fun_of F_is_inputs, He.glo_ok X G (c.fact 70 (f := .glo "is_inputs") rfl), FunD.bindsN F_is_inputs (fun _ _ _ _ _ _ us hl => match us, hl with | [_, _], _ => rfl)⟩
  have d_is_inputs := d_is_inputs (w := w) (base := base) T A_is_inputs d_is_near d_is_row_of_hands d_is_script d_is_lot_below d_is_number_below
  obtain ⟨fd_MK, F_MK⟩ := c.def_ 48 (d := D_MK) rfl
  have d_MK := d_MK (w := w) (base := base) T (fun_of (st := s_Play_init) F_MK) hmP (He.mkr_ok (c.fact 71 (f := .mkr "Play") rfl)) (FunD.bindsN F_MK (fun _ _ _ _ _ _ us hl => match us, hl with | [_, _, _], _ => rfl)) d_is_word_of d_is_inputs
  obtain ⟨fd_EQ, F_EQ⟩ := c.def_ 49 (d := D_EQ) rfl
  have mEQ := He.meth_ok (c.fact 72 (f := .meth "Play" "__eq__") rfl)
  have d_EQ := d_EQ (w := w) (base := base) T (fun_of (st := s_Play_eq) F_EQ) hmP (FunD.bindsN F_EQ (fun _ _ _ _ _ _ us hl => match us, hl with | [_, _], _ => rfl)) mEQ.at_ mEQ.fn (of_decide_eq_true (ex_at 5 e)) 
  obtain ⟨fd_hand, F_hand⟩ := c.def_ 50 (d := D_hand) rfl
  exact d_law T (fun_of F_law) (fun_of F_hand) (He.glo_ok X G (c.fact 73 (f := .glo "_law_hand") rfl)) (FunD.bindsN F_hand (fun _ _ _ _ _ _ us hl => match us, hl with | [_], _ => rfl)) (He.free_ok X G (c.fact 6 (f := .free "list") rfl)) d_law_manner d_law_first d_first_standing d_law_same d_law_take d_law_pick d_can_step d_law_chosen d_law_next d_next_step d_law_stepped d_step d_MK main
end Kk02
open PySem PySem.W PySem.Calls PyProof.Rows
theorem PySem.Challenge.cw_onepicture_k02_whole_manners_step_by_ste_holds : PySem.Challenge.rw_onepicture_k02_whole_manners_step_by_ste.Holds := by
  w_on; o_law
  refine HandSHeadRun.head_any (r := OpenLaw.row PySem.Challenge.rw_onepicture_k02_whole_manners_step_by_ste) (q := view (OpenLaw.row PySem.Challenge.rw_onepicture_k02_whole_manners_step_by_ste).prog [81]) (H := Kk02.hk) (ob := Kk02.ob) (M := 4000) (loose := Kk02.ls) (d := HandSHeadRun.topDef (OpenLaw.row PySem.Challenge.rw_onepicture_k02_whole_manners_step_by_ste).prog 81) (kwd := []) Kk02.ob_eq
    (by kernel_rfl) (fun s => by kernel_rfl) Kk02.run (by kernel_rfl) (by kernel_rfl) (by kernel_rfl) (by rfl) (by first | assumption | decide +kernel) (by decide +kernel) ⟨rfl, rfl, rfl, rfl, rfl, by decide +kernel⟩ ?hw ?hc
  case hw => w_witness2
  case hc =>
    refine FD.walk_G (l := PySem.Challenge.rw_onepicture_k02_whole_manners_step_by_ste) (n := 63) (k := 46) (x := "_law_script_here") rfl (by decide) (by kernel_rfl) ⟨rfl, by decide, by decide⟩ ?F
    intro w mg fa h Y G hmg0
    obtain ⟨K, KX, c, e⟩ := Y
    have hmg : mg ("law" : PySem.Str) = some (.ref fa) := by
      have e : (HandSHeadRun.topDef (OpenLaw.row PySem.Challenge.rw_onepicture_k02_whole_manners_step_by_ste).prog 81).name = ("law" : PySem.Str) := by kernel_rfl
      rw [← e]
      exact hmg0
    obtain ⟨fd, hFu, hb, hF⟩ := Kk02.facts (P := (PySem.Challenge.rw_onepicture_k02_whole_manners_step_by_ste).prog) (w := w) KX G hmg c e
    exact ⟨K, "law", Kk02.s_law, fd, _, FD.spLaw K, KX, hFu, Kk02.sc_law, hb, fun H a ns hl hS => ⟨a, ns, rfl, hS, hl, fun _ => rfl⟩, hF⟩
