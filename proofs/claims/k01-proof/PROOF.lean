import PyProof.Rows.All
import Wide.All
import OpenK.AllK
import Wide.FinOn
import KE.KStateDown
import Lean
import HandS.Defaults
import HandS.ExcField
import HandS.ExcInit
import HandS.ForExc
import HandS.ForMost
import HandS.Head0
import HandS.Head1
import HandS.Head2
import HandS.HeadEnd
import HandS.HeadHook1
import HandS.HeadHook2
import HandS.IsInst
import HandS.OwnEq
import HandS.SetFor
import HandS.Strs
import HandS.Style
import HandS.TupAny
import HandS.TupMul
import HandS.Zip
import PySem.Challenge.RW_onepicture_k01_plays_judged
set_option Elab.async false
set_option linter.all false
set_option maxRecDepth 100000
set_option maxHeartbeats 2000000
/-! # Data as trees over the hand layer: each expression's reading by a plain function. -/
namespace FD
open PySem L2

/-- a value as a tree -/
inductive D where
  | non | bl (b : Bool) | int (i : Int) | str (x : Str) | tup (xs : List D) | lst (xs : List D) | emp | obj (c : Str) (ks : List Str) (ds : List D) | hnd

/-- the drawing hand: the numbers of the script, how many are taken, what is left of a great one, the state, how many draws -/
structure Gh where
  xs : List Int
  i : Int
  c : Int
  r : Int
  n : Int

structure DC where
  K : PySem.W.Frag
  mg : Str → Option Value
  ah : Option Addr

mutual
inductive Dn (C : DC) (H : Hp) : V → D → Prop
  | non : Dn C H .non .non
  | bl (b : Bool) : Dn C H (.bl b) (.bl b)
  | int (i : Int) : Dn C H (.int i) (.int i)
  | str (x : Str) : Dn C H (.str x) (.str x)
  | tup {a : Addr} {vs : List V} {ds : List D} : SqT C.K H a vs → Dns C H vs ds → Dn C H (.ref a) (.tup ds)
  | lst {a : Addr} {vs : List V} {ds : List D} : H a = some (.lst vs) → Dns C H vs ds → Dn C H (.ref a) (.lst ds)
  | emp {a : Addr} : H a = some (.dK []) → Dn C H (.ref a) .emp
  | obj {a A dx : Addr} {c : Str} {fs : List (Str × V)} {ks : List Str} {ds : List D} : C.mg c = some (.ref A) → H a = some (.ins A dx fs) → fs.map (·.1) = ks → Dns C H (fs.map (·.2)) ds → Dn C H (.ref a) (.obj c ks ds)
  | hnd {a : Addr} : C.ah = some a → Dn C H (.ref a) .hnd
inductive Dns (C : DC) (H : Hp) : List V → List D → Prop
  | nil : Dns C H [] []
  | cons {v : V} {d : D} {vs : List V} {ds : List D} : Dn C H v d → Dns C H vs ds → Dns C H (v :: vs) (d :: ds)
end

theorem Same.tup {K : PySem.W.Frag} {H H' : Hp} {a : Addr} {xs : List V} (e : Same H H') (h : SqT K H a xs) : SqT K H' a xs := by
  rcases h with (h | ⟨o, h⟩) | h
  · exact .inl (.inl (e _ _ h))
  · exact .inl (.inr ⟨o, e _ _ h⟩)
  · exact .inr h

mutual
theorem Dn.mono {C : DC} {H H' : Hp} (e : Same H H') : ∀ {v : V} {d : D}, Dn C H v d → Dn C H' v d
  | _, _, .non => .non
  | _, _, .bl b => .bl b
  | _, _, .int i => .int i
  | _, _, .str x => .str x
  | _, _, .tup h hs => .tup (Same.tup e h) (Dns.mono e hs)
  | _, _, .lst h hs => .lst (e _ _ h) (Dns.mono e hs)
  | _, _, .emp h => .emp (e _ _ h)
  | _, _, .obj m h k hs => .obj m (e _ _ h) k (Dns.mono e hs)
  | _, _, .hnd h => .hnd h
theorem Dns.mono {C : DC} {H H' : Hp} (e : Same H H') : ∀ {vs : List V} {ds : List D}, Dns C H vs ds → Dns C H' vs ds
  | _, _, .nil => .nil
  | _, _, .cons h hs => .cons (Dn.mono e h) (Dns.mono e hs)
end
theorem Dns.length {C : DC} {H : Hp} : ∀ {vs : List V} {ds : List D}, Dns C H vs ds → vs.length = ds.length
  | _, _, .nil => rfl
  | _, _, .cons _ hs => by simp [Dns.length hs]
theorem Dns.append {C : DC} {H : Hp} : ∀ {vs ws : List V} {ds es : List D}, Dns C H vs ds → Dns C H ws es → Dns C H (vs ++ ws) (ds ++ es)
  | _, _, _, _, .nil, k => k
  | _, _, _, _, .cons h hs, k => .cons h (Dns.append hs k)
theorem Dns.get {C : DC} {H : Hp} : ∀ {vs : List V} {ds : List D} {i : Nat} {d : D}, Dns C H vs ds → ds[i]? = some d → ∃ v, vs[i]? = some v ∧ Dn C H v d
  | _, _, _, _, .nil, e => by simp at e
  | _, _, 0, _, .cons h _, e => by simp at e; subst e; exact ⟨_, rfl, h⟩
  | _, _, i + 1, _, .cons _ hs, e => by
    obtain ⟨v, h1, h2⟩ := Dns.get (i := i) hs (by simpa using e)
    exact ⟨v, by simpa using h1, h2⟩
theorem Dns.getV {C : DC} {H : Hp} : ∀ {vs : List V} {ds : List D} {i : Nat} {v : V}, Dns C H vs ds → vs[i]? = some v → ∃ d, ds[i]? = some d ∧ Dn C H v d
  | _, _, _, _, .nil, e => by simp at e
  | _, _, 0, _, .cons h _, e => by simp at e; subst e; exact ⟨_, rfl, h⟩
  | _, _, i + 1, _, .cons _ hs, e => by
    obtain ⟨v, h1, h2⟩ := Dns.getV (i := i) hs (by simpa using e)
    exact ⟨v, by simpa using h1, h2⟩
theorem Dns.drop {C : DC} {H : Hp} : ∀ {vs : List V} {ds : List D} (n : Nat), Dns C H vs ds → Dns C H (vs.drop n) (ds.drop n)
  | _, _, 0, h => h
  | _, _, _ + 1, .nil => .nil
  | _, _, n + 1, .cons _ hs => Dns.drop n hs
theorem Dns.take {C : DC} {H : Hp} : ∀ {vs : List V} {ds : List D} (n : Nat), Dns C H vs ds → Dns C H (vs.take n) (ds.take n)
  | _, _, 0, _ => .nil
  | _, _, _ + 1, .nil => .nil
  | _, _, n + 1, .cons h hs => .cons h (Dns.take n hs)

/-- what a slot holds -/
inductive En where
  | un | dt (d : D) | own (xs : List D)

/-- a def's frame: what is written, where the hand stands, the heap at the entry, what of it stands for good -/
structure Fx where
  c : DC
  HE : Hp
  SE : Hp

def HandAt (c : DC) (g : Gh) (H S : Hp) : Prop := match c.ah with
  | none => True
  | some a => S a = none ∧ ∃ q, H a = some (.lst [.ref q, .int g.i, .int g.c, .int g.r, .int g.n]) ∧ S q = some (.lst (g.xs.map V.int))

def SlotOk (F : Fx) (H S : Hp) : En → Option V → Prop
  | .un, _ => True
  | .dt d, so => ∃ v, so = some v ∧ Dn F.c S v d
  | .own xs, so => ∃ p vs, so = some (.ref p) ∧ S p = none ∧ F.HE p = none ∧ F.c.ah ≠ some p ∧ H p = some (.lst vs) ∧ Dns F.c S vs xs

structure Rep (F : Fx) (ρ : List En) (g : Gh) (σ : St) (H S : Hp) : Prop where
  sub : Same S H
  hand : HandAt F.c g H S
  keep : ∀ b o, F.HE b = some o → F.c.ah ≠ some b → H b = some o
  stay : ∀ b, F.HE b ≠ none → F.SE b = none → S b = none
  slots : ∀ (i : Nat) (e : En), ρ[i]? = some e → ∃ so, σ[i]? = some so ∧ SlotOk F H S e so
  apart : ∀ (i j : Nat) (p : Addr) (xs ys : List D), ρ[i]? = some (.own xs) → ρ[j]? = some (.own ys) → σ[i]? = some (some (.ref p)) → σ[j]? = some (some (.ref p)) → i = j

section
variable {F : Fx} {ρ : List En} {g : Gh} {σ : St} {H S : Hp}

theorem Same.upd_new {H : Hp} {p : Addr} {o : HO} (hp : H p = none) : Same H (upd H p o) := fun b u e => by
  rw [upd_ne (ne_of_none e hp)]; exact e
theorem Same.upd_both {S H : Hp} (e : Same S H) (p : Addr) (o : HO) : Same (upd S p o) (upd H p o) := fun b u h => by
  by_cases hb : b = p
  · subst hb; rw [upd_same] at h ⊢; exact h
  · rw [upd_ne hb] at h ⊢; exact e b u h
theorem Rep.hand_some (R : Rep F ρ g σ H S) {a : Addr} (e : F.c.ah = some a) : S a = none ∧ H a ≠ none := by
  have h := R.hand
  unfold HandAt at h
  rw [e] at h
  obtain ⟨h1, q, h2, _⟩ := h
  exact ⟨h1, by rw [h2]; simp⟩
/-- a new address is none of those spoken of -/
theorem Rep.new_HE (R : Rep F ρ g σ H S) {p : Addr} (hp : H p = none) : F.HE p = none := by
  cases e : F.HE p with
  | none => rfl
  | some o =>
    by_cases h : F.c.ah = some p
    · exact absurd hp (R.hand_some h).2
    · rw [R.keep p o e h] at hp; cases hp
theorem Rep.new_ah (R : Rep F ρ g σ H S) {p : Addr} (hp : H p = none) : F.c.ah ≠ some p := fun h => (R.hand_some h).2 hp
theorem HandAt.up {c : DC} {g : Gh} {H S : Hp} {p : Addr} {o : HO} (h : HandAt c g H S) (sub : Same S H) (hp : H p = none) : HandAt c g (upd H p o) (upd S p o) := by
  unfold HandAt at h ⊢
  cases e : c.ah with
  | none => trivial
  | some a =>
    rw [e] at h
    obtain ⟨h1, q, h2, h3⟩ := h
    have ne : a ≠ p := ne_of_none h2 hp
    exact ⟨by rw [upd_ne ne]; exact h1, q, by rw [upd_ne ne]; exact h2, (Same.upd_new (sub.free hp)) _ _ h3⟩
theorem HandAt.up1 {c : DC} {g : Gh} {H S : Hp} {p : Addr} {o : HO} (h : HandAt c g H S) (hp : c.ah ≠ some p) : HandAt c g (upd H p o) S := by
  unfold HandAt at h ⊢
  cases e : c.ah with
  | none => trivial
  | some a =>
    rw [e] at h
    obtain ⟨h1, q, h2, h3⟩ := h
    have ne : a ≠ p := fun z => hp (by rw [e, z])
    exact ⟨h1, q, by rw [upd_ne ne]; exact h2, h3⟩
/-- what is made new stands for good -/
theorem Rep.up (R : Rep F ρ g σ H S) {p : Addr} (o : HO) (hp : H p = none) : Rep F ρ g σ (upd H p o) (upd S p o) where
  sub := Same.upd_both R.sub p o
  hand := R.hand.up R.sub hp
  keep := fun b u e h => by
    have := R.keep b u e h
    rw [upd_ne (ne_of_none this hp)]; exact this
  stay := fun b e h => by
    have ne : b ≠ p := fun z => e (by rw [z]; exact R.new_HE hp)
    rw [upd_ne ne]; exact R.stay b e h
  slots := fun i e h => by
    obtain ⟨so, h1, h2⟩ := R.slots i e h
    refine ⟨so, h1, ?_⟩
    have sm : Same S (upd S p o) := Same.upd_new (R.sub.free hp)
    cases e with
    | un => trivial
    | dt d => obtain ⟨v, e1, e2⟩ := h2; exact ⟨v, e1, e2.mono sm⟩
    | own xs =>
      obtain ⟨q, vs, e1, e2, e3, e4, e5, e6⟩ := h2
      have ne : q ≠ p := ne_of_none e5 hp
      exact ⟨q, vs, e1, by rw [upd_ne ne]; exact e2, e3, e4, by rw [upd_ne ne]; exact e5, e6.mono sm⟩
  apart := R.apart
theorem Rep.tosame (R : Rep F ρ g σ H S) {p : Addr} (o : HO) (hp : H p = none) : Same S (upd S p o) := Same.upd_new (R.sub.free hp)
/-- the slots are forgotten -/
theorem Rep.bare (R : Rep F ρ g σ H S) : Rep F [] g [] H S :=
  ⟨R.sub, R.hand, R.keep, R.stay, fun i e h => by simp at h, fun i j p xs ys h => by simp at h⟩
theorem Rep.forget {ρ' : List En} {σ' : St} (R : Rep F ρ g σ H S) (h : ∀ (i : Nat) (e : En), ρ'[i]? = some e → ∃ so, σ'[i]? = some so ∧ SlotOk F H S e so)
    (ap : ∀ (i j : Nat) (p : Addr) (xs ys : List D), ρ'[i]? = some (.own xs) → ρ'[j]? = some (.own ys) → σ'[i]? = some (some (.ref p)) → σ'[j]? = some (some (.ref p)) → i = j) : Rep F ρ' g σ' H S :=
  ⟨R.sub, R.hand, R.keep, R.stay, h, ap⟩
theorem get_set {α : Type} {l : List α} {i j : Nat} {x y : α} (h : (l.set i x)[j]? = some y) : (i = j ∧ x = y) ∨ (i ≠ j ∧ l[j]? = some y) := by
  rw [List.getElem?_set] at h
  split at h
  · rename_i e
    split at h
    · exact .inl ⟨e, Option.some.inj h⟩
    · cases h
  · rename_i e; exact .inr ⟨e, h⟩
theorem set_get {α : Type} {l : List α} {i j : Nat} {x : α} (h : i ≠ j) : (l.set i x)[j]? = l[j]? := by
  rw [List.getElem?_set, if_neg h]
theorem set_at {α : Type} {l : List α} {i : Nat} {x y : α} (h : l[i]? = some y) : (l.set i x)[i]? = some x := by
  have := (List.getElem?_eq_some_iff.mp h).1
  rw [List.getElem?_set, if_pos rfl, if_pos this]
/-- a name gets a value that stands for good -/
theorem Rep.set (R : Rep F ρ g σ H S) (i : Nat) {v : V} {d : D} (hv : Dn F.c S v d) : Rep F (ρ.set i (.dt d)) g (σ.set i (some v)) H S := by
  refine R.forget (fun j e h => ?_) fun j k p xs ys h1 h2 h3 h4 => ?_
  · rcases get_set h with ⟨rfl, rfl⟩ | ⟨ne, h⟩
    · have hl : i < ρ.length := by
        have := (List.getElem?_eq_some_iff.mp h).1
        simpa using this
      obtain ⟨so, h1, _⟩ := R.slots i (ρ[i]) (List.getElem?_eq_getElem hl)
      exact ⟨some v, set_at h1, v, rfl, hv⟩
    · obtain ⟨so, h1, h2⟩ := R.slots j e h
      exact ⟨so, by rw [set_get ne]; exact h1, h2⟩
  · rcases get_set h1 with ⟨_, z⟩ | ⟨n1, h1⟩
    · cases z
    rcases get_set h2 with ⟨_, z⟩ | ⟨n2, h2⟩
    · cases z
    rw [set_get n1] at h3; rw [set_get n2] at h4
    exact R.apart j k p xs ys h1 h2 h3 h4
/-- a name gets a new list that it alone holds -/
theorem Rep.setOwn (R : Rep F ρ g σ H S) (i : Nat) {p : Addr} {vs : List V} {xs : List D} (hp : H p = none) (hs : Dns F.c S vs xs) : Rep F (ρ.set i (.own xs)) g (σ.set i (some (.ref p))) (upd H p (.lst vs)) S := by
  refine ⟨fun b o e => by rw [upd_ne (ne_of_none (R.sub _ _ e) hp)]; exact R.sub _ _ e, R.hand.up1 (R.new_ah hp), fun b o e h => by rw [upd_ne (ne_of_none (R.keep b o e h) hp)]; exact R.keep b o e h, R.stay, fun j e h => ?_, fun j k q xs' ys' h1 h2 h3 h4 => ?_⟩
  · rcases get_set h with ⟨rfl, rfl⟩ | ⟨ne, h⟩
    · have hl : i < ρ.length := by
        have := (List.getElem?_eq_some_iff.mp h).1
        simpa using this
      obtain ⟨so, h1, _⟩ := R.slots i (ρ[i]) (List.getElem?_eq_getElem hl)
      exact ⟨some (.ref p), set_at h1, p, vs, rfl, R.sub.free hp, R.new_HE hp, R.new_ah hp, upd_same, hs⟩
    · obtain ⟨so, h1, h2⟩ := R.slots j e h
      refine ⟨so, by rw [set_get ne]; exact h1, ?_⟩
      cases e with
      | un => trivial
      | dt d => exact h2
      | own zs =>
        obtain ⟨q, ws, e1, e2, e3, e4, e5, e6⟩ := h2
        exact ⟨q, ws, e1, e2, e3, e4, by rw [upd_ne (ne_of_none e5 hp)]; exact e5, e6⟩
  · have fresh : ∀ (m : Nat) (zs : List D), i ≠ m → ρ[m]? = some (.own zs) → σ[m]? = some (some (.ref p)) → False := fun m zs _ a b => by
      obtain ⟨so, c1, q, ws, c2, _, _, _, c5, _⟩ := R.slots m _ a
      rw [b] at c1; cases c1
      cases c2
      rw [hp] at c5; cases c5
    rcases get_set h1 with ⟨z1, _⟩ | ⟨n1, h1⟩
    · rcases get_set h2 with ⟨z2, _⟩ | ⟨n2, h2⟩
      · rw [← z1, ← z2]
      · rw [set_get n2] at h4
        subst z1
        rcases get_set h3 with ⟨_, z⟩ | ⟨n, _⟩
        · cases z; exact (fresh k _ n2 h2 h4).elim
        · exact absurd rfl n
    · rw [set_get n1] at h3
      rcases get_set h2 with ⟨z2, _⟩ | ⟨n2, h2⟩
      · subst z2
        rcases get_set h4 with ⟨_, z⟩ | ⟨n, _⟩
        · cases z; exact (fresh j _ n1 h1 h3).elim
        · exact absurd rfl n
      · rw [set_get n2] at h4
        exact R.apart j k q xs' ys' h1 h2 h3 h4
/-- such a list is written -/
theorem Rep.writeOwn (R : Rep F ρ g σ H S) {i : Nat} {p : Addr} {xs zs : List D} {ws : List V} (hi : ρ[i]? = some (.own xs)) (hσ : σ[i]? = some (some (.ref p))) (hs : Dns F.c S ws zs) : Rep F (ρ.set i (.own zs)) g σ (upd H p (.lst ws)) S := by
  obtain ⟨so, e0, p', vs, e1, e2, e3, e4, e5, e6⟩ := R.slots i _ hi
  rw [hσ] at e0; cases e0; cases e1
  refine ⟨fun b o e => by rw [upd_ne (ne_of_none e e2)]; exact R.sub _ _ e, R.hand.up1 e4, fun b o e h => by rw [upd_ne (ne_of_none e e3)]; exact R.keep b o e h, R.stay, fun j e h => ?_, fun j k q xs' ys' h1 h2 h3 h4 => ?_⟩
  · rcases get_set h with ⟨rfl, rfl⟩ | ⟨ne, h⟩
    · exact ⟨_, hσ, p, ws, rfl, e2, e3, e4, upd_same, hs⟩
    · obtain ⟨so, h1, h2⟩ := R.slots j e h
      refine ⟨so, h1, ?_⟩
      cases e with
      | un => trivial
      | dt d => exact h2
      | own ys =>
        obtain ⟨q, us, c1, c2, c3, c4, c5, c6⟩ := h2
        have nq : q ≠ p := fun z => by
          subst z; subst c1
          exact ne (R.apart i j q xs ys hi h hσ h1)
        exact ⟨q, us, c1, c2, c3, c4, by rw [upd_ne nq]; exact c5, c6⟩
  · have at_ : ∀ (m : Nat) (us : List D), (ρ.set i (.own zs))[m]? = some (.own us) → ∃ us', ρ[m]? = some (.own us') := fun m us a => by
      rcases get_set a with ⟨z, _⟩ | ⟨_, a⟩
      · subst z; exact ⟨_, hi⟩
      · exact ⟨_, a⟩
    obtain ⟨_, h1⟩ := at_ j _ h1
    obtain ⟨_, h2⟩ := at_ k _ h2
    exact R.apart j k q _ _ h1 h2 h3 h4
/-- the list that a name alone holds stands for good from now on -/
theorem Rep.freeze (R : Rep F ρ g σ H S) {i : Nat} {xs : List D} (hi : ρ[i]? = some (.own xs)) : ∃ S', Same S S' ∧ Rep F (ρ.set i (.dt (.lst xs))) g σ H S' := by
  obtain ⟨so, e0, p, vs, e1, e2, e3, e4, e5, e6⟩ := R.slots i _ hi
  subst e1
  have sm : Same S (upd S p (.lst vs)) := Same.upd_new e2
  refine ⟨upd S p (.lst vs), sm, fun b o e => ?_, ?_, R.keep, fun b e h => ?_, fun j e h => ?_, fun j k q xs' ys' h1 h2 h3 h4 => ?_⟩
  · by_cases hb : b = p
    · subst hb; rw [upd_same] at e; cases e; exact e5
    · rw [upd_ne hb] at e; exact R.sub _ _ e
  · have h := R.hand
    unfold HandAt at h ⊢
    cases ea : F.c.ah with
    | none => trivial
    | some a =>
      rw [ea] at h
      obtain ⟨h1, q, h2, h3⟩ := h
      have ne : a ≠ p := fun z => e4 (by rw [ea, z])
      exact ⟨by rw [upd_ne ne]; exact h1, q, h2, sm _ _ h3⟩
  · have ne : b ≠ p := fun z => e (by rw [z]; exact e3)
    rw [upd_ne ne]; exact R.stay b e h
  · rcases get_set h with ⟨rfl, rfl⟩ | ⟨ne, h⟩
    · exact ⟨_, e0, _, rfl, .lst upd_same (e6.mono sm)⟩
    · obtain ⟨so, h1, h2⟩ := R.slots j e h
      refine ⟨so, h1, ?_⟩
      cases e with
      | un => trivial
      | dt d => obtain ⟨v, c1, c2⟩ := h2; exact ⟨v, c1, c2.mono sm⟩
      | own ys =>
        obtain ⟨q, us, c1, c2, c3, c4, c5, c6⟩ := h2
        have nq : q ≠ p := fun z => by
          subst z; subst c1
          exact ne (R.apart i j q xs ys hi h e0 h1)
        exact ⟨q, us, c1, by rw [upd_ne nq]; exact c2, c3, c4, c5, c6.mono sm⟩
  · rcases get_set h1 with ⟨_, z⟩ | ⟨n1, h1⟩
    · cases z
    rcases get_set h2 with ⟨_, z⟩ | ⟨n2, h2⟩
    · cases z
    exact R.apart j k q xs' ys' h1 h2 h3 h4
/-- behind a call -/
theorem Rep.back (R : Rep F ρ g σ H S) {g' : Gh} {H' S' : Hp} (sm : Same S S') (B : Rep ⟨F.c, H, S⟩ [] g' [] H' S') : Rep F ρ g' σ H' S' := by
  refine ⟨B.sub, B.hand, fun b o e h => B.keep b o (R.keep b o e h) h, fun b e h => ?_, fun i e h => ?_, R.apart⟩
  · by_cases ha : F.c.ah = some b
    · exact (B.hand_some ha).1
    · refine B.stay b ?_ (R.stay b e h)
      cases q : F.HE b with
      | none => exact absurd q e
      | some o => show H b ≠ none; rw [R.keep b o q ha]; simp
  · obtain ⟨so, h1, h2⟩ := R.slots i e h
    refine ⟨so, h1, ?_⟩
    cases e with
    | un => trivial
    | dt d => obtain ⟨v, c1, c2⟩ := h2; exact ⟨v, c1, c2.mono sm⟩
    | own ys =>
      obtain ⟨q, us, c1, c2, c3, c4, c5, c6⟩ := h2
      refine ⟨q, us, c1, B.stay q (by show H q ≠ none; rw [c5]; simp) c2, c3, c4, B.keep q _ c5 c4, c6.mono sm⟩
end
end FD
set_option Elab.async false
set_option linter.all false
set_option maxRecDepth 100000
set_option maxHeartbeats 2000000
namespace FD
open PySem L2

inductive Out (α : Type) where
  | ok (a : α) (g : Gh)
  | ex (c : Str) (ks : List Str) (ds : List D) (g : Gh)
abbrev M (α : Type) := Option (Out α)
@[simp] def M.bd {α β : Type} (m : M α) (k : α → Gh → M β) : M β := match m with
  | none => none
  | some (.ok a g) => k a g
  | some (.ex c ks ds g) => some (.ex c ks ds g)
@[simp] def lift {α : Type} (o : Option α) (g : Gh) : M α := match o with
  | none => none
  | some a => some (.ok a g)

abbrev FE := List En → Gh → M D
abbrev FA := List En → Gh → M (List D)
abbrev FT := List En → Gh → M Bool
inductive Fl where
  | nx (ρ : List En) | rt (d : D) | bk (ρ : List En) | ct (ρ : List En)
abbrev FS := List En → Gh → M Fl

/-- how an error lies: its own dict's fields -/
def ExAt (c : DC) (S : Hp) (dd : Option Addr) (ks : List Str) (ds : List D) : Prop :=
  ∃ fs : List (Str × V), (match dd with | some d => S d = some (.xd fs) | none => fs = []) ∧ fs.map (·.1) = ks ∧ Dns c S (fs.map (·.2)) ds
def GotX (F : Fx) (S : Hp) (E : XK) (c : Str) (ks : List Str) (ds : List D) (g : Gh) : Prop :=
  ∀ A dd H' S', F.c.mg c = some (.ref A) → Same S S' → Rep F [] g [] H' S' → ExAt F.c S' dd ks ds → E (.ref A) dd H'
abbrev Rl (β α : Type) := DC → Hp → β → α → Prop
abbrev rB : Rl Bool Bool := fun _ _ b a => b = a
def Got {β α : Type} (rel : Rl β α) (F : Fx) (ρ : List En) (σ : St) (S : Hp) (E : XK) (Q : β → Hp → Prop) : M α → Prop
  | none => False
  | some (.ok a g) => ∀ b H' S', Same S S' → Rep F ρ g σ H' S' → rel F.c S' b a → Q b H'
  | some (.ex c ks ds g) => GotX F S E c ks ds g
theorem GotX.mono {F : Fx} {S S1 : Hp} {E : XK} {c ks ds g} (h : GotX F S E c ks ds g) (sm : Same S S1) : GotX F S1 E c ks ds g :=
  fun A dd H' S' m s R x => h A dd H' S' m (sm.trans s) R x
theorem Got.mono {β α : Type} {rel : Rl β α} {F : Fx} {ρ : List En} {σ : St} {S S1 : Hp} {E : XK} {Q : β → Hp → Prop} {m : M α} (h : Got rel F ρ σ S E Q m) (sm : Same S S1) : Got rel F ρ σ S1 E Q m := by
  cases m with
  | none => exact h
  | some o => cases o with
    | ok a g => exact fun b H' S' s R r => h b H' S' (sm.trans s) R r
    | ex c ks ds g => exact GotX.mono h sm

abbrev TX (β : Type) := St → Hp → (β → Hp → Prop) → Prop
/-- the reading t goes as the function f says -/
structure RG {β α : Type} (rel : Rl β α) (c : DC) (E : St → XK) (t : TX β) (f : List En → Gh → M α) : Prop where
  run : ∀ (F : Fx) (ρ : List En) (g : Gh) (σ : St) (H S : Hp) (Q : β → Hp → Prop), F.c = c → Rep F ρ g σ H S → Got rel F ρ σ S (E σ) Q (f ρ g) → t σ H Q
abbrev RE := @RG V D Dn
abbrev RA := @RG (List V) (List D) Dns
abbrev RT := @RG Bool Bool rB

/-- one after another -/
theorem RG.bind {β α β' α' : Type} {rel : Rl β α} {rel' : Rl β' α'} {c : DC} {E : St → XK} {ta : TX β} {fa : List En → Gh → M α} (ha : RG rel c E ta fa) {r : St → β → Hp → (β' → Hp → Prop) → Prop} {k : List En → α → Gh → M α'}
    (hk : ∀ F ρ g σ H S Q b a, F.c = c → Rep F ρ g σ H S → rel c S b a → Got rel' F ρ σ S (E σ) Q (k ρ a g) → r σ b H Q) : RG rel' c E (fun σ H Q => ta σ H fun b H1 => r σ b H1 Q) (fun ρ g => (fa ρ g).bd (k ρ)) := by
  refine ⟨fun F ρ g σ H S Q e R G => ha.run F ρ g σ H S _ e R ?_⟩
  cases h : fa ρ g with
  | none => simp only [M.bd, h] at G; exact G
  | some o => cases o with
    | ok a g1 =>
      simp only [M.bd, h] at G
      exact fun b H1 S1 sm R1 rl => hk F ρ g1 σ H1 S1 Q b a e R1 (e ▸ rl) (G.mono sm)
    | ex cc ks ds g1 => simp only [M.bd, h] at G; exact G
/-- the same at a place -/
theorem RG.step {β α β' α' : Type} {rel : Rl β α} {rel' : Rl β' α'} {c : DC} {E : St → XK} {t : TX β} {fa : List En → Gh → M α} (ha : RG rel c E t fa) {F : Fx} {ρ : List En} {g : Gh} {σ : St} {H S : Hp} {Q : β' → Hp → Prop} {k : α → Gh → M α'} {r : β → Hp → Prop}
    (e : F.c = c) (R : Rep F ρ g σ H S) (G : Got rel' F ρ σ S (E σ) Q ((fa ρ g).bd k)) (hk : ∀ H1 S1 g1 b a, Same S S1 → Rep F ρ g1 σ H1 S1 → rel c S1 b a → Got rel' F ρ σ S1 (E σ) Q (k a g1) → r b H1) : t σ H r := by
  refine ha.run F ρ g σ H S _ e R ?_
  cases h : fa ρ g with
  | none => simp only [M.bd, h] at G; exact G
  | some o => cases o with
    | ok a g1 =>
      simp only [M.bd, h] at G
      exact fun b H1 S1 sm R1 rl => hk H1 S1 g1 b a sm R1 (e ▸ rl) (G.mono sm)
    | ex cc ks ds g1 => simp only [M.bd, h] at G; exact G
/-- hand back what stands -/
theorem Got.ret {β α : Type} {rel : Rl β α} {F : Fx} {ρ : List En} {σ : St} {H S : Hp} {E : XK} {Q : β → Hp → Prop} {a : α} {g : Gh} {b : β} (G : Got rel F ρ σ S E Q (some (.ok a g))) (R : Rep F ρ g σ H S) (h : rel F.c S b a) : Q b H := G b H S (Same.refl S) R h
theorem Got.new {F : Fx} {ρ : List En} {σ : St} {H S : Hp} {E : XK} {Q : VK} {d : D} {g : Gh} {p : Addr} {o : HO} (G : Got Dn F ρ σ S E Q (some (.ok d g))) (R : Rep F ρ g σ H S) (hp : H p = none) (h : Dn F.c (upd S p o) (.ref p) d) : Q (.ref p) (upd H p o) :=
  G (.ref p) _ _ (R.tosame o hp) (R.up o hp) h

section
variable {X : Cx} {ah : Option Addr} {E : St → XK}
abbrev dc (X : Cx) (ah : Option Addr) : DC := ⟨X.K, X.mg, ah⟩
/-- an expression goes as f -/
def PF (X : Cx) (ah : Option Addr) (E : St → XK) (e : Expr) (f : FE) : Prop := ∃ t, PE X e t ∧ RE (dc X ah) E t f
def PFA (X : Cx) (ah : Option Addr) (E : St → XK) (es : List Expr) (f : FA) : Prop := ∃ t, PA X es t ∧ RA (dc X ah) E t f
def PFT (X : Cx) (ah : Option Addr) (E : St → XK) (e : Expr) (f : FT) : Prop := ∃ t, PT X e t ∧ RT (dc X ah) E t f
def PFW (X : Cx) (ah : Option Addr) (E : St → XK) (e : Expr) (f : FT) : Prop := ∃ t, PW X e t ∧ RT (dc X ah) E t f

/-! ### names and constants -/
@[simp] def cV (i : Nat) : FE := fun ρ g => match ρ[i]? with
  | some (.dt d) => some (.ok d g)
  | _ => none
@[simp] def cD (d : D) : FE := fun _ g => some (.ok d g)
theorem re_var (c : DC) (i : Nat) : RE c E (tVar i) (cV i) := by
  refine ⟨fun F ρ g σ H S Q e R G => ?_⟩
  simp only [cV] at G
  cases h : ρ[i]? with
  | none => rw [h] at G; exact G.elim
  | some en => cases en with
    | dt d =>
      rw [h] at G
      obtain ⟨so, h1, v, rfl, hv⟩ := R.slots i _ h
      exact ⟨v, h1, G.ret R hv⟩
    | un => rw [h] at G; exact G.elim
    | own xs => rw [h] at G; exact G.elim
theorem pf_v (i : Nat) {x : Str} {pos : Pos} (hN : X.N[i]? = some x := by rfl) (hv : Vis X.env.scope x := by first | exact Or.inl rfl | exact Or.inr (Or.inl rfl) | exact Or.inr (Or.inr rfl)) (hd : (x == ("__debug__" : Str)) = false := by decide)
    (hcd : (x == ("__classdict__" : Str)) = false := by decide) : PF X ah E (.Name x pos) (cV i) := ⟨_, pe_var hN hv hd hcd, re_var _ i⟩
theorem re_c {c : DC} {v : V} {d : D} (h : ∀ S, Dn c S v d) : RE c E (tC v) (cD d) := ⟨fun F ρ g σ H S Q e R G => G.ret R (e ▸ h S)⟩
theorem pf_int {i j pos} : PF X ah E (.Constant (.int i) j pos) (cD (.int i)) := ⟨_, pe_int, re_c fun _ => .int i⟩
theorem pf_bl {b j pos} : PF X ah E (.Constant (.bool b) j pos) (cD (.bl b)) := ⟨_, pe_bl, re_c fun _ => .bl b⟩
theorem pf_non {j pos} : PF X ah E (.Constant .none j pos) (cD .non) := ⟨_, pe_non, re_c fun _ => .non⟩
theorem pf_str {x j pos} : PF X ah E (.Constant (.str x) j pos) (cD (.str x)) := ⟨_, pe_str, re_c fun _ => .str x⟩
/-- a module's constant -/
theorem pf_glob {x : Str} {v : V} {u : Value} {d : D} {pos : Pos} (hg : Gl X x) (hm : X.mg x = some u) (r : RelV v u) (h : ∀ S, Dn (dc X ah) S v d) (hd : (x == ("__debug__" : Str)) = false := by decide) : PF X ah E (.Name x pos) (cD d) :=
  ⟨_, pe_glob hg hm r hd, re_c h⟩

/-! ### arguments -/
@[simp] def cN : FA := fun _ g => some (.ok [] g)
@[simp] def cC (a : FE) (b : FA) : FA := fun ρ g => (a ρ g).bd fun x g1 => (b ρ g1).bd fun xs g2 => some (.ok (x :: xs) g2)
theorem pfa_nil : PFA X ah E [] cN := ⟨_, pa_nil, ⟨fun F ρ g σ H S Q e R G => G.ret (b := []) R .nil⟩⟩
theorem ra_cons {c : DC} {te : TE} {t : TA} {a : FE} {b : FA} (ha : RE c E te a) (hb : RA c E t b) : RA c E (tCons te t) (cC a b) := by
  refine RG.bind (r := fun σ x H1 Q => t σ H1 fun xs H2 => Q (x :: xs) H2) (k := fun ρ x g1 => (b ρ g1).bd fun xs g2 => some (.ok (x :: xs) g2)) ha fun F ρ g σ H S Q x d e R hx G => ?_
  refine hb.run F ρ g σ H S _ e R ?_
  cases h : b ρ g with
  | none => simp only [M.bd, h] at G; exact G
  | some o => cases o with
    | ex cc ks ds g1 => simp only [M.bd, h] at G; exact G
    | ok ds g1 =>
      simp only [M.bd, h] at G
      exact fun vs H1 S1 sm R1 hv => G (x :: vs) H1 S1 sm R1 (.cons (e ▸ (hx.mono sm)) hv)
theorem pfa_cons {e : Expr} {es : List Expr} {a : FE} {b : FA} (ha : PF X ah E e a) (hb : PFA X ah E es b) (hs : starEach (e :: es) X.env = (false, eval e X.env) :: starEach es X.env := by rfl) : PFA X ah E (e :: es) (cC a b) := by
  obtain ⟨t, p, r⟩ := ha
  obtain ⟨u, q, s⟩ := hb
  exact ⟨_, pa_cons p q hs, ra_cons r s⟩

/-! ### displays -/
@[simp] def cTup (a : FA) : FE := fun ρ g => (a ρ g).bd fun xs g1 => if xs.length ≤ 1000 then some (.ok (.tup xs) g1) else none
@[simp] def cLst (a : FA) : FE := fun ρ g => (a ρ g).bd fun xs g1 => if xs.length ≤ 1000 then some (.ok (.lst xs) g1) else none
theorem line_of {n : Nat} (h : n ≤ 1000) : n ≤ sizeLine := Nat.le_of_lt (small1000 h)
theorem pf_tup {es : List Expr} {a : FA} {x1 pos} (ha : PFA X ah E es a) : PF X ah E (.Tuple es x1 pos) (cTup a) := by
  obtain ⟨t, p, r⟩ := ha
  refine ⟨_, pe_tup p, ?_⟩
  refine RG.bind (r := fun σ (xs : List V) H1 (Q : VK) => xs.length ≤ sizeLine ∧ ∀ p, H1 p = none → Q (.ref p) (upd H1 p (.tup xs))) (k := fun ρ (xs : List D) g1 => if xs.length ≤ 1000 then some (.ok (D.tup xs) g1) else none) r fun F ρ g σ H S Q vs ds e R hx G => ?_
  split at G
  · rename_i hl
    refine ⟨by rw [hx.length]; exact line_of hl, fun p hp => G.new R hp ?_⟩
    exact .tup (SqT.of upd_same) (e ▸ (hx.mono (R.tosame _ hp)))
  · exact G.elim
theorem pf_lst {es : List Expr} {a : FA} {pos} (ha : PFA X ah E es a) : PF X ah E (.List es pos) (cLst a) := by
  obtain ⟨t, p, r⟩ := ha
  refine ⟨_, pe_lst p, ?_⟩
  refine RG.bind (r := fun σ (xs : List V) H1 (Q : VK) => xs.length ≤ sizeLine ∧ ∀ p, H1 p = none → Q (.ref p) (upd H1 p (.lst xs))) (k := fun ρ (xs : List D) g1 => if xs.length ≤ 1000 then some (.ok (D.lst xs) g1) else none) r fun F ρ g σ H S Q vs ds e R hx G => ?_
  split at G
  · rename_i hl
    refine ⟨by rw [hx.length]; exact line_of hl, fun p hp => G.new R hp ?_⟩
    exact .lst upd_same (e ▸ (hx.mono (R.tosame _ hp)))
  · exact G.elim
/-- {} -/
theorem pf_emp {pos} : PF X ah E (.Dict [] [] pos) (cD .emp) := ⟨_, pe_dnewK, ⟨fun F ρ g σ H S Q e R G => fun p hp => G.new R hp (.emp upd_same)⟩⟩

/-! ### operators of two values -/
/-- the rule r holds where op tells the value -/
def OpS (c : DC) (r : R2) (op : D → D → Option D) : Prop :=
  ∀ (E : XK) F ρ g σ H S Q x y dx dy, F.c = c → Rep F ρ g σ H S → Dn c S x dx → Dn c S y dy → Got Dn F ρ σ S E Q (lift (op dx dy) g) → r x y H Q
@[simp] def cOp (op : D → D → Option D) (a b : FE) : FE := fun ρ g => (a ρ g).bd fun x g1 => (b ρ g1).bd fun y g2 => lift (op x y) g2
theorem re_op {c : DC} {r : R2} {op : D → D → Option D} {ta tb : TE} {a b : FE} (ho : OpS c r op) (ha : RE c E ta a) (hb : RE c E tb b) : RE c E (tOp r ta tb) (cOp op a b) := by
  refine RG.bind (r := fun σ x H1 Q => tb σ H1 fun y H2 => r x y H2 Q) (k := fun ρ x g1 => (b ρ g1).bd fun y g2 => lift (op x y) g2) ha fun F ρ g σ H S Q x d e R hx G => ?_
  refine hb.run F ρ g σ H S _ e R ?_
  cases h : b ρ g with
  | none => simp only [M.bd, h] at G; exact G
  | some o => cases o with
    | ex cc ks ds g1 => simp only [M.bd, h] at G; exact G
    | ok dy g1 =>
      simp only [M.bd, h] at G
      exact fun y H1 S1 sm R1 hv => ho (E σ) F ρ g1 σ H1 S1 Q x y d dy e R1 (hx.mono sm) (e ▸ hv) (Got.mono G sm)
theorem pf_bin {o : Operator} {r : R2} {op : D → D → Option D} {e1 e2 : Expr} {a b : FE} {pos} (hr : OpR X (binaryOp o) r) (ho : OpS (dc X ah) r op) (ha : PF X ah E e1 a) (hb : PF X ah E e2 b) : PF X ah E (.BinOp e1 o e2 pos) (cOp op a b) := by
  obtain ⟨t, p, r1⟩ := ha
  obtain ⟨u, q, r2⟩ := hb
  exact ⟨_, pe_op hr p q, re_op ho r1 r2⟩
theorem pf_cmp {o : CmpOp} {r : R2} {op : D → D → Option D} {e1 e2 : Expr} {a b : FE} {pos} (hr : OpR X (compareOp o) r) (ho : OpS (dc X ah) r op) (ha : PF X ah E e1 a) (hb : PF X ah E e2 b) (hm : behindInMarks o e2 = false) : PF X ah E (.Compare e1 [o] [e2] pos) (cOp op a b) := by
  obtain ⟨t, p, r1⟩ := ha
  obtain ⟨u, q, r2⟩ := hb
  exact ⟨_, pe_cmpR hr p q hm, re_op ho r1 r2⟩
theorem pf_ix {r : R2} {op : D → D → Option D} {e1 e2 : Expr} {a b : FE} {pos} (hr : IxR X r) (ho : OpS (dc X ah) r op) (ha : PF X ah E e1 a) (hb : PF X ah E e2 b) (hs : PlainIx e2) : PF X ah E (.Subscript e1 e2 pos) (cOp op a b) := by
  obtain ⟨t, p, r1⟩ := ha
  obtain ⟨u, q, r2⟩ := hb
  exact ⟨_, pe_ix hr p q hs, re_op ho r1 r2⟩

/-! ### tests -/
@[simp] def toB : D → Option Bool
  | .bl b => some b
  | _ => none
/-- an expression that is a flag, as a test -/
@[simp] def cT (a : FE) : FT := fun ρ g => (a ρ g).bd fun x g1 => lift (toB x) g1
theorem rt_of {c : DC} {t : TE} {a : FE} (ha : RE c E t a) : RT c E (tTest t) (cT a) := by
  refine RG.bind (r := fun σ x H1 (Q : Bool → Hp → Prop) => ∃ k, x = .bl k ∧ Q k H1) (k := fun ρ x g1 => lift (toB x) g1) ha fun F ρ g σ H S Q x d e R hx G => ?_
  cases hx <;> simp only [toB, lift] at G <;> first | exact G.elim | exact ⟨_, rfl, G.ret R rfl⟩
theorem pft_cmp {o : CmpOp} {r : R2} {op : D → D → Option D} {e1 e2 : Expr} {a b : FE} {pos} (hr : OpR X (compareOp o) r) (ho : OpS (dc X ah) r op) (ha : PF X ah E e1 a) (hb : PF X ah E e2 b) (hm : behindInMarks o e2 = false) : PFT X ah E (.Compare e1 [o] [e2] pos) (cT (cOp op a b)) := by
  obtain ⟨t, p, r1⟩ := ha
  obtain ⟨u, q, r2⟩ := hb
  exact ⟨_, pt_cmpR hr p q hm, rt_of (re_op ho r1 r2)⟩
theorem pft_val {e : Expr} {a : FE} (ha : PF X ah E e a) (he : ∀ whole, isTrue e X.env whole = (do let v ← whole; standAt e.pos; holding [v] (truthy v)) := by intro _; rfl) : PFT X ah E e (cT a) := by
  obtain ⟨t, p, r⟩ := ha
  exact ⟨_, pt_val p he, rt_of r⟩
@[simp] def cAnd (a b : FT) : FT := fun ρ g => (a ρ g).bd fun x g1 => if x = true then b ρ g1 else some (.ok false g1)
@[simp] def cOr (a b : FT) : FT := fun ρ g => (a ρ g).bd fun x g1 => if x = true then some (.ok true g1) else b ρ g1
@[simp] def cNot (a : FT) : FT := fun ρ g => (a ρ g).bd fun x g1 => some (.ok (!x) g1)
theorem pfw_and1 {e : Expr} {a : FT} {pos} (ha : PFT X ah E e a) : PFW X ah E (.BoolOp .And [e] pos) a := by
  obtain ⟨t, p, r⟩ := ha
  exact ⟨_, pw_and1 p, r⟩
theorem pfw_or1 {e : Expr} {a : FT} {pos} (ha : PFT X ah E e a) : PFW X ah E (.BoolOp .Or [e] pos) a := by
  obtain ⟨t, p, r⟩ := ha
  exact ⟨_, pw_or1 p, r⟩
theorem pfw_and {e b : Expr} {rest : List Expr} {f k : FT} {pos} (ha : PFT X ah E e f) (hb : PFW X ah E (.BoolOp .And (b :: rest) pos) k) : PFW X ah E (.BoolOp .And (e :: b :: rest) pos) (cAnd f k) := by
  obtain ⟨t, p, r⟩ := ha
  obtain ⟨u, q, s⟩ := hb
  refine ⟨_, pw_and p q, ?_⟩
  refine RG.bind (r := fun σ (x : Bool) H1 Q => if x = true then u σ H1 Q else Q false H1) (k := fun ρ (x : Bool) g1 => if x = true then k ρ g1 else some (.ok false g1)) r fun F ρ g σ H S Q x d e R hx G => ?_
  cases hx
  cases x with
  | true => exact s.run F ρ g σ H S Q e R G
  | false => exact G.ret R rfl
theorem pfw_or {e b : Expr} {rest : List Expr} {f k : FT} {pos} (ha : PFT X ah E e f) (hb : PFW X ah E (.BoolOp .Or (b :: rest) pos) k) : PFW X ah E (.BoolOp .Or (e :: b :: rest) pos) (cOr f k) := by
  obtain ⟨t, p, r⟩ := ha
  obtain ⟨u, q, s⟩ := hb
  refine ⟨_, pw_or p q, ?_⟩
  refine RG.bind (r := fun σ (x : Bool) H1 Q => if x = true then Q true H1 else u σ H1 Q) (k := fun ρ (x : Bool) g1 => if x = true then some (.ok true g1) else k ρ g1) r fun F ρ g σ H S Q x d e R hx G => ?_
  cases hx
  cases x with
  | true => exact G.ret R rfl
  | false => exact s.run F ρ g σ H S Q e R G
theorem pft_w {e : Expr} {f : FT} (h : PFW X ah E e f) : PFT X ah E e f := by
  obtain ⟨t, p, r⟩ := h
  exact ⟨_, p.pt, r⟩
theorem pft_not {e : Expr} {f : FT} {pos} (ha : PFT X ah E e f) : PFT X ah E (.UnaryOp .Not e pos) (cNot f) := by
  obtain ⟨t, p, r⟩ := ha
  refine ⟨_, pt_not p, ?_⟩
  refine RG.bind (r := fun σ x H1 (Q : Bool → Hp → Prop) => Q (!x) H1) (k := fun ρ x g1 => some (.ok (!x) g1)) r fun F ρ g σ H S Q x d e R hx G => ?_
  cases hx
  exact G.ret R rfl
/-! as values -/
@[simp] def cAndV (a b : FE) : FE := fun ρ g => (a ρ g).bd fun x g1 => match x with
  | .bl true => b ρ g1
  | .bl false => some (.ok (.bl false) g1)
  | _ => none
@[simp] def cOrV (a b : FE) : FE := fun ρ g => (a ρ g).bd fun x g1 => match x with
  | .bl false => b ρ g1
  | .bl true => some (.ok (.bl true) g1)
  | _ => none
@[simp] def nB : D → Option D
  | .bl b => some (.bl (!b))
  | _ => none
@[simp] def c1 (op : D → Option D) (a : FE) : FE := fun ρ g => (a ρ g).bd fun x g1 => lift (op x) g1
theorem pf_one {e : Expr} {op} {a : FE} {pos} (ha : PF X ah E e a) : PF X ah E (.BoolOp op [e] pos) a := by
  obtain ⟨t, p, r⟩ := ha
  exact ⟨_, pe_one p, r⟩
theorem pf_and {e b : Expr} {rest : List Expr} {f k : FE} {pos} (ha : PF X ah E e f) (hb : PF X ah E (.BoolOp .And (b :: rest) pos) k) : PF X ah E (.BoolOp .And (e :: b :: rest) pos) (cAndV f k) := by
  obtain ⟨t, p, r⟩ := ha
  obtain ⟨u, q, s⟩ := hb
  refine ⟨_, pe_and p q, ?_⟩
  refine RG.bind (r := fun σ x H1 (Q : VK) => ∃ c, x = .bl c ∧ if c = true then u σ H1 Q else Q (.bl false) H1) (k := fun ρ x g1 => match x with
  | .bl true => k ρ g1
  | .bl false => some (.ok (.bl false) g1)
  | _ => none) r fun F ρ g σ H S Q x d e R hx G => ?_
  cases hx <;> first | exact G.elim | skip
  rename_i b
  cases b with
  | true => exact ⟨true, rfl, s.run F ρ g σ H S Q e R G⟩
  | false => exact ⟨false, rfl, G.ret R (.bl false)⟩
theorem pf_or {e b : Expr} {rest : List Expr} {f k : FE} {pos} (ha : PF X ah E e f) (hb : PF X ah E (.BoolOp .Or (b :: rest) pos) k) : PF X ah E (.BoolOp .Or (e :: b :: rest) pos) (cOrV f k) := by
  obtain ⟨t, p, r⟩ := ha
  obtain ⟨u, q, s⟩ := hb
  refine ⟨_, pe_or p q, ?_⟩
  refine RG.bind (r := fun σ x H1 (Q : VK) => ∃ c, x = .bl c ∧ if c = true then Q (.bl true) H1 else u σ H1 Q) (k := fun ρ x g1 => match x with
  | .bl false => k ρ g1
  | .bl true => some (.ok (.bl true) g1)
  | _ => none) r fun F ρ g σ H S Q x d e R hx G => ?_
  cases hx <;> first | exact G.elim | skip
  rename_i b
  cases b with
  | false => exact ⟨false, rfl, s.run F ρ g σ H S Q e R G⟩
  | true => exact ⟨true, rfl, G.ret R (.bl true)⟩
theorem pf_not {e : Expr} {f : FE} {pos} (ha : PF X ah E e f) : PF X ah E (.UnaryOp .Not e pos) (c1 nB f) := by
  obtain ⟨t, p, r⟩ := ha
  refine ⟨_, pe_not p, ?_⟩
  refine RG.bind (r := fun σ x H1 (Q : VK) => ∃ c, x = .bl c ∧ Q (.bl (!c)) H1) (k := fun ρ x g1 => lift (nB x) g1) r fun F ρ g σ H S Q x d e R hx G => ?_
  cases hx <;> simp only [nB, lift] at G <;> first | exact G.elim | exact ⟨_, rfl, G.ret R (.bl _)⟩
@[simp] def cIfE (c : FT) (a b : FE) : FE := fun ρ g => (c ρ g).bd fun x g1 => if x = true then a ρ g1 else b ρ g1
theorem pf_ifE {c a b : Expr} {fc : FT} {fa fb : FE} {pos} (hc : PFT X ah E c fc) (ha : PF X ah E a fa) (hb : PF X ah E b fb) : PF X ah E (.IfExp c a b pos) (cIfE fc fa fb) := by
  obtain ⟨t, p, r⟩ := hc
  obtain ⟨u, q, s⟩ := ha
  obtain ⟨v, q', s'⟩ := hb
  refine ⟨_, pe_ifExp p q q', ?_⟩
  refine RG.bind (r := fun σ (x : Bool) H1 Q => if x = true then u σ H1 Q else v σ H1 Q) (k := fun ρ (x : Bool) g1 => if x = true then fa ρ g1 else fb ρ g1) r fun F ρ g σ H S Q x d e R hx G => ?_
  cases hx
  cases x with
  | true => exact s.run F ρ g σ H S Q e R G
  | false => exact s'.run F ρ g σ H S Q e R G

/-! ### statements -/
end
section
variable {X : Cx} {ah : Option Addr} {E : XK}
def GotS (F : Fx) (S : Hp) (E : XK) (Z : Ends) : M Fl → Prop
  | none => False
  | some (.ok (.nx ρ) g) => ∀ σ' H' S', Same S S' → Rep F ρ g σ' H' S' → Z.nx σ' H'
  | some (.ok (.bk ρ) g) => ∀ σ' H' S', Same S S' → Rep F ρ g σ' H' S' → Z.bk σ' H'
  | some (.ok (.ct ρ) g) => ∀ σ' H' S', Same S S' → Rep F ρ g σ' H' S' → Z.ct σ' H'
  | some (.ok (.rt d) g) => ∀ v H' S', Same S S' → Rep F [] g [] H' S' → Dn F.c S' v d → Z.rt v H'
  | some (.ex c ks ds g) => GotX F S E c ks ds g
theorem GotS.mono {F : Fx} {S S1 : Hp} {E : XK} {Z : Ends} {m : M Fl} (h : GotS F S E Z m) (sm : Same S S1) : GotS F S1 E Z m := by
  cases m with
  | none => exact h
  | some o => cases o with
    | ok a g => cases a with
      | nx ρ => exact fun b H' S' s R => h b H' S' (sm.trans s) R
      | bk ρ => exact fun b H' S' s R => h b H' S' (sm.trans s) R
      | ct ρ => exact fun b H' S' s R => h b H' S' (sm.trans s) R
      | rt d => exact fun b H' S' s R r => h b H' S' (sm.trans s) R r
    | ex c ks ds g => exact GotX.mono h sm
structure RS (c : DC) (E : XK) (t : TS) (f : FS) : Prop where
  run : ∀ (F : Fx) (ρ : List En) (g : Gh) (σ : St) (H S : Hp) (Z : Ends), F.c = c → Rep F ρ g σ H S → GotS F S E Z (f ρ g) → t Z σ H
def PFS (X : Cx) (ah : Option Addr) (E : XK) (s : Stmt) (f : FS) : Prop := ∃ t, PS X s t ∧ RS (dc X ah) E t f
def PFSs (X : Cx) (ah : Option Addr) (E : XK) (s : List Stmt) (f : FS) : Prop := ∃ t, PSs X s t ∧ RS (dc X ah) E t f
theorem RG.stepS {β α : Type} {rel : Rl β α} {c : DC} {E : XK} {t : TX β} {fa : List En → Gh → M α} (ha : RG rel c (fun _ => E) t fa) {F : Fx} {ρ : List En} {g : Gh} {σ : St} {H S : Hp} {Z : Ends} {k : α → Gh → M Fl} {r : β → Hp → Prop}
    (e : F.c = c) (R : Rep F ρ g σ H S) (G : GotS F S E Z ((fa ρ g).bd k)) (hk : ∀ H1 S1 g1 b a, Same S S1 → Rep F ρ g1 σ H1 S1 → rel c S1 b a → GotS F S1 E Z (k a g1) → r b H1) : t σ H r := by
  refine ha.run F ρ g σ H S _ e R ?_
  cases h : fa ρ g with
  | none => simp only [M.bd, h] at G; exact G
  | some o => cases o with
    | ok a g1 =>
      simp only [M.bd, h] at G
      exact fun b H1 S1 sm R1 rl => hk H1 S1 g1 b a sm R1 (e ▸ rl) (G.mono sm)
    | ex cc ks ds g1 => simp only [M.bd, h] at G; exact G
/-- an expression, then a statement's rest -/
theorem RS.bind {β α : Type} {rel : Rl β α} {c : DC} {ta : TX β} {fa : List En → Gh → M α} (ha : RG rel c (fun _ => E) ta fa) {r : Ends → St → β → Hp → Prop} {k : List En → α → Gh → M Fl}
    (hk : ∀ F ρ g σ H S Z b a, F.c = c → Rep F ρ g σ H S → rel c S b a → GotS F S E Z (k ρ a g) → r Z σ b H) : RS c E (fun Z σ H => ta σ H fun b H1 => r Z σ b H1) (fun ρ g => (fa ρ g).bd (k ρ)) := by
  refine ⟨fun F ρ g σ H S Z e R G => ha.run F ρ g σ H S _ e R ?_⟩
  cases h : fa ρ g with
  | none => simp only [M.bd, h] at G; exact G
  | some o => cases o with
    | ok a g1 =>
      simp only [M.bd, h] at G
      exact fun b H1 S1 sm R1 rl => hk F ρ g1 σ H1 S1 Z b a e R1 (e ▸ rl) (G.mono sm)
    | ex cc ks ds g1 => simp only [M.bd, h] at G; exact G
@[simp] def sNx : FS := fun ρ g => some (.ok (.nx ρ) g)
@[simp] def sBk : FS := fun ρ g => some (.ok (.bk ρ) g)
@[simp] def sCt : FS := fun ρ g => some (.ok (.ct ρ) g)
def sSeq (a b : FS) : FS := fun ρ g => match a ρ g with
  | none => none
  | some (.ok (.nx ρ1) g1) => b ρ1 g1
  | some (.ok (.bk ρ1) g1) => some (.ok (.bk ρ1) g1)
  | some (.ok (.ct ρ1) g1) => some (.ok (.ct ρ1) g1)
  | some (.ok (.rt d) g1) => some (.ok (.rt d) g1)
  | some (.ex c ks ds g1) => some (.ex c ks ds g1)
theorem rs_nx {c : DC} : RS c E tNext sNx := ⟨fun F ρ g σ H S Z e R G => G σ H S (Same.refl S) R⟩
theorem pfss_nil : PFSs X ah E [] sNx := ⟨_, pss_nil, rs_nx⟩
theorem rs_seq {c : DC} {t u : TS} {a b : FS} (ha : RS c E t a) (hb : RS c E u b) : RS c E (tSeq t u) (sSeq a b) := by
  refine ⟨fun F ρ g σ H S Z e R G => ha.run F ρ g σ H S _ e R ?_⟩
  unfold sSeq at G
  cases h : a ρ g with
  | none => rw [h] at G; exact G
  | some o => cases o with
    | ok f g1 => cases f with
      | nx ρ1 => rw [h] at G; exact fun σ' H' S' sm R' => hb.run F ρ1 g1 σ' H' S' Z e R' (G.mono sm)
      | bk ρ1 => rw [h] at G; exact G
      | ct ρ1 => rw [h] at G; exact G
      | rt d => rw [h] at G; exact G
    | ex cc ks ds g1 => rw [h] at G; exact G
theorem pfss_cons {s : Stmt} {rest : List Stmt} {a b : FS} (ha : PFS X ah E s a) (hb : PFSs X ah E rest b) : PFSs X ah E (s :: rest) (sSeq a b) := by
  obtain ⟨t, p, r⟩ := ha
  obtain ⟨u, q, s⟩ := hb
  exact ⟨_, pss_cons p q, rs_seq r s⟩
theorem pfss_one {s : Stmt} {a : FS} (ha : PFS X ah E s a) : PFSs X ah E [s] a := by
  obtain ⟨t, p, r⟩ := ha
  exact ⟨_, pss_one p, r⟩
theorem pfs_pass {pos} : PFS X ah E (.Pass pos) sNx := ⟨_, ps_pass, rs_nx⟩
theorem pfs_doc {x j pos pos'} : PFS X ah E (.Expr (.Constant (.str x) j pos) pos') sNx := ⟨_, ps_doc, rs_nx⟩
theorem pfs_break {pos} : PFS X ah E (.Break pos) sBk := ⟨_, ps_break, ⟨fun F ρ g σ H S Z e R G => G σ H S (Same.refl S) R⟩⟩
theorem pfs_continue {pos} : PFS X ah E (.Continue pos) sCt := ⟨_, ps_continue, ⟨fun F ρ g σ H S Z e R G => G σ H S (Same.refl S) R⟩⟩
@[simp] def sRet (a : FE) : FS := fun ρ g => (a ρ g).bd fun x g1 => some (.ok (.rt x) g1)
theorem pfs_ret {e : Expr} {a : FE} {pos} (ha : PF X ah (fun _ => E) e a) : PFS X ah E (.Return (some e) pos) (sRet a) := by
  obtain ⟨t, p, r⟩ := ha
  refine ⟨_, ps_ret p, ?_⟩
  exact RS.bind (r := fun Z σ x H1 => Z.rt x H1) (k := fun ρ x g1 => some (.ok (.rt x) g1)) r fun F ρ g σ H S Z x d e R hx G => G x H S (Same.refl S) R.bare (e ▸ hx)
@[simp] def sIf (c : FT) (a b : FS) : FS := fun ρ g => (c ρ g).bd fun x g1 => if x = true then a ρ g1 else b ρ g1
theorem pfs_if {c : Expr} {a b : List Stmt} {fc : FT} {fa fb : FS} {pos} (hc : PFT X ah (fun _ => E) c fc) (ha : PFSs X ah E a fa) (hb : PFSs X ah E b fb) : PFS X ah E (.If c a b pos) (sIf fc fa fb) := by
  obtain ⟨t, p, r⟩ := hc
  obtain ⟨u, q, s⟩ := ha
  obtain ⟨v, q', s'⟩ := hb
  refine ⟨_, ps_if p q q', ?_⟩
  refine RS.bind (r := fun Z σ x H1 => if x = true then u Z σ H1 else v Z σ H1) (k := fun ρ (x : Bool) g1 => if x = true then fa ρ g1 else fb ρ g1) r fun F ρ g σ H S Z x d e R hx G => ?_
  cases hx
  cases x with
  | true => exact s.run F ρ g σ H S Z e R G
  | false => exact s'.run F ρ g σ H S Z e R G
/-- an expression whose value is dropped -/
@[simp] def sDrop (a : FE) : FS := fun ρ g => (a ρ g).bd fun _ g1 => some (.ok (.nx ρ) g1)
theorem pfs_expr {e : Expr} {a : FE} {pos} (ha : PF X ah (fun _ => E) e a) (hs : swapsWith e none pos.line X.env = pure false := by rfl) : PFS X ah E (.Expr e pos) (sDrop a) := by
  obtain ⟨t, p, r⟩ := ha
  refine ⟨_, ps_expr p hs, ?_⟩
  exact RS.bind (r := fun Z σ x H1 => Z.nx σ H1) (k := fun ρ x g1 => some (.ok (.nx ρ) g1)) r fun F ρ g σ H S Z x d e R hx G => G σ H S (Same.refl S) R

/-! ### targets -/
abbrev FG := D → List En → Option (List En)
structure RTg (c : DC) (g : TG) (f : FG) : Prop where
  run : ∀ (F : Fx) (ρ : List En) (gh : Gh) (σ : St) (H S : Hp) (v : V) (d : D) (Q : St → Hp → Prop), F.c = c → Rep F ρ gh σ H S → Dn c S v d →
    (match f d ρ with | none => False | some ρ' => ∀ σ', Rep F ρ' gh σ' H S → Q σ' H) → g v σ H Q
structure RTgs (c : DC) (g : TGs) (f : List D → List En → Option (List En)) : Prop where
  run : ∀ (F : Fx) (ρ : List En) (gh : Gh) (σ : St) (H S : Hp) (vs : List V) (ds : List D) (Q : St → Hp → Prop), F.c = c → Rep F ρ gh σ H S → Dns c S vs ds →
    (match f ds ρ with | none => False | some ρ' => ∀ σ', Rep F ρ' gh σ' H S → Q σ' H) → g vs σ H Q
/-- a target touches these slots alone -/
def TGw (t : TG) (vs : List Nat) : Prop := ∀ x σ H Q, t x σ H Q → t x σ H fun σ2 H2 => Q σ2 H2 ∧ wipe σ2 vs = wipe σ vs
def TGsw (t : TGs) (vs : List Nat) : Prop := ∀ x σ H Q, t x σ H Q → t x σ H fun σ2 H2 => Q σ2 H2 ∧ wipe σ2 vs = wipe σ vs
structure TGm (t : TG) : Prop where
  mono : ∀ x σ H (Q Q' : St → Hp → Prop), (∀ σ2 H2, Q σ2 H2 → Q' σ2 H2) → t x σ H Q → t x σ H Q'
structure TGsm (t : TGs) : Prop where
  mono : ∀ x σ H (Q Q' : St → Hp → Prop), (∀ σ2 H2, Q σ2 H2 → Q' σ2 H2) → t x σ H Q → t x σ H Q'
def PFG (X : Cx) (ah : Option Addr) (e : Expr) (f : FG) (vs : List Nat) : Prop := ∃ t, PG X e t ∧ RTg (dc X ah) t f ∧ TGw t vs ∧ TGm t
def PFGs (X : Cx) (ah : Option Addr) (es : List Expr) (f : List D → List En → Option (List En)) (vs : List Nat) : Prop := ∃ t, PGs X es t ∧ RTgs (dc X ah) t f ∧ TGsw t vs ∧ TGsm t
theorem wipe_get (σ : St) (i : Nat) : ∀ vs : List Nat, (wipe σ vs)[i]? = if i ∈ vs then (if i < σ.length then some none else none) else σ[i]?
  | [] => by simp [wipe]
  | v :: vs => by
    unfold wipe
    rw [List.getElem?_set, wipe_length, wipe_get σ i vs]
    by_cases h : v = i
    · subst h; simp
    · have h' : ¬ i = v := fun e => h e.symm
      simp [h, h']
theorem wipe_set {σ : St} {i : Nat} {x : Option V} {vs : List Nat} (h : i ∈ vs) : wipe (σ.set i x) vs = wipe σ vs := by
  apply List.ext_getElem?
  intro j
  rw [wipe_get, wipe_get, List.length_set]
  split
  · rfl
  · rename_i hj
    rw [List.getElem?_set_ne (fun (e : i = j) => hj (e ▸ h))]
theorem wipe_more {σ τ : St} {vs ws : List Nat} (h : wipe σ vs = wipe τ vs) (hs : ∀ i ∈ vs, i ∈ ws) : wipe σ ws = wipe τ ws := by
  have hl : σ.length = τ.length := by have := congrArg List.length h; rwa [wipe_length, wipe_length] at this
  apply List.ext_getElem?
  intro j
  have := congrArg (fun l => l[j]?) h
  simp only [wipe_get] at this
  rw [wipe_get, wipe_get, hl]
  split
  · rfl
  · rename_i hj
    have hj' : j ∉ vs := fun e => hj (hs j e)
    rw [if_neg hj', if_neg hj'] at this
    exact this
@[simp] def gN (i : Nat) : FG := fun d ρ => some (ρ.set i (.dt d))
theorem rt_name {c : DC} (i : Nat) : RTg c (gName i) (gN i) := ⟨fun F ρ gh σ H S v d Q e R hv G => G _ (R.set i (e ▸ hv))⟩
theorem pfg_n (i : Nat) {x : Str} {pos : Pos} (hN : X.N.Nodup) (hi : X.N[i]? = some x := by rfl) (hx : Loc X.env.scope x := by first | exact Or.inl rfl | exact Or.inr rfl) (hf : X.fn x = true ∨ X.env.scope.names.lookup x = some .local := by first | exact .inl rfl | exact .inr rfl) : PFG X ah (.Name x pos) (gN i) [i] :=
  ⟨_, pg_name hN hi hx hf, rt_name i, fun x σ H Q h => ⟨h, wipe_set List.mem_cons_self⟩, ⟨fun x σ H Q Q' hq h => hq _ _ h⟩⟩
@[simp] def gsN : List D → List En → Option (List En) := fun ds ρ => match ds with
  | [] => some ρ
  | _ => none
@[simp] def gsC (a : FG) (b : List D → List En → Option (List En)) : List D → List En → Option (List En) := fun ds ρ => match ds with
  | [] => none
  | d :: r => (a d ρ).bind (b r)
theorem pfgs_nil : PFGs X ah [] gsN [] := by
  refine ⟨_, pgs_nil, ⟨fun F ρ gh σ H S vs ds Q e R hv G => ?_⟩, fun x σ H Q h => ⟨h.1, h.2, rfl⟩, ⟨fun x σ H Q Q' hq h => ⟨h.1, hq _ _ h.2⟩⟩⟩
  cases hv with
  | nil => exact ⟨rfl, G σ R⟩
  | cons _ _ => exact G.elim
theorem pfgs_cons {e : Expr} {es : List Expr} {a : FG} {b : List D → List En → Option (List En)} {va vb : List Nat} (ha : PFG X ah e a va) (hb : PFGs X ah es b vb) (hs : (assignEach (e :: es) X.env).map (·.2) = assign e X.env :: (assignEach es X.env).map (·.2) := by rfl) : PFGs X ah (e :: es) (gsC a b) (va ++ vb) := by
  obtain ⟨t, p, r, w, m⟩ := ha
  obtain ⟨u, q, s, w', m'⟩ := hb
  refine ⟨_, pgs_cons p q hs, ⟨fun F ρ gh σ H S vs ds Q e R hv G => ?_⟩, fun x σ H Q h => ?_, ⟨fun x σ H Q Q' hq h => ?_⟩⟩
  rotate_left
  · obtain ⟨v, rr, e1, h⟩ := h
    refine ⟨v, rr, e1, m.mono _ _ _ _ _ (fun σ1 H1 k => ?_) (w _ _ _ _ h)⟩
    obtain ⟨k1, k2⟩ := k
    refine m'.mono _ _ _ _ _ (fun σ2 H2 k3 => ⟨k3.1, ?_⟩) (w' _ _ _ _ k1)
    exact (wipe_more k3.2 fun i hi => List.mem_append_right _ hi).trans (wipe_more k2 fun i hi => List.mem_append_left _ hi)
  · obtain ⟨v, rr, e1, h⟩ := h
    exact ⟨v, rr, e1, m.mono _ _ _ _ _ (fun σ1 H1 k => m'.mono _ _ _ _ _ hq k) h⟩
  cases hv with
  | nil => exact G.elim
  | cons h hs =>
    rename_i v d vs ds
    refine ⟨v, vs, rfl, r.run F ρ gh σ H S v d _ e R h ?_⟩
    simp only [gsC] at G
    cases ea : a d ρ with
    | none => rw [ea] at G; exact G
    | some ρ1 =>
      rw [ea] at G
      exact fun σ1 R1 => s.run F ρ1 gh σ1 H S vs ds Q e R1 hs G
@[simp] def gT (n : Nat) (f : List D → List En → Option (List En)) : FG := fun d ρ => match d with
  | .tup ds => if ds.length = n then f ds ρ else none
  | _ => none
theorem pfg_tup {es : List Expr} {k : Nat} {n : Nat} {f : List D → List En → Option (List En)} {pos} {vs : List Nat} (hc : X.calm = true) (h : PFGs X ah es f vs)
    (hn : (assignEach es X.env).length = n := by rfl) (hst : (assignEach es X.env).findIdx? (·.1) = none := by rfl) : PFG X ah (.Tuple es k pos) (gT n f) vs := by
  obtain ⟨t, p, r, w, m⟩ := h
  refine ⟨_, pg_tup hc p hn hst, ⟨fun F ρ gh σ H S v d Q e R hv G => ?_⟩, fun x σ H Q h => ?_, ⟨fun x σ H Q Q' hq h => ?_⟩⟩
  rotate_left
  · obtain ⟨a, xs, e1, h1, h2, h3⟩ := h
    exact ⟨a, xs, e1, h1, h2, w _ _ _ _ h3⟩
  · obtain ⟨a, xs, e1, h1, h2, h3⟩ := h
    exact ⟨a, xs, e1, h1, h2, m.mono _ _ _ _ _ hq h3⟩
  cases hv with
  | tup hs hd =>
    rename_i a vs ds
    simp only [gT] at G
    split at G
    · exact G.elim
    · rename_i ρ' hl
      split at hl
      · rename_i hl'
        refine ⟨a, vs, rfl, Same.tup R.sub hs, by rw [hd.length]; exact hl', r.run F ρ gh σ H S vs ds Q e R hd ?_⟩
        rw [hl]; exact G
      · cases hl
  | _ => exact G.elim
@[simp] def sAsg (a : FE) (f : FG) : FS := fun ρ g => (a ρ g).bd fun x g1 => match f x ρ with
  | none => none
  | some ρ' => some (.ok (.nx ρ') g1)
theorem rs_asg {c : DC} {te : TE} {a : FE} {tg : TG} {f : FG} (ha : RE c (fun _ => E) te a) (hg : RTg c tg f) : RS c E (tAsg te tg) (sAsg a f) := by
  refine RS.bind (r := fun Z σ x H1 => tg x σ H1 Z.nx) (k := fun ρ x g1 => match f x ρ with | none => none | some ρ' => some (.ok (.nx ρ') g1)) ha fun F ρ g σ H S Z x d e R hx G => ?_
  refine hg.run F ρ g σ H S x d _ e R hx ?_
  cases h : f d ρ with
  | none => simp only [h] at G; exact G
  | some ρ' => simp only [h] at G; exact fun σ' R' => G σ' H S (Same.refl S) R'
theorem pfs_asg {tg e : Expr} {a : FE} {f : FG} {pos} {vs : List Nat} (ha : PF X ah (fun _ => E) e a) (hg : PFG X ah tg f vs) (hs : swapsWithSole [tg] e pos.line X.env = pure false := by rfl) (hw : swappedStores [tg] e X.env = pure none := by rfl)
    (h1 : (assignEach [tg] X.env).map (·.2) = [assign tg X.env] := by rfl) : PFS X ah E (.Assign [tg] e pos) (sAsg a f) := by
  obtain ⟨t, p, r⟩ := ha
  obtain ⟨u, q, s, _⟩ := hg
  exact ⟨_, ps_asg p q hs hw h1, rs_asg r s⟩
theorem pfs_set (i : Nat) {x : Str} {e : Expr} {a : FE} {pos' pos : Pos} (hN : X.N.Nodup) (ha : PF X ah (fun _ => E) e a) (hi : X.N[i]? = some x := by rfl) (hx : Loc X.env.scope x := by first | exact Or.inl rfl | exact Or.inr rfl) (hs : swapsWith e (some (.Name x pos')) pos.line X.env = pure false := by rfl)
    (hf : X.fn x = true ∨ X.env.scope.names.lookup x = some .local := by first | exact .inl rfl | exact .inr rfl) : PFS X ah E (.Assign [.Name x pos'] e pos) (sAsg a (gN i)) := by
  obtain ⟨t, p, r⟩ := ha
  exact ⟨_, ps_set hN hi hx p hs hf, rs_asg r (rt_name i)⟩
end
end FD
set_option Elab.async false
set_option linter.all false
set_option maxRecDepth 100000
set_option maxHeartbeats 2000000
namespace FD
open PySem L2

/-! ### data without things of the package -/
mutual
def D.py : D → Option PyData
  | .non => some .none
  | .bl b => some (.bool b)
  | .int i => some (.int i)
  | .str x => some (.str x)
  | .tup xs => (D.pys xs).map .tuple
  | .lst xs => (D.pys xs).map .list
  | _ => none
def D.pys : List D → Option (List PyData)
  | [] => some []
  | d :: ds => match D.py d, D.pys ds with
    | some p, some ps => some (p :: ps)
    | _, _ => none
end
mutual
theorem Dn.py {c : DC} {S : Hp} : ∀ {v : V} {d : D} {p : PyData}, Dn c S v d → d.py = some p → Dp c.K S v p
  | _, _, _, .non, e => by simp [D.py] at e; subst e; exact .non
  | _, _, _, .bl b, e => by simp [D.py] at e; subst e; exact .bl b
  | _, _, _, .int b, e => by simp [D.py] at e; subst e; exact .int b
  | _, _, _, .str b, e => by simp [D.py] at e; subst e; exact .str b
  | _, _, _, .tup h hs, e => by
    simp only [D.py, Option.map_eq_some_iff] at e
    obtain ⟨ps, e1, rfl⟩ := e
    exact .tup h (Dns.pys hs e1)
  | _, _, _, .lst h hs, e => by
    simp only [D.py, Option.map_eq_some_iff] at e
    obtain ⟨ps, e1, rfl⟩ := e
    exact .lst (SqL.of h) (Dns.pys hs e1)
  | _, _, _, .emp _, e => by simp [D.py] at e
  | _, _, _, .obj _ _ _ _, e => by simp [D.py] at e
  | _, _, _, .hnd _, e => by simp [D.py] at e
theorem Dns.pys {c : DC} {S : Hp} : ∀ {vs : List V} {ds : List D} {ps : List PyData}, Dns c S vs ds → D.pys ds = some ps → DpAll c.K S vs ps
  | _, _, _, .nil, e => by simp [D.pys] at e; subst e; exact .nil
  | _, _, _, .cons h hs, e => by
    simp only [D.pys] at e
    split at e
    · rename_i p ps e1 e2
      cases e
      exact .cons (Dn.py h e1) (Dns.pys hs e2)
    · cases e
end
def toV : D → V
  | .non => .non
  | .bl b => .bl b
  | .int i => .int i
  | .str x => .str x
  | _ => .ref 0
def flatD : D → Bool
  | .non => true
  | .bl _ => true
  | .int _ => true
  | .str _ => true
  | _ => false
theorem Dn.flat {c : DC} {S : Hp} {v : V} {d : D} (h : Dn c S v d) (f : flatD d = true) : v = toV d ∧ flatV v = true := by
  cases h <;> first | exact ⟨rfl, rfl⟩ | simp [flatD] at f
theorem Dns.flat {c : DC} {S : Hp} : ∀ {vs : List V} {ds : List D}, Dns c S vs ds → ds.all flatD = true → vs = ds.map toV ∧ vs.all flatV = true
  | _, _, .nil, _ => ⟨rfl, rfl⟩
  | _, _, .cons h hs, f => by
    simp only [List.all_cons, Bool.and_eq_true] at f
    obtain ⟨e1, e2⟩ := Dn.flat h f.1
    obtain ⟨e3, e4⟩ := Dns.flat hs f.2
    exact ⟨by rw [e1, e3]; rfl, by simp [e2, e4]⟩

section
variable {c : DC}
/-! ### the operators -/
def R2.or (r r' : R2) : R2 := fun x y H Q => r x y H Q ∨ r' x y H Q
theorem OpR.or {X : Cx} {f : Value → Value → Sem Value} {r r' : R2} (h : OpR X f r) (h' : OpR X f r') : OpR X f (R2.or r r') := by
  intro pins s σ H x y v u Q I rx ry q
  rcases q with q | q
  · exact h pins s σ H x y v u Q I rx ry q
  · exact h' pins s σ H x y v u Q I rx ry q
def addD : D → D → Option D
  | .int i, .int j => some (.int (i + j))
  | .tup xs, .tup ys => if xs.length + ys.length ≤ 1000 then some (.tup (xs ++ ys)) else none
  | .lst xs, .lst ys => if xs.length + ys.length ≤ 1000 then some (.lst (xs ++ ys)) else none
  | _, _ => none
abbrev rAddD (K : PySem.W.Frag) : R2 := R2.or (rI0 fun i j => .int (i + j)) (R2.or (rCatA K) rCat)
theorem op_addD {X : Cx} : OpR X (binaryOp .Add) (rAddD X.K) := OpR.or op_add (OpR.or op_catA op_cat)
theorem os_add : OpS c (rAddD c.K) addD := by
  intro E F ρ g σ H S Q x y dx dy e R hx hy G
  subst e
  cases hx with
  | int i => cases hy <;> simp only [addD, lift] at G <;> first | exact G.elim | exact .inl ⟨_, _, rfl, rfl, G.ret R (.int _)⟩
  | tup h hs =>
    cases hy <;> simp only [addD, lift] at G <;> try exact G.elim
    rename_i a vs ds b ws es k ks
    by_cases hl : ds.length + es.length ≤ 1000
    · rw [if_pos hl] at G
      have l1 := hs.length
      have l2 := ks.length
      refine .inr (.inl ⟨a, b, vs, ws, rfl, rfl, Same.tup R.sub h, Same.tup R.sub k, line_of (by omega), fun z => ?_, fun _ z => ?_, fun _ _ p hp => ?_⟩)
      · subst z
        have : ds = [] := by cases hs; rfl
        subst this
        exact G.ret R (.tup k ks)
      · subst z
        have : es = [] := by cases ks; rfl
        subst this
        rw [List.append_nil] at G
        exact G.ret R (.tup h hs)
      · exact G.new R hp (.tup (SqT.of upd_same) ((hs.append ks).mono (R.tosame _ hp)))
    · rw [if_neg hl] at G; exact G.elim
  | lst h hs =>
    cases hy <;> simp only [addD, lift] at G <;> try exact G.elim
    rename_i a vs ds b ws es k ks
    by_cases hl : ds.length + es.length ≤ 1000
    · rw [if_pos hl] at G
      have l1 := hs.length
      have l2 := ks.length
      exact .inr (.inr ⟨a, b, vs, ws, rfl, rfl, R.sub _ _ h, R.sub _ _ k, line_of (by omega), fun p hp => G.new R hp (.lst upd_same ((hs.append ks).mono (R.tosame _ hp)))⟩)
    · rw [if_neg hl] at G; exact G.elim
  | _ => simp only [addD, lift] at G; exact G.elim
/-- two ints -/
def intD (f : Int → Int → Option D) : D → D → Option D
  | .int i, .int j => f i j
  | _, _ => none
theorem os_int {r : R2} {f : Int → Int → Option D} (h : ∀ i j d, f i j = some d → ∃ v, (∀ S, Dn c S v d) ∧ ∀ H (Q : VK), Q v H → r (.int i) (.int j) H Q) : OpS c r (intD f) := by
  intro E F ρ g σ H S Q x y dx dy e R hx hy G
  subst e
  cases hx with
  | int i =>
    cases hy <;> simp only [intD, lift] at G <;> try exact G.elim
    rename_i j
    cases q : f i j with
    | none => rw [q] at G; exact G.elim
    | some d =>
      rw [q] at G
      obtain ⟨v, hv, hr⟩ := h i j d q
      exact hr H Q (G.ret R (hv S))
  | _ => simp only [intD, lift] at G; exact G.elim
def subD : D → D → Option D := intD fun i j => some (.int (i - j))
theorem os_sub : OpS c (rI0 fun i j => .int (i - j)) subD := os_int fun i j d e => by cases e; exact ⟨_, fun S => .int _, fun H Q q => ⟨i, j, rfl, rfl, q⟩⟩
abbrev small64 (i : Int) : Prop := -(2 ^ 64) < i ∧ i < 2 ^ 64
def mulD : D → D → Option D
  | .int i, .int j => if small64 i ∨ small64 j then some (.int (i * j)) else none
  | .tup xs, .int k => if xs ≠ [] ∧ 2 ≤ k ∧ k ≤ 1000 ∧ xs.length ≤ 1000 ∧ xs.length * k.toNat ≤ 1000 then some (.tup (List.replicate k.toNat xs).flatten) else none
  | .lst xs, .int k => if -(2 ^ 63) ≤ k ∧ k < 2 ^ 63 ∧ xs.length * k.toNat ≤ 1000 then some (.lst (List.replicate k.toNat xs).flatten) else none
  | _, _ => none
def modD : D → D → Option D := intD fun i j => if j ≠ 0 then some (.int (i.fmod j)) else none
def divD : D → D → Option D := intD fun i j => if j ≠ 0 ∧ j.natAbs < 1073741824 then some (.int (i.fdiv j)) else none
def powD : D → D → Option D := intD fun i j => if 0 ≤ j ∧ j ≤ 1000000 ∧ i.natAbs < 2 ^ 64 then some (.int (i ^ j.toNat)) else none
theorem os_mod : OpS c (rI (fun i j => j ≠ 0) fun i j => .int (i.fmod j)) modD := os_int fun i j d e => by
  split at e
  · rename_i h; cases e; exact ⟨_, fun S => .int _, fun H Q q => ⟨i, j, rfl, rfl, h, q⟩⟩
  · cases e
theorem os_div : OpS c (rI CDivN fun i j => .int (i.fdiv j)) divD := os_int fun i j d e => by
  split at e
  · rename_i h; cases e; exact ⟨_, fun S => .int _, fun H Q q => ⟨i, j, rfl, rfl, h, q⟩⟩
  · cases e
theorem os_pow : OpS c (rI CPow fun i j => .int (i ^ j.toNat)) powD := os_int fun i j d e => by
  split at e
  · rename_i h; cases e; exact ⟨_, fun S => .int _, fun H Q q => ⟨i, j, rfl, rfl, h, q⟩⟩
  · cases e
def ltD : D → D → Option D := intD fun i j => some (.bl (decide (i < j)))
def leD : D → D → Option D := intD fun i j => some (.bl (decide (i ≤ j)))
def gtD : D → D → Option D := intD fun i j => some (.bl (decide (j < i)))
def geD : D → D → Option D := intD fun i j => some (.bl (decide (j ≤ i)))
theorem os_lt : OpS c (rI0 fun i j => .bl (decide (i < j))) ltD := os_int fun i j d e => by cases e; exact ⟨_, fun S => .bl _, fun H Q q => ⟨i, j, rfl, rfl, q⟩⟩
theorem os_le : OpS c (rI0 fun i j => .bl (decide (i ≤ j))) leD := os_int fun i j d e => by cases e; exact ⟨_, fun S => .bl _, fun H Q q => ⟨i, j, rfl, rfl, q⟩⟩
theorem os_gt : OpS c (rI0 fun i j => .bl (decide (j < i))) gtD := os_int fun i j d e => by cases e; exact ⟨_, fun S => .bl _, fun H Q q => ⟨i, j, rfl, rfl, q⟩⟩
theorem os_ge : OpS c (rI0 fun i j => .bl (decide (j ≤ i))) geD := os_int fun i j d e => by cases e; exact ⟨_, fun S => .bl _, fun H Q q => ⟨i, j, rfl, rfl, q⟩⟩
/-- == of data -/
def eqB (a b : D) : Option Bool := match a.py, b.py with
  | some p, some q => if SeqAt.shaped p = true ∧ SeqAt.shaped q = true then some (PyData.eqv p q) else none
  | _, _ => none
def eqD (a b : D) : Option D := (eqB a b).map .bl
def neD (a b : D) : Option D := (eqB a b).map fun k => .bl (!k)
theorem eqB_some {a b : D} {k : Bool} (h : eqB a b = some k) : ∃ p q, a.py = some p ∧ b.py = some q ∧ SeqAt.shaped p = true ∧ SeqAt.shaped q = true ∧ k = PyData.eqv p q := by
  unfold eqB at h
  split at h
  · rename_i p q e1 e2
    split at h
    · rename_i hs; cases h; exact ⟨p, q, e1, e2, hs.1, hs.2, rfl⟩
    · cases h
  · cases h
theorem Dp.mono {K : PySem.W.Frag} {S H : Hp} (sm : Same S H) : ∀ {v : V} {p : PyData}, Dp K S v p → Dp K H v p := by
  intro v p h
  induction h using Dp.rec (motive_2 := fun vs ps _ => DpAll K H vs ps) with
  | non => exact .non
  | bl b => exact .bl b
  | int i => exact .int i
  | str x => exact .str x
  | lst h _ ih => exact .lst (sm.seq h) ih
  | tup h _ ih => exact .tup (Same.tup sm h) ih
  | nil => exact .nil
  | cons _ _ ih1 ih2 => exact .cons ih1 ih2
theorem os_eq : OpS c (rEqD c.K) eqD := by
  intro E F ρ g σ H S Q x y dx dy e R hx hy G
  subst e
  cases h : eqB dx dy with
  | none => simp only [eqD, h, Option.map_none, lift] at G; exact G.elim
  | some k =>
    simp only [eqD, h, Option.map_some, lift] at G
    obtain ⟨p, q, e1, e2, s1, s2, rfl⟩ := eqB_some h
    exact ⟨p, q, Dp.mono R.sub (hx.py e1), Dp.mono R.sub (hy.py e2), s1, s2, G.ret R (.bl _)⟩
theorem os_ne : OpS c (rNeD c.K) neD := by
  intro E F ρ g σ H S Q x y dx dy e R hx hy G
  subst e
  cases h : eqB dx dy with
  | none => simp only [neD, h, Option.map_none, lift] at G; exact G.elim
  | some k =>
    simp only [neD, h, Option.map_some, lift] at G
    obtain ⟨p, q, e1, e2, s1, s2, rfl⟩ := eqB_some h
    exact ⟨p, q, Dp.mono R.sub (hx.py e1), Dp.mono R.sub (hy.py e2), s1, s2, G.ret R (.bl _)⟩
/-! is None, is True, is False -/
def isNonB : D → Bool
  | .non => true
  | _ => false
def isND : D → D → Option D
  | d, .non => some (.bl (isNonB d))
  | _, _ => none
def notND : D → D → Option D
  | d, .non => some (.bl (!isNonB d))
  | _, _ => none
theorem Dn.non_iff {S : Hp} {v : V} {d : D} (h : Dn c S v d) : decide (v = .non) = isNonB d := by cases h <;> simp [isNonB]
theorem os_isN : OpS c (fun x y H Q => y = .non ∧ Q (.bl (decide (x = .non))) H) isND := by
  intro E F ρ g σ H S Q x y dx dy e R hx hy G
  cases hy <;> simp only [isND, lift] at G <;> first | exact G.elim | skip
  exact ⟨rfl, by rw [hx.non_iff]; exact G.ret R (.bl _)⟩
theorem os_notN : OpS c (fun x y H Q => y = .non ∧ Q (.bl (!decide (x = .non))) H) notND := by
  intro E F ρ g σ H S Q x y dx dy e R hx hy G
  cases hy <;> simp only [notND, lift] at G <;> first | exact G.elim | skip
  exact ⟨rfl, by rw [hx.non_iff]; exact G.ret R (.bl _)⟩
/-! in, not in -/
def inB (x y : D) : Option Bool := match y with
  | .tup ys => if flatD x = true ∧ ys.all flatD = true then some (inV (toV x) (ys.map toV)) else none
  | .lst ys => if flatD x = true ∧ ys.all flatD = true then some (inV (toV x) (ys.map toV)) else none
  | _ => none
def inD (x y : D) : Option D := (inB x y).map .bl
def notInD (x y : D) : Option D := (inB x y).map fun k => .bl (!k)
theorem inB_some {F : Fx} {ρ g σ H S} {x y : V} {dx dy : D} {k : Bool} (R : Rep F ρ g σ H S) (hx : Dn F.c S x dx) (hy : Dn F.c S y dy) (h : inB dx dy = some k) :
    ∃ p xs, y = .ref p ∧ (SqL F.c.K H p xs ∨ SqT F.c.K H p xs) ∧ flatV x = true ∧ xs.all flatV = true ∧ k = inV x xs := by
  cases hy with
  | tup ht hs =>
    simp only [inB] at h
    split at h
    · rename_i hf
      cases h
      obtain ⟨e1, e2⟩ := hx.flat hf.1
      obtain ⟨e3, e4⟩ := hs.flat hf.2
      exact ⟨_, _, rfl, .inr (Same.tup R.sub ht), e2, e4, by rw [e1, e3]⟩
    · cases h
  | lst ht hs =>
    simp only [inB] at h
    split at h
    · rename_i hf
      cases h
      obtain ⟨e1, e2⟩ := hx.flat hf.1
      obtain ⟨e3, e4⟩ := hs.flat hf.2
      exact ⟨_, _, rfl, .inl (SqL.of (R.sub _ _ ht)), e2, e4, by rw [e1, e3]⟩
    · cases h
  | _ => simp [inB] at h
theorem os_in : OpS c (rIn c.K false) inD := by
  intro E F ρ g σ H S Q x y dx dy e R hx hy G
  subst e
  cases h : inB dx dy with
  | none => simp only [inD, h, Option.map_none, lift] at G; exact G.elim
  | some k =>
    simp only [inD, h, Option.map_some, lift] at G
    obtain ⟨p, xs, rfl, e1, e2, e3, rfl⟩ := inB_some R hx hy h
    exact ⟨p, xs, rfl, e1, e2, e3, G.ret R (.bl _)⟩
theorem os_notIn : OpS c (rIn c.K true) notInD := by
  intro E F ρ g σ H S Q x y dx dy e R hx hy G
  subst e
  cases h : inB dx dy with
  | none => simp only [notInD, h, Option.map_none, lift] at G; exact G.elim
  | some k =>
    simp only [notInD, h, Option.map_some, lift] at G
    obtain ⟨p, xs, rfl, e1, e2, e3, rfl⟩ := inB_some R hx hy h
    exact ⟨p, xs, rfl, e1, e2, e3, G.ret R (.bl _)⟩
/-! subscripts -/
theorem atI_map {vs : List V} {ds : List D} {S : Hp} (h : Dns c S vs ds) {i : Int} {d : D} (e : atI ds i = some d) : ∃ v, atI vs i = some v ∧ Dn c S v d := by
  unfold atI at e ⊢
  rw [h.length]
  cases q : ixN ds.length i with
  | none => rw [q] at e; cases e
  | some j =>
    rw [q] at e
    exact h.get e
def ixD : D → D → Option D
  | .tup xs, .int i => atI xs i
  | .lst xs, .int i => atI xs i
  | _, _ => none
abbrev rIxD (K : PySem.W.Frag) : R2 := fun x y H Q => rIxL K x y H Q ∨ rIxT K x y H Q
theorem ix_D {X : Cx} : IxR X (rIxD X.K) := ix_list.or ix_tup
theorem os_ix : OpS c (rIxD c.K) ixD := by
  intro E F ρ g σ H S Q x y dx dy e R hx hy G
  subst e
  cases hy with
  | int i =>
    cases hx <;> simp only [ixD, lift] at G <;> try exact G.elim
    · rename_i a vs ds h hs
      cases q : atI ds i with
      | none => rw [q] at G; exact G.elim
      | some d =>
        rw [q] at G
        obtain ⟨v, h1, h2⟩ := atI_map hs q
        exact .inr ⟨a, vs, i, v, rfl, rfl, Same.tup R.sub h, h1, G.ret R h2⟩
    · rename_i a vs ds h hs
      cases q : atI ds i with
      | none => rw [q] at G; exact G.elim
      | some d =>
        rw [q] at G
        obtain ⟨v, h1, h2⟩ := atI_map hs q
        exact .inl ⟨a, vs, i, v, rfl, rfl, SqL.of (R.sub _ _ h), h1, G.ret R h2⟩
  | _ => cases dx <;> simp only [ixD, lift] at G <;> exact G.elim
end

/-! ### slices -/
section
variable {X : Cx} {ah : Option Addr} {E : St → XK} {c : DC}
abbrev FO := List En → Gh → M (Option Int)
abbrev rO : Rl (Option Int) (Option Int) := fun _ _ b a => b = a
def PFO (X : Cx) (ah : Option Addr) (E : St → XK) (e : Option Expr) (f : FO) : Prop := ∃ t, PO X e t ∧ @RG (Option Int) (Option Int) rO (dc X ah) E t f
@[simp] def oN : FO := fun _ g => some (.ok none g)
@[simp] def toI : D → Option Int
  | .int i => some i
  | _ => none
@[simp] def oS (a : FE) : FO := fun ρ g => (a ρ g).bd fun x g1 => match toI x with
  | some i => some (.ok (some i) g1)
  | none => none
theorem pfo_none : PFO X ah E none oN := ⟨_, po_none, ⟨fun F ρ g σ H S Q e R G => G.ret (b := none) R rfl⟩⟩
theorem pfo_some {e : Expr} {a : FE} (ha : PF X ah E e a) : PFO X ah E (some e) (oS a) := by
  obtain ⟨t, p, r⟩ := ha
  refine ⟨_, po_some p, ?_⟩
  refine RG.bind (r := fun σ x H1 (Q : Option Int → Hp → Prop) => ∃ i, x = .int i ∧ Q (some i) H1) (k := fun ρ x g1 => match toI x with
  | some i => some (.ok (some i) g1)
  | none => none) r fun F ρ g σ H S Q x d e R hx G => ?_
  cases hx <;> simp only [toI] at G <;> first | exact G.elim | exact ⟨_, rfl, G.ret R rfl⟩
def cutD (xs : List D) (lo hi : Option Int) : List D := (xs.drop (HT.sIx xs.length 0 lo)).take (HT.sIx xs.length xs.length hi - HT.sIx xs.length 0 lo)
theorem Dns.cut {S : Hp} {vs : List V} {ds : List D} (h : Dns c S vs ds) (lo hi : Option Int) : Dns c S (cutV vs lo hi) (cutD ds lo hi) := by
  unfold cutV cutD
  rw [h.length]
  exact (h.drop _).take _
def slD (x : D) (lo hi : Option Int) : Option D := match x with
  | .tup xs => some (.tup (cutD xs lo hi))
  | .lst xs => some (.lst (cutD xs lo hi))
  | _ => none
@[simp] def cSl (a : FE) (lo hi : FO) : FE := fun ρ g => (a ρ g).bd fun x g1 => (lo ρ g1).bd fun l g2 => (hi ρ g2).bd fun h g3 => lift (slD x l h) g3
theorem cutD_whole {xs : List D} {lo hi : Option Int} (h : HT.sIx xs.length 0 lo = 0 ∧ HT.sIx xs.length xs.length hi = xs.length) : cutD xs lo hi = xs := by
  unfold cutD
  rw [h.1, h.2]
  simp
theorem pf_sl {e : Expr} {lo hi : Option Expr} {a : FE} {l h : FO} {p2 pos : Pos} (ha : PF X ah E e a) (hl : PFO X ah E lo l) (hh : PFO X ah E hi h) : PF X ah E (.Subscript e (.Slice lo hi none p2) pos) (cSl a l h) := by
  obtain ⟨t, p, r⟩ := ha
  obtain ⟨tl, q, r2⟩ := hl
  obtain ⟨th, q', r3⟩ := hh
  refine ⟨_, pe_slice (SlR.or sl_tupA sl_list) p q q', ?_⟩
  refine RG.bind (r := fun σ x H1 (Q : VK) => tl σ H1 fun l' H2 => th σ H2 fun u H3 => (rSlA X.K x l' u H3 Q ∨ rSlL X.K x l' u H3 Q)) (k := fun ρ x g1 => (l ρ g1).bd fun l g2 => (h ρ g2).bd fun h g3 => lift (slD x l h) g3) r fun F ρ g σ H S Q x d e R hx G => ?_
  refine r2.step e R G fun H1 S1 g1 lo' l' sm R1 hlo G => ?_
  cases hlo
  refine r3.step e R1 G fun H2 S2 g2 hi' h' sm2 R2 hhi G => ?_
  cases hhi
  have hx := hx.mono (sm.trans sm2)
  have eK : F.c.K = X.K := by rw [e]
  cases hx with
  | tup h1 hs =>
    simp only [slD, lift] at G
    refine .inl ⟨_, _, rfl, Same.tup R2.sub h1, fun z => ?_, fun _ p hp => ?_⟩
    · rw [hs.length] at z
      rw [cutD_whole z] at G
      exact G.ret R2 (e ▸ .tup h1 hs)
    · exact G.new R2 hp (e ▸ .tup (SqT.of upd_same) ((hs.cut _ _).mono (R2.tosame _ hp)))
  | lst h1 hs =>
    simp only [slD, lift] at G
    exact .inr ⟨_, _, rfl, SqL.of (R2.sub _ _ h1), fun p hp => G.new R2 hp (e ▸ .lst upd_same ((hs.cut _ _).mono (R2.tosame _ hp)))⟩
  | _ => simp only [slD, lift] at G; exact G.elim
end
end FD
set_option Elab.async false
set_option linter.all false
set_option maxRecDepth 100000
set_option maxHeartbeats 2000000
namespace FD
open PySem L2

/-! ### what is walked -/
structure WalkOf (c : DC) (J : It) (ds : List D) (S : Hp) : Prop where
  stop : ∀ F ρ g σ H S1, F.c = c → Same S S1 → Rep F ρ g σ H S1 → J.stop ds.length H
  go : ∀ F ρ g σ H S1 i d, F.c = c → Same S S1 → Rep F ρ g σ H S1 → ds[i]? = some d → J.go i H ∧ ∀ x H', J.yld i H x H' → ∃ S', Same S1 S' ∧ Rep F ρ g σ H' S' ∧ Dn c S' x d
abbrev rI : Rl It (List D) := fun c S J ds => WalkOf c J ds S
abbrev FI := List En → Gh → M (List D)
section
variable {X : Cx} {ah : Option Addr} {E : St → XK} {c : DC}
def PFI (X : Cx) (ah : Option Addr) (E : St → XK) (tg iter : Expr) (f : FI) : Prop := ∃ wi, PI X tg iter wi ∧ @RG It (List D) rI (dc X ah) E wi f

def iSeq (K : PySem.W.Frag) (tl : TE) : TI := fun σ H R => tl σ H fun x H1 => ∃ a, x = .ref a ∧ (((∃ xs, SqL K H1 a xs) ∧ R (Itl K a) H1) ∨ ((∃ xs, SqT K H1 a xs) ∧ R (Itt K a) H1))
theorem pi_seq {tg l : Expr} {tl : TE} (hl : PE X l tl) : PI X tg l (iSeq X.K tl) := by
  refine ⟨fun pins s σ H R I h => ?_⟩
  refine thn (hl.run pins s σ H _ I h) fun v s1 ⟨x, H1, I1, r1, q1⟩ => ?_
  obtain ⟨a, e, q⟩ := q1
  subst e
  cases r1
  rcases q with ⟨⟨xs, hq⟩, q⟩ | ⟨⟨xs, hq⟩, q⟩
  · obtain ⟨its, rv, p, hz⟩ := I1.list hq
    refine wpAny_pyIter_list p.isList ?_
    refine ⟨s1.heap.objs.size, [s1.heap.objs.size], _, _, H1, rfl, I1.kept (t' := s1.toks) fun b o e => Heap.get?_push_of_some _ e, turn_list a _, ⟨_, Heap.get?_push_size _ rfl, rfl, rfl⟩, fun b hb => ?_, q⟩
    have e : b = s1.heap.objs.size := by simpa using hb
    subst e
    exact I1.fpOk (Nat.le_refl _) (I1.hok.fresh (Nat.le_refl _))
  · obtain ⟨its, rv, p, hz⟩ := I1.tuple hq
    refine wpAny_pyIter_tuple (show s1.heap.IsTuple a its.toArray from p) ?_
    refine ⟨s1.heap.objs.size, [s1.heap.objs.size], _, _, H1, rfl, I1.kept (t' := s1.toks) fun b o e => Heap.get?_push_of_some _ e, turn_tuple a _, ⟨_, Heap.get?_push_size _ rfl, rfl, rfl⟩, fun b hb => ?_, q⟩
    have e : b = s1.heap.objs.size := by simpa using hb
    subst e
    exact I1.fpOk (Nat.le_refl _) (I1.hok.fresh (Nat.le_refl _))
def seqOf : D → Option (List D)
  | .tup ds => some ds
  | .lst ds => some ds
  | _ => none
@[simp] def iS (a : FE) : FI := fun ρ g => (a ρ g).bd fun x g1 => lift (seqOf x) g1
/-- a list, a tuple: one tracked or written list has one content -/
theorem walk_tup {S : Hp} {a : Addr} {vs : List V} {ds : List D} (h : SqT c.K S a vs) (hs : Dns c S vs ds) : WalkOf c (Itt c.K a) ds S where
  stop := fun F ρ g σ H S1 e sm R => ⟨vs, Same.tup R.sub (Same.tup sm h), by rw [hs.length]; exact Nat.le_refl _⟩
  go := fun F ρ g σ H S1 i d e sm R hd => by
    obtain ⟨v, hv, hn⟩ := hs.get hd
    have hT : SqT c.K H a vs := Same.tup R.sub (Same.tup sm h)
    refine ⟨⟨vs, v, hT, hv⟩, fun x H' y => ?_⟩
    obtain ⟨e1, y⟩ := y
    subst e1
    have : vs[i]? = some x := y vs hT
    rw [hv] at this; cases this
    exact ⟨S1, Same.refl _, R, hn.mono sm⟩
theorem walk_lst {S : Hp} {a : Addr} {vs : List V} {ds : List D} (h : S a = some (.lst vs)) (hs : Dns c S vs ds) : WalkOf c (Itl c.K a) ds S where
  stop := fun F ρ g σ H S1 e sm R => ⟨vs, SqL.of (R.sub _ _ (sm _ _ h)), by rw [hs.length]; exact Nat.le_refl _⟩
  go := fun F ρ g σ H S1 i d e sm R hd => by
    obtain ⟨v, hv, hn⟩ := hs.get hd
    have hT : SqL c.K H a vs := SqL.of (R.sub _ _ (sm _ _ h))
    refine ⟨⟨vs, v, hT, hv⟩, fun x H' y => ?_⟩
    obtain ⟨e1, y⟩ := y
    subst e1
    have : vs[i]? = some x := y vs hT
    rw [hv] at this; cases this
    exact ⟨S1, Same.refl _, R, hn.mono sm⟩
theorem pfi_seq {tg e : Expr} {a : FE} (ha : PF X ah E e a) : PFI X ah E tg e (iS a) := by
  obtain ⟨t, p, r⟩ := ha
  refine ⟨_, pi_seq p, ?_⟩
  refine RG.bind (r := fun σ x H1 (R : It → Hp → Prop) => ∃ a, x = .ref a ∧ (((∃ xs, SqL X.K H1 a xs) ∧ R (Itl X.K a) H1) ∨ ((∃ xs, SqT X.K H1 a xs) ∧ R (Itt X.K a) H1))) (k := fun ρ x g1 => lift (seqOf x) g1) r fun F ρ g σ H S Q x d e R hx G => ?_
  cases hx with
  | tup h hs =>
    refine ⟨_, rfl, .inr ⟨⟨_, Same.tup R.sub h⟩, G.ret R ?_⟩⟩
    show WalkOf F.c _ _ _
    rw [e]
    exact walk_tup h hs
  | lst h hs =>
    refine ⟨_, rfl, .inl ⟨⟨_, SqL.of (R.sub _ _ h)⟩, G.ret R ?_⟩⟩
    show WalkOf F.c _ _ _
    rw [e]
    exact walk_lst h hs
  | _ => simp only [seqOf, lift] at G; exact G.elim
/-- range(n), range(a, b) -/
def rngD (lo : Int) (n : Nat) : List D := (List.range n).map fun (k : Nat) => D.int (lo + (k : Int))
theorem walk_rng {S : Hp} (lo : Int) (n : Nat) : WalkOf c (Itr lo n) (rngD lo n) S where
  stop := fun F ρ g σ H S1 e sm R => by show n ≤ (rngD lo n).length; simp [rngD]
  go := fun F ρ g σ H S1 i d e sm R hd => by
    have hi : i < n := by
      have := (List.getElem?_eq_some_iff.mp hd).1
      simpa [rngD] using this
    have hd' : d = .int (lo + i) := by
      simp [rngD, hi] at hd
      exact hd.symm
    subst hd'
    refine ⟨hi, fun x H' y => ?_⟩
    obtain ⟨e1, rfl⟩ := y
    subst e1
    exact ⟨S1, Same.refl _, R, .int _⟩
/-- a test that is never reckoned -/
noncomputable def ck (p : Prop) : Bool := @decide p (Classical.propDecidable p)
theorem ck_of {p : Prop} (h : p) : ck p = true := @decide_eq_true p (Classical.propDecidable p) h
theorem of_ck {p : Prop} (h : ck p = true) : p := @of_decide_eq_true p (Classical.propDecidable p) h
noncomputable def rng1 : List D → Option (List D)
  | [.int j] => if ck (-(2 ^ 62) ≤ j ∧ j < 2 ^ 62) = true then some (rngD 0 j.toNat) else none
  | _ => none
noncomputable def rng2 : List D → Option (List D)
  | [.int i, .int j] => if ck (-(2 ^ 62) ≤ i ∧ i < 2 ^ 62 ∧ -(2 ^ 62) ≤ j ∧ j < 2 ^ 62) = true then some (rngD i (j - i).toNat) else none
  | _ => none
@[simp] noncomputable def iR1 (a : FA) : FI := fun ρ g => (a ρ g).bd fun xs g1 => lift (rng1 xs) g1
@[simp] noncomputable def iR2 (a : FA) : FI := fun ρ g => (a ρ g).bd fun xs g1 => lift (rng2 xs) g1
theorem Dns.one {c : DC} {S : Hp} {vs : List V} {d : D} (h : Dns c S vs [d]) : ∃ v, vs = [v] ∧ Dn c S v d := by
  cases h with | cons h hs => cases hs; exact ⟨_, rfl, h⟩
theorem Dns.two {c : DC} {S : Hp} {vs : List V} {d e : D} (h : Dns c S vs [d, e]) : ∃ v w, vs = [v, w] ∧ Dn c S v d ∧ Dn c S w e := by
  cases h with | cons h hs => cases hs with | cons k ks => cases ks; exact ⟨_, _, rfl, h, k⟩
theorem Dns.three {c : DC} {S : Hp} {vs : List V} {d e f : D} (h : Dns c S vs [d, e, f]) : ∃ v w u, vs = [v, w, u] ∧ Dn c S v d ∧ Dn c S w e ∧ Dn c S u f := by
  cases h with | cons h hs => obtain ⟨w, u, rfl, h1, h2⟩ := hs.two; exact ⟨_, _, _, rfl, h, h1, h2⟩
theorem Dn.intE {c : DC} {S : Hp} {v : V} {i : Int} (h : Dn c S v (.int i)) : v = .int i := by cases h; rfl
theorem Dn.blE {c : DC} {S : Hp} {v : V} {i : Bool} (h : Dn c S v (.bl i)) : v = .bl i := by cases h; rfl
theorem Dn.strE {c : DC} {S : Hp} {v : V} {i : Str} (h : Dn c S v (.str i)) : v = .str i := by cases h; rfl
theorem pfi_rng1 {tg a : Expr} {f : FA} {p pos : Pos} (hm : X.mg "range" = none) (ha : PFA X ah E [a] f) (hg : Gl X "range" := by rfl) (hs : starEach [a] X.env = [(false, eval a X.env)] := by rfl) : PFI X ah E tg (.Call (.Name "range" p) [a] [] pos) (iR1 f) := by
  obtain ⟨t, q, r⟩ := ha
  refine ⟨_, pi_range1 hg hm q hs, ?_⟩
  refine RG.bind (r := fun σ vs H1 (R : It → Hp → Prop) => ∃ j : Int, vs = [.int j] ∧ -(2 ^ 62) ≤ j ∧ j < 2 ^ 62 ∧ R (Itr 0 j.toNat) H1) (k := fun ρ xs g1 => lift (rng1 xs) g1) r fun F ρ g σ H S Q x d e R hx G => ?_
  unfold rng1 at G
  split at G
  · rename_i j
    obtain ⟨v, rfl, hv⟩ := hx.one
    cases hv.intE
    by_cases hb : ck (-(2 ^ 62) ≤ j ∧ j < 2 ^ 62) = true
    · rw [if_pos hb] at G
      have hb := of_ck hb
      exact ⟨j, rfl, hb.1, hb.2, G.ret R (walk_rng 0 j.toNat)⟩
    · rw [if_neg hb] at G; exact G.elim
  · exact G.elim
theorem pfi_rng2 {tg a b : Expr} {f : FA} {p pos : Pos} (hm : X.mg "range" = none) (ha : PFA X ah E [a, b] f) (hg : Gl X "range" := by rfl) (hs : starEach [a, b] X.env = [(false, eval a X.env), (false, eval b X.env)] := by rfl) (hs2 : starEach [b] X.env = [(false, eval b X.env)] := by rfl) : PFI X ah E tg (.Call (.Name "range" p) [a, b] [] pos) (iR2 f) := by
  obtain ⟨t, q, r⟩ := ha
  refine ⟨_, pi_range2 hg hm q hs hs2, ?_⟩
  refine RG.bind (r := fun σ vs H1 (R : It → Hp → Prop) => ∃ i j : Int, vs = [.int i, .int j] ∧ (-(2 ^ 62) ≤ i ∧ i < 2 ^ 62 ∧ -(2 ^ 62) ≤ j ∧ j < 2 ^ 62) ∧ R (Itr i (j - i).toNat) H1) (k := fun ρ xs g1 => lift (rng2 xs) g1) r fun F ρ g σ H S Q x d e R hx G => ?_
  unfold rng2 at G
  split at G
  · rename_i i j
    obtain ⟨v, w, rfl, hv, hw⟩ := hx.two
    cases hv.intE
    cases hw.intE
    by_cases hb : ck (-(2 ^ 62) ≤ i ∧ i < 2 ^ 62 ∧ -(2 ^ 62) ≤ j ∧ j < 2 ^ 62) = true
    · rw [if_pos hb] at G
      have hb := of_ck hb
      exact ⟨i, j, rfl, hb, G.ret R (walk_rng i _)⟩
    · rw [if_neg hb] at G; exact G.elim
  · exact G.elim

end
section
variable {X : Cx} {ah : Option Addr} {E : XK} {c : DC}
/-! ### for -/
def loopD (gs : FG) (fb : FS) : List D → List En → Gh → M Fl
  | [], ρ, g => some (.ok (.nx ρ) g)
  | d :: ds, ρ, g => match gs d ρ with
    | none => none
    | some ρ1 => match fb ρ1 g with
      | none => none
      | some (.ok (.nx ρ2) g2) => loopD gs fb ds ρ2 g2
      | some (.ok (.ct ρ2) g2) => loopD gs fb ds ρ2 g2
      | some (.ok (.bk ρ2) g2) => some (.ok (.nx ρ2) g2)
      | some (.ok (.rt d) g2) => some (.ok (.rt d) g2)
      | some (.ex c ks es g2) => some (.ex c ks es g2)
@[simp] def sFor (fi : FI) (gs : FG) (fb : FS) : FS := fun ρ g => (fi ρ g).bd fun ds g1 => loopD gs fb ds ρ g1
theorem drop_of {α : Type} {ds : List α} {i : Nat} (h : i < ds.length) : ds.drop i = ds[i] :: ds.drop (i + 1) := List.drop_eq_getElem_cons h
theorem rs_for {wi : TI} {fi : FI} {tg : TG} {gs : FG} {tb : TS} {fb : FS} (hi : @RG It (List D) rI c (fun _ => E) wi fi) (hg : RTg c tg gs) (hb : RS c E tb fb) : RS c E (tFor wi tg tb) (sFor fi gs fb) := by
  refine RS.bind (rel := rI) (r := fun Z σ J H1 => ∃ W : Nat → Nat → St → Hp → Prop, (∃ m, W 0 m σ H1) ∧ ∀ i m σ H, W i m σ H →
    (J.stop i H ∧ Z.nx σ H) ∨ (J.go i H ∧ ∃ N : St → Hp → Prop, (∀ σ' H', N σ' H' → ∃ m', m' < m ∧ W (i + 1) m' σ' H') ∧ ∀ x H', J.yld i H x H' → tg x σ H' fun σ2 H2 => tb { Z with nx := N, ct := N, bk := Z.nx } σ2 H2)) (k := fun ρ ds g1 => loopD gs fb ds ρ g1) hi fun F ρ g σ H S Z J ds e R hJ G => ?_
  let Pv : Nat → St → Hp → Prop := fun i σ H => ∃ ρ g S1, Same S S1 ∧ Rep F ρ g σ H S1 ∧ GotS F S1 E Z (loopD gs fb (ds.drop i) ρ g)
  refine ⟨fun i m σ H => m = ds.length - i ∧ i ≤ ds.length ∧ Pv i σ H, ⟨ds.length, by simp, Nat.zero_le _, ρ, g, S, Same.refl S, R, G⟩, ?_⟩
  rintro i m σ H ⟨rfl, hi, ρ, g, S1, sm, R, G⟩
  by_cases hlt : i < ds.length
  · refine .inr ?_
    obtain ⟨go, yl⟩ := hJ.go F ρ g σ H S1 i ds[i] e sm R (List.getElem?_eq_getElem hlt)
    refine ⟨go, Pv (i + 1), fun σ' H' p' => ⟨ds.length - (i + 1), by omega, rfl, hlt, p'⟩, fun x H' y => ?_⟩
    obtain ⟨S', sm', R', hx⟩ := yl x H' y
    rw [drop_of hlt] at G
    unfold loopD at G
    refine hg.run F ρ g σ H' S' x _ _ e R' hx ?_
    cases h1 : gs ds[i] ρ with
    | none => rw [h1] at G; exact G
    | some ρ1 =>
      rw [h1] at G
      intro σ2 R2
      refine hb.run F ρ1 g σ2 H' S' _ e R2 ?_
      have G := G.mono sm'
      simp only at G
      cases h2 : fb ρ1 g with
      | none => rw [h2] at G; exact G
      | some o =>
        rw [h2] at G
        cases o with
        | ex _ _ _ _ => exact G
        | ok f g2 =>
          cases f with
          | nx ρ2 => exact fun σ3 H3 S3 s3 R3 => ⟨ρ2, g2, S3, sm.trans (sm'.trans s3), R3, G.mono s3⟩
          | ct ρ2 => exact fun σ3 H3 S3 s3 R3 => ⟨ρ2, g2, S3, sm.trans (sm'.trans s3), R3, G.mono s3⟩
          | bk ρ2 => exact G
          | rt d => exact G
  · have e1 : i = ds.length := by omega
    subst e1
    rw [List.drop_length] at G
    exact .inl ⟨hJ.stop F ρ g σ H S1 e sm R, G σ H S1 (Same.refl _) R⟩
theorem pfs_for {tg iter : Expr} {body : List Stmt} {fi : FI} {gs : FG} {fb : FS} {vs : List Nat} {pos : Pos} (hp : PassesOwn (model X.prog X.w) X.A X.env X.xe) (hc : X.calm = true) (hi : PFI X ah (fun _ => E) tg iter fi) (hg : PFG X ah tg gs vs) (hb : PFSs X ah E body fb)
    (hs : ∀ x, foldedSetIterable iter X.env x = pure x := by intro _; rfl) : PFS X ah E (.For tg iter body [] pos) (sFor fi gs fb) := by
  obtain ⟨t, p, r⟩ := hi
  obtain ⟨u, q, s, _⟩ := hg
  obtain ⟨v, q', s'⟩ := hb
  exact ⟨_, ps_for hp hc p q q' hs, rs_for r s s'⟩

end
section
variable {X : Cx} {ah : Option Addr} {E : St → XK} {c : DC}
/-! ### comprehensions -/
/-- the slots of a block's own names -/
def wipeE (ρ : List En) : List Nat → List En
  | [] => ρ
  | v :: vs => (wipeE ρ vs).set v .un
theorem wipeE_get (ρ : List En) (i : Nat) : ∀ vs : List Nat, (wipeE ρ vs)[i]? = if i ∈ vs then (if i < ρ.length then some En.un else none) else ρ[i]?
  | [] => by simp [wipeE]
  | v :: vs => by
    have hl : ∀ ws : List Nat, (wipeE ρ ws).length = ρ.length := by
      intro ws
      induction ws with
      | nil => rfl
      | cons w ws ih => simp [wipeE, ih]
    unfold wipeE
    rw [List.getElem?_set, hl, wipeE_get ρ i vs]
    by_cases h : v = i
    · subst h; simp
    · have h' : ¬ i = v := fun e => h e.symm
      simp [h, h']
theorem Rep.wipe {F : Fx} {ρ g σ H S} (R : Rep F ρ g σ H S) (vs : List Nat) : Rep F (wipeE ρ vs) g (wipe σ vs) H S := by
  refine R.forget (fun i en h => ?_) fun i j p xs ys h1 h2 h3 h4 => ?_
  · rw [wipeE_get] at h
    split at h
    · rename_i hi
      split at h
      · rename_i hl
        cases h
        obtain ⟨so, h1, _⟩ := R.slots i _ (List.getElem?_eq_getElem hl)
        have := (List.getElem?_eq_some_iff.mp h1).1
        exact ⟨none, by rw [wipe_get, if_pos hi, if_pos this], trivial⟩
      · cases h
    · rename_i hi
      obtain ⟨so, h1, h2⟩ := R.slots i en h
      exact ⟨so, by rw [wipe_get, if_neg hi]; exact h1, h2⟩
  · rw [wipeE_get] at h1 h2
    split at h1
    · split at h1 <;> cases h1
    split at h2
    · split at h2 <;> cases h2
    rename_i n1 n2
    rw [wipe_get, if_neg n1] at h3
    rw [wipe_get, if_neg n2] at h4
    exact R.apart i j p xs ys h1 h2 h3 h4
def hideE : En → En
  | .own _ => .un
  | e => e
def blkE (ρ : List En) (vs : List Nat) : List En := (wipeE ρ vs).map hideE
theorem Rep.sub_frame {F : Fx} {ρ g σ H S} (R : Rep F ρ g σ H S) : Rep ⟨F.c, H, S⟩ [] g [] H S :=
  ⟨R.sub, R.hand, fun b o e _ => e, fun b _ h => h, fun i e h => by simp at h, fun i j p xs ys h => by simp at h⟩
/-- within a block: the names of good standing, in a frame of their own -/
theorem Rep.inner {F F' : Fx} {ρ g g' σ H H' S S'} (R : Rep F ρ g σ H S) (vs : List Nat) (sm : Same S S') (e : F'.c = F.c) (R' : Rep F' [] g' [] H' S') : Rep ⟨F'.c, H', S'⟩ (blkE ρ vs) g' (L2.wipe σ vs) H' S' := by
  have W := R.wipe vs
  have B := R'.sub_frame
  refine ⟨B.sub, B.hand, B.keep, B.stay, fun i en h => ?_, fun i j p xs ys h1 h2 h3 h4 => ?_⟩
  · unfold blkE at h
    rw [List.getElem?_map, Option.map_eq_some_iff] at h
    obtain ⟨e0, h1, h2⟩ := h
    obtain ⟨so, k1, k2⟩ := W.slots i e0 h1
    refine ⟨so, k1, ?_⟩
    subst h2
    cases e0 with
    | un => trivial
    | own xs => trivial
    | dt d => obtain ⟨v, q1, q2⟩ := k2; exact ⟨v, q1, by show Dn F'.c S' v d; rw [e]; exact q2.mono sm⟩
  · unfold blkE at h1
    rw [List.getElem?_map, Option.map_eq_some_iff] at h1
    obtain ⟨e0, _, h2⟩ := h1
    cases e0 <;> simp [hideE] at h2
def compD (gs : FG) (ft : FT) (fe : FE) : List D → List En → Gh → M (List D)
  | [], ρ, g => some (.ok [] g)
  | d :: ds, ρ, g => match gs d ρ with
    | none => none
    | some ρ1 => match ft ρ1 g with
      | some (.ok true g1) => match fe ρ1 g1 with
        | some (.ok y g2) => match compD gs ft fe ds ρ g2 with
          | some (.ok ys g3) => some (.ok (y :: ys) g3)
          | _ => none
        | _ => none
      | some (.ok false g1) => compD gs ft fe ds ρ g1
      | _ => none
@[simp] def tY : FT := fun _ g => some (.ok true g)
/-- the list of the block's values, a new one -/
@[simp] def cLc (fi : FI) (vs : List Nat) (gs : FG) (ft : FT) (fe : FE) : FE := fun ρ g => (fi ρ g).bd fun ds g1 => (compD gs ft fe ds (blkE ρ vs) g1).bd fun ys g2 => if ys.length ≤ 1000 then some (.ok (.lst ys) g2) else none
theorem Rep.write1 {F : Fx} {g H S} (R : Rep F [] g [] H S) {p : Addr} {o : HO} (h1 : S p = none) (h2 : F.HE p = none) (h3 : F.c.ah ≠ some p) : Rep F [] g [] (upd H p o) S :=
  ⟨fun b u e => by rw [upd_ne (ne_of_none e h1)]; exact R.sub _ _ e, R.hand.up1 h3, fun b u e h => by rw [upd_ne (ne_of_none e h2)]; exact R.keep b u e h, R.stay, fun i e h => by simp at h, fun i j p xs ys h => by simp at h⟩
theorem Rep.freeze1 {F : Fx} {g H S} (R : Rep F [] g [] H S) {p : Addr} {vs : List V} (h0 : H p = some (.lst vs)) (h1 : S p = none) (h2 : F.HE p = none) (h3 : F.c.ah ≠ some p) : Rep F [] g [] H (upd S p (.lst vs)) := by
  have sm : Same S (upd S p (.lst vs)) := Same.upd_new h1
  refine ⟨fun b o e => ?_, ?_, R.keep, fun b e h => ?_, fun i e h => by simp at h, fun i j p xs ys h => by simp at h⟩
  · by_cases hb : b = p
    · subst hb; rw [upd_same] at e; cases e; exact h0
    · rw [upd_ne hb] at e; exact R.sub _ _ e
  · have h := R.hand
    unfold HandAt at h ⊢
    cases ea : F.c.ah with
    | none => trivial
    | some a =>
      rw [ea] at h
      obtain ⟨k1, q, k2, k3⟩ := h
      have ne : a ≠ p := fun z => h3 (by rw [ea, z])
      exact ⟨by rw [upd_ne ne]; exact k1, q, k2, sm _ _ k3⟩
  · have ne : b ≠ p := fun z => e (by rw [z]; exact h2)
    rw [upd_ne ne]; exact R.stay b e h
/-- behind something that was run within the frame ⟨H, S⟩ -/
theorem Rep.behind {F : Fx} {g g' H H' S S'} (R : Rep F [] g [] H S) (sm : Same S S') (B : Rep ⟨F.c, H, S⟩ [] g' [] H' S') : Rep F [] g' [] H' S' := R.back sm B
theorem compD_cons {gs : FG} {ft : FT} {fe : FE} {d : D} {ds : List D} {ρ : List En} {g : Gh} {ys : List D} {g' : Gh} (h : compD gs ft fe (d :: ds) ρ g = some (.ok ys g')) :
    ∃ ρ1 b g1, gs d ρ = some ρ1 ∧ ft ρ1 g = some (.ok b g1) ∧ ((b = true ∧ ∃ y g2 zs, fe ρ1 g1 = some (.ok y g2) ∧ compD gs ft fe ds ρ g2 = some (.ok zs g') ∧ ys = y :: zs) ∨ (b = false ∧ compD gs ft fe ds ρ g1 = some (.ok ys g'))) := by
  unfold compD at h
  split at h
  · cases h
  rename_i ρ1 e1
  split at h
  · rename_i g1 e2
    split at h
    · rename_i y g2 e3
      split at h
      · rename_i zs g3 e4
        cases h
        exact ⟨ρ1, true, g1, e1, e2, .inl ⟨rfl, y, g2, zs, e3, e4, rfl⟩⟩
      · cases h
    · cases h
  · rename_i g1 e2
    exact ⟨ρ1, false, g1, e1, e2, .inr ⟨rfl, h⟩⟩
  · cases h
theorem compD_ok {gs : FG} {ft : FT} {fe : FE} : ∀ {ds : List D} {ρ : List En} {g : Gh} {o : Out (List D)}, compD gs ft fe ds ρ g = some o → ∃ ys g', o = .ok ys g'
  | [], ρ, g, o, h => by simp [compD] at h; exact ⟨_, _, h.symm⟩
  | d :: ds, ρ, g, o, h => by
    unfold compD at h
    split at h
    · cases h
    split at h
    · split at h
      · split at h
        · cases h; exact ⟨_, _, rfl⟩
        · cases h
      · cases h
    · exact compD_ok h
    · cases h
theorem re_lc {wi : TI} {fi : FI} {tg : TG} {gs : FG} {tt : TT} {ft : FT} {te : TE} {fe : FE} {vs : List Nat} (hi : @RG It (List D) rI c E wi fi) (hg : RTg c tg gs) (hw : TGw tg vs) (hm : TGm tg) (ht : RT c (fun _ => E0) tt ft) (he : RE c (fun _ => E0) te fe) : RE c E (tLc wi tg tt te vs) (cLc fi vs gs ft fe) := by
  refine RG.bind (rel := rI) (rel' := Dn) (r := fun σ J H1 (Q : VK) => ∀ D, H1 D = none → ∃ W : Nat → Nat → Hp → Prop, (∃ m, W 0 m (upd H1 D (.lst []))) ∧ ∀ i m H, W i m H →
    (J.stop i H ∧ Q (.ref D) H) ∨ (J.go i H ∧ ∃ Nx : Hp → Prop, (∀ H', Nx H' → ∃ m', m' < m ∧ W (i + 1) m' H') ∧ ∀ x H', J.yld i H x H' → tg x (wipe σ vs) H' fun σ2 H2 => wipe σ2 vs = wipe σ vs ∧ tt σ2 H2 fun b H3 =>
      if b = true then te σ2 H3 fun y H4 => ∃ acc, H4 D = some (.lst acc) ∧ acc.length < sizeLine ∧ Nx (upd H4 D (.lst (acc ++ [y]))) else Nx H3))
    (k := fun ρ ds g1 => (compD gs ft fe ds (blkE ρ vs) g1).bd fun ys g2 => if ys.length ≤ 1000 then some (.ok (.lst ys) g2) else none) hi fun F ρ g σ H S Q J ds e R hJ G => ?_
  intro p hp
  cases hc : compD gs ft fe ds (blkE ρ vs) g with
  | none => rw [hc] at G; exact G.elim
  | some o =>
  obtain ⟨ys, gE, rfl⟩ := compD_ok hc
  rw [hc] at G
  simp only [M.bd] at G
  by_cases hl : ys.length ≤ 1000
  case neg => rw [if_neg hl] at G; exact G.elim
  rw [if_pos hl] at G
  have pah : F.c.ah ≠ some p := R.new_ah hp
  have R0 := R.sub_frame
  let Pv : Nat → Hp → Prop := fun i H' => ∃ g' S' us zs rest, Same S S' ∧ Rep ⟨F.c, H, S⟩ [] g' [] H' S' ∧ H' p = some (.lst us) ∧ S' p = none ∧ Dns F.c S' us zs ∧ compD gs ft fe (ds.drop i) (blkE ρ vs) g' = some (.ok rest gE) ∧ zs ++ rest = ys
  refine ⟨fun i m H' => m = ds.length - i ∧ i ≤ ds.length ∧ Pv i H', ⟨ds.length, by simp, Nat.zero_le _, g, S, [], [], ys, Same.refl S, R0.write1 (R.sub.free hp) hp pah, upd_same, R.sub.free hp, .nil, hc, rfl⟩, ?_⟩
  rintro i m H' ⟨rfl, hi', g', S', us, zs, rest, sm, R', hD, hS, hz, hcr, hy⟩
  by_cases hlt : i < ds.length
  · refine .inr ?_
    rw [drop_of hlt] at hcr
    obtain ⟨ρ1, b, g1, e1, e2, alt⟩ := compD_cons hcr
    have RI := Rep.inner (F' := ⟨F.c, H, S⟩) R vs sm rfl R'
    obtain ⟨go, yl⟩ := hJ.go ⟨F.c, H', S'⟩ _ g' (wipe σ vs) H' S' i ds[i] e sm RI (List.getElem?_eq_getElem hlt)
    refine ⟨go, Pv (i + 1), fun H2 p' => ⟨ds.length - (i + 1), by omega, rfl, hlt, p'⟩, fun x H1 y => ?_⟩
    obtain ⟨S1, sm1, R1, hx⟩ := yl x H1 y
    have hgw := hw x (wipe σ vs) H1 (fun σ2 H2 => tt σ2 H2 fun b H3 =>
      if b = true then te σ2 H3 fun y H4 => ∃ acc, H4 p = some (.lst acc) ∧ acc.length < sizeLine ∧ Pv (i + 1) (upd H4 p (.lst (acc ++ [y]))) else Pv (i + 1) H3)
    have ww : wipe (wipe σ vs) vs = wipe σ vs := by
      apply List.ext_getElem?
      intro j
      rw [wipe_get, wipe_get, wipe_length]
      split <;> rfl
    refine hm.mono _ _ _ _ _ (fun σ2 H2 q => ⟨q.2.trans ww, q.1⟩) (hgw ?_)
    refine hg.run ⟨F.c, H', S'⟩ _ g' (wipe σ vs) H1 S1 x _ _ e R1 hx ?_
    rw [e1]
    intro σ2 R2
    refine ht.run ⟨F.c, H', S'⟩ _ g' σ2 H1 S1 _ e R2 ?_
    rw [e2]
    intro b' H3 S3 sm3 R3 hb
    have hb : b' = b := hb
    subst hb
    have keep : ∀ {ρx gx σx Hx Sx}, Rep ⟨F.c, H', S'⟩ ρx gx σx Hx Sx → Hx p = some (.lst us) ∧ Sx p = none := fun {ρx gx σx Hx Sx} Rx => ⟨Rx.keep p _ hD pah, Rx.stay p (by show H' p ≠ none; rw [hD]; simp) hS⟩
    rcases alt with ⟨rfl, y, g2, zs', e3, e4, rfl⟩ | ⟨rfl, e4⟩
    · rw [if_pos rfl]
      refine he.run ⟨F.c, H', S'⟩ _ g1 σ2 H3 S3 _ e R3 ?_
      rw [e3]
      intro y' H4 S4 sm4 R4 hy4
      obtain ⟨k1, k2⟩ := keep R4
      have sm' : Same S' S4 := sm1.trans (sm3.trans sm4)
      refine ⟨us, k1, ?_, g2, S4, us ++ [y'], zs ++ [y], zs', sm.trans sm', (Rep.behind R' sm' R4.bare).write1 k2 hp pah, upd_same, k2, (hz.mono sm').append (.cons hy4 .nil), e4, by rw [← hy]; simp⟩
      have : us.length ≤ ys.length := by rw [hz.length, ← hy]; simp
      exact small1000 (Nat.le_trans this hl)
    · rw [if_neg (by simp)]
      obtain ⟨k1, k2⟩ := keep R3
      have sm' : Same S' S3 := sm1.trans sm3
      exact ⟨g1, S3, us, zs, rest, sm.trans sm', Rep.behind R' sm' R3.bare, k1, k2, hz.mono sm', e4, hy⟩
  · have e1 : i = ds.length := by omega
    subst e1
    rw [List.drop_length] at hcr
    simp only [compD] at hcr
    cases hcr
    rw [List.append_nil] at hy
    subst hy
    refine .inl ⟨?_, ?_⟩
    · exact hJ.stop ⟨F.c, H, S⟩ _ _ [] H' S' e sm R'
    · have R2 := R'.freeze1 hD hS hp pah
      refine G (.ref p) H' _ (sm.trans (Same.upd_new hS)) (R.back (sm.trans (Same.upd_new hS)) R2) ?_
      exact .lst upd_same (hz.mono (Same.upd_new hS))
end
end FD
set_option Elab.async false
set_option linter.all false
set_option maxRecDepth 100000
set_option maxHeartbeats 2000000
namespace FD
open PySem L2
section
variable {X : Cx} {ah : Option Addr} {E : St → XK} {c : DC}
/-! ### one reading for all contexts of a block -/
theorem all_PE {ι : Type} {Y : ι → Cx} {e : Expr} {f : FE} (hc : ∀ i, dc (Y i) ah = c) (h : ∀ i, PF (Y i) ah E e f) : ∃ t, (∀ i, PE (Y i) e t) ∧ RE c E t f := by
  have h' : ∀ i, ∃ t, PE (Y i) e t ∧ RE c E t f := fun i => by
    obtain ⟨t, p, r⟩ := h i
    exact ⟨t, p, hc i ▸ r⟩
  by_cases hn : Nonempty ι
  · obtain ⟨i0⟩ := hn
    refine ⟨fun σ H Q => ∀ i, (h' i).choose σ H Q, fun i => ⟨fun pins s σ H Q I hw => (h' i).choose_spec.1.run pins s σ H Q I (hw i)⟩, ⟨fun F ρ g σ H S Q e R G i => ?_⟩⟩
    exact (h' i).choose_spec.2.run F ρ g σ H S Q e R G
  · exact ⟨fun _ _ _ => True, fun i => absurd ⟨i⟩ hn, ⟨fun _ _ _ _ _ _ _ _ _ _ => trivial⟩⟩
theorem all_PG {ι : Type} {Y : ι → Cx} {e : Expr} {f : FG} {vs : List Nat} (hc : ∀ i, dc (Y i) ah = c) (h : ∀ i, PFG (Y i) ah e f vs) : ∃ t, (∀ i, PG (Y i) e t) ∧ RTg c t f ∧ TGw t vs ∧ TGm t := by
  have h' : ∀ i, ∃ t, PG (Y i) e t ∧ RTg c t f ∧ TGw t vs ∧ TGm t := fun i => by
    obtain ⟨t, p, r, w, m⟩ := h i
    exact ⟨t, p, hc i ▸ r, w, m⟩
  refine ⟨fun v σ H Q => ∀ i, (h' i).choose v σ H Q, fun i => ⟨fun pins s σ H v u Q I r hw => (h' i).choose_spec.1.run pins s σ H v u Q I r (hw i)⟩, ⟨fun F ρ gh σ H S v d Q e R hv G i => ?_⟩, fun x σ H Q hw i => ?_, ⟨fun x σ H Q Q' hq hw i => ?_⟩⟩
  · exact (h' i).choose_spec.2.1.run F ρ gh σ H S v d Q e R hv G
  · exact (h' i).choose_spec.2.2.1 x σ H Q (hw i)
  · exact (h' i).choose_spec.2.2.2.mono x σ H Q Q' hq (hw i)
/-- a block's tests -/
def PFTs (X : Cx) (ah : Option Addr) (ifs : List Expr) (f : FT) : Prop := ∃ t, PTs X ifs t ∧ RT (dc X ah) (fun _ => E0) t f
theorem pfts_nil : PFTs X ah [] tY := ⟨_, pts_nil, ⟨fun F ρ g σ H S Q e R G => G.ret (b := true) R rfl⟩⟩
theorem pfts_one {e : Expr} {f : FT} (h : PFT X ah (fun _ => E0) e f) : PFTs X ah [e] f := by
  obtain ⟨t, p, r⟩ := h
  exact ⟨_, pts_one p, r⟩
theorem all_PTs {ι : Type} {Y : ι → Cx} {es : List Expr} {f : FT} (hc : ∀ i, dc (Y i) ah = c) (h : ∀ i, PFTs (Y i) ah es f) : ∃ t, (∀ i, PTs (Y i) es t) ∧ RT c (fun _ => E0) t f := by
  have h' : ∀ i, ∃ t, PTs (Y i) es t ∧ RT c (fun _ => E0) t f := fun i => by
    obtain ⟨t, p, r⟩ := h i
    exact ⟨t, p, hc i ▸ r⟩
  refine ⟨fun σ H Q => ∀ i, (h' i).choose σ H Q, fun i => ⟨fun pins s σ H Q I hw => (h' i).choose_spec.1.run pins s σ H Q I (hw i)⟩, ⟨fun F ρ g σ H S Q e R G i => ?_⟩⟩
  exact (h' i).choose_spec.2.run F ρ g σ H S Q e R G
abbrev BI := Shared × Hp × Addr × List (Str × Addr) × List Addr
abbrev bx (X : Cx) (scope : Scope) (i : BI) : Cx := X.blk i.1 i.2.1 scope (compEnvC scope i.2.2.2.1 i.2.2.1 X.env) i.2.2.2.2
/-- [e for x in xs if t] as a value -/
theorem pf_lc {elt tg iter : Expr} {ifs : List Expr} {scope : Scope} (own : List (Str × Nat)) {pos : Pos} {fi : FI} {gs : FG} {ft : FT} {fe : FE} (hN : X.N.Nodup) (hi : PFI X ah E tg iter fi)
    (hg : ∀ i : BI, PFG (bx X scope i) ah tg gs (own.map (·.2))) (ht : ∀ i : BI, PFTs (bx X scope i) ah ifs ft) (he : ∀ i : BI, PF (bx X scope i) ah (fun _ => E0) elt fe)
    (ok : BlkOk X.N X.env.scope scope own) (hc : X.calm = true := by rfl) (hs : ∀ x, foldedSetIterable iter X.env x = pure x := by intro _; rfl) :
    PF X ah E (.ListComp elt [⟨tg, iter, ifs, 0⟩] scope pos) (cLc fi (own.map (·.2)) gs ft fe) := by
  obtain ⟨t, p, r⟩ := hi
  obtain ⟨tg', pg, rg, wg, mg⟩ := all_PG (Y := bx X scope) (c := dc X ah) (fun _ => rfl) hg
  obtain ⟨tt, pt, rt⟩ := all_PTs (Y := bx X scope) (c := dc X ah) (fun _ => rfl) ht
  obtain ⟨te, pe, re⟩ := all_PE (Y := bx X scope) (c := dc X ah) (fun _ => rfl) he
  exact ⟨_, pe_lc hc hN p ok (fun s H C cl fp => pg (s, H, C, cl, fp)) (fun s H C cl fp => pt (s, H, C, cl, fp)) (fun s H C cl fp => pe (s, H, C, cl, fp)) hs, re_lc r rg wg mg rt re⟩
/-- y = [..] -/
theorem pfs_lc {E' : XK} (i : Nat) {y : Str} {py : Pos} {elt tg iter : Expr} {ifs : List Expr} {scope : Scope} (own : List (Str × Nat)) {pos spos : Pos} {fi : FI} {gs : FG} {ft : FT} {fe : FE} (hN : X.N.Nodup) (hi : PFI X ah (fun _ => E') tg iter fi)
    (hg : ∀ i : BI, PFG (bx X scope i) ah tg gs (own.map (·.2))) (ht : ∀ i : BI, PFTs (bx X scope i) ah ifs ft) (he : ∀ i : BI, PF (bx X scope i) ah (fun _ => E0) elt fe)
    (ok : BlkOk X.N X.env.scope scope own) (hsw : swapsWith (.ListComp elt [⟨tg, iter, ifs, 0⟩] scope pos) (some (.Name y py)) spos.line X.env = pure true)
    (hy : X.N[i]? = some y := by rfl) (hyl : X.env.scope.names.lookup y = some .local := by rfl) (hc : X.calm = true := by rfl) (hs : ∀ x, foldedSetIterable iter X.env x = pure x := by intro _; rfl) :
    PFS X ah E' (.Assign [.Name y py] (.ListComp elt [⟨tg, iter, ifs, 0⟩] scope pos) spos) (sAsg (cLc fi (own.map (·.2)) gs ft fe) (gN i)) := by
  obtain ⟨t, p, r⟩ := hi
  obtain ⟨tg', pg, rg, wg, mg⟩ := all_PG (Y := bx X scope) (c := dc X ah) (fun _ => rfl) hg
  obtain ⟨tt, pt, rt⟩ := all_PTs (Y := bx X scope) (c := dc X ah) (fun _ => rfl) ht
  obtain ⟨te, pe, re⟩ := all_PE (Y := bx X scope) (c := dc X ah) (fun _ => rfl) he
  exact ⟨_, ps_setLc hc hN hy hyl hsw p ok (fun s H C cl fp => pg (s, H, C, cl, fp)) (fun s H C cl fp => pt (s, H, C, cl, fp)) (fun s H C cl fp => pe (s, H, C, cl, fp)) hs, rs_asg (re_lc r rg wg mg rt re) (rt_name i)⟩

/-! ### calls of built-in things -/
def CallS (c : DC) (r : List V → Hp → VK → Prop) (op : List D → Option D) : Prop :=
  ∀ (E : XK) F ρ g σ H S Q vs ds, F.c = c → Rep F ρ g σ H S → Dns c S vs ds → Got Dn F ρ σ S E Q (lift (op ds) g) → r vs H Q
@[simp] def cCall (op : List D → Option D) (a : FA) : FE := fun ρ g => (a ρ g).bd fun xs g1 => lift (op xs) g1
theorem re_callB {r : List V → Hp → VK → Prop} {op : List D → Option D} {t : TA} {a : FA} (ho : CallS c r op) (ha : RA c E t a) : RE c E (tCB r t) (cCall op a) := by
  refine RG.bind (r := fun σ vs H1 (Q : VK) => r vs H1 Q) (k := fun ρ xs g1 => lift (op xs) g1) ha fun F ρ g σ H S Q x d e R hx G => ?_
  exact ho (E σ) F ρ g σ H S Q x d e R hx G
theorem pf_callB {x : Str} {id : String} {r : List V → Hp → VK → Prop} {op : List D → Option D} {e : Expr} {es : List Expr} {a : FA} {p pos : Pos} (hr : CallR X (.builtin id) r) (ho : CallS (dc X ah) r op) (hm : X.mg x = none) (hv : bootBuiltins x = some (.builtin id)) (ha : PFA X ah E (e :: es) a)
    (hg : Gl X x := by rfl) (hn : x ≠ "__name__" := by decide) (hdb : (x == ("__debug__" : Str)) = false := by decide)
    (he : starEach (e :: es) X.env = (false, eval e X.env) :: starEach es X.env := by rfl) (hpl : (backTo pos (starEach es X.env)).any (·.1) = false := by rfl) : PF X ah E (.Call (.Name x p) (e :: es) [] pos) (cCall op a) := by
  obtain ⟨t, q, s⟩ := ha
  exact ⟨_, pe_callB hr hg hm hv q hn hdb he hpl, re_callB ho s⟩
theorem pf_callTy {x : Str} {T : String} {r : List V → Hp → VK → Prop} {op : List D → Option D} {e : Expr} {es : List Expr} {a : FA} {p pos : Pos} (hr : CallR X (.type T) r) (ho : CallS (dc X ah) r op) (hm : X.mg x = none) (hv : bootBuiltins x = some (.type T)) (ha : PFA X ah E (e :: es) a)
    (hg : Gl X x := by rfl) (hn : x ≠ "__name__" := by decide) (hdb : (x == ("__debug__" : Str)) = false := by decide)
    (he : starEach (e :: es) X.env = (false, eval e X.env) :: starEach es X.env := by rfl) (hpl : (backTo pos (starEach es X.env)).any (·.1) = false := by rfl) : PF X ah E (.Call (.Name x p) (e :: es) [] pos) (cCall op a) := by
  obtain ⟨t, q, s⟩ := ha
  exact ⟨_, pe_callTy hr hg hm hv q hn hdb he hpl, re_callB ho s⟩

def lenD : List D → Option D
  | [.tup xs] => some (.int xs.length)
  | [.lst xs] => some (.int xs.length)
  | _ => none
abbrev rLenD (K : PySem.W.Frag) : List V → Hp → VK → Prop := fun xs H Q => ∃ p ys, xs = [.ref p] ∧ (SqL K H p ys ∨ SqT K H p ys) ∧ Q (.int ys.length) H
theorem cs_len : CallS c (rLenD c.K) lenD := by
  intro E F ρ g σ H S Q vs ds e R hx G
  subst e
  unfold lenD at G
  split at G
  · obtain ⟨v, rfl, hv⟩ := hx.one
    cases hv with
    | tup h hs => exact ⟨_, _, rfl, .inr (Same.tup R.sub h), by rw [hs.length]; exact G.ret R (.int _)⟩
  · obtain ⟨v, rfl, hv⟩ := hx.one
    cases hv with
    | lst h hs => exact ⟨_, _, rfl, .inl (SqL.of (R.sub _ _ h)), by rw [hs.length]; exact G.ret R (.int _)⟩
  · exact G.elim
theorem pf_len {e : Expr} {a : FA} {p pos : Pos} (hm : X.mg "len" = none) (ha : PFA X ah E [e] a) (hg : Gl X "len" := by rfl)
    (he : starEach [e] X.env = (false, eval e X.env) :: starEach [] X.env := by rfl) (hpl : (backTo pos (starEach [] X.env)).any (·.1) = false := by rfl) : PF X ah E (.Call (.Name "len" p) [e] [] pos) (cCall lenD a) := pf_callB call_len_seq cs_len hm PySem.boot_len ha hg (by decide) (by decide) he hpl
def tupleD : List D → Option D
  | [.tup xs] => some (.tup xs)
  | [.lst xs] => some (.tup xs)
  | _ => none
abbrev rTupleD (K : PySem.W.Frag) : List V → Hp → VK → Prop := fun xs H Q => ∃ p ys, xs = [.ref p] ∧ ((SqL K H p ys ∧ ∀ l, H l = none → Q (.ref l) (upd H l (.tup ys))) ∨ (SqT K H p ys ∧ Q (.ref p) H))
theorem cs_tuple : CallS c (rTupleD c.K) tupleD := by
  intro E F ρ g σ H S Q vs ds e R hx G
  subst e
  unfold tupleD at G
  split at G
  · obtain ⟨v, rfl, hv⟩ := hx.one
    cases hv with
    | tup h hs => exact ⟨_, _, rfl, .inr ⟨Same.tup R.sub h, G.ret R (.tup h hs)⟩⟩
  · obtain ⟨v, rfl, hv⟩ := hx.one
    cases hv with
    | lst h hs => exact ⟨_, _, rfl, .inl ⟨SqL.of (R.sub _ _ h), fun l hl => G.new R hl (.tup (SqT.of upd_same) (hs.mono (R.tosame _ hl)))⟩⟩
  · exact G.elim
def listD : List D → Option D
  | [.tup xs] => some (.lst xs)
  | [.lst xs] => some (.lst xs)
  | _ => none
abbrev rListD (K : PySem.W.Frag) : List V → Hp → VK → Prop := fun xs H Q => ∃ p ys, xs = [.ref p] ∧ (SqL K H p ys ∨ SqT K H p ys) ∧ ∀ l, H l = none → Q (.ref l) (upd H l (.lst ys))
theorem cs_list : CallS c (rListD c.K) listD := by
  intro E F ρ g σ H S Q vs ds e R hx G
  subst e
  unfold listD at G
  split at G
  · obtain ⟨v, rfl, hv⟩ := hx.one
    cases hv with
    | tup h hs => exact ⟨_, _, rfl, .inr (Same.tup R.sub h), fun l hl => G.new R hl (.lst upd_same (hs.mono (R.tosame _ hl)))⟩
  · obtain ⟨v, rfl, hv⟩ := hx.one
    cases hv with
    | lst h hs => exact ⟨_, _, rfl, .inl (SqL.of (R.sub _ _ h)), fun l hl => G.new R hl (.lst upd_same (hs.mono (R.tosame _ hl)))⟩
  · exact G.elim
def intOf : List D → Option D
  | [.int i] => some (.int i)
  | [.bl k] => some (.int (if k then 1 else 0))
  | _ => none
theorem cs_int : CallS c (fun xs H Q => (∃ i, xs = [.int i] ∧ Q (.int i) H) ∨ ∃ k, xs = [.bl k] ∧ Q (.int (if k then 1 else 0)) H) intOf := by
  intro E F ρ g σ H S Q vs ds e R hx G
  unfold intOf at G
  split at G
  · obtain ⟨v, rfl, hv⟩ := hx.one
    cases hv.intE
    exact .inl ⟨_, rfl, G.ret R (.int _)⟩
  · obtain ⟨v, rfl, hv⟩ := hx.one
    cases hv.blE
    exact .inr ⟨_, rfl, G.ret R (.int _)⟩
  · exact G.elim
/-- all of a list of flags -/
def flags : List D → Option (List Bool)
  | [] => some []
  | .bl b :: ds => (flags ds).map (b :: ·)
  | _ => none
theorem flags_of {S : Hp} : ∀ {vs : List V} {ds : List D} {bs : List Bool}, Dns c S vs ds → flags ds = some bs → vs = bs.map V.bl
  | _, _, _, .nil, e => by simp [flags] at e; subst e; rfl
  | _, _, _, .cons h hs, e => by
    cases h <;> simp only [flags] at e <;> try cases e
    rw [Option.map_eq_some_iff] at e
    obtain ⟨bs, e1, rfl⟩ := e
    rw [flags_of hs e1]; rfl
def allD : List D → Option D
  | [.lst ds] => (flags ds).map fun bs => .bl (bs.all id)
  | _ => none
def anyD : List D → Option D
  | [.lst ds] => (flags ds).map fun bs => .bl (bs.any id)
  | _ => none
theorem cs_all : CallS c (rAll c.K) allD := by
  intro E F ρ g σ H S Q vs ds e R hx G
  subst e
  unfold allD at G
  split at G
  · rename_i ds
    obtain ⟨v, rfl, hv⟩ := hx.one
    cases hv with
    | lst h hs =>
      cases q : flags ds with
      | none => rw [q] at G; exact G.elim
      | some bs =>
        rw [q] at G
        have := flags_of hs q
        subst this
        exact ⟨_, bs, rfl, SqL.of (R.sub _ _ h), G.ret R (.bl _)⟩
  · exact G.elim
theorem cs_any : CallS c (rAny c.K) anyD := by
  intro E F ρ g σ H S Q vs ds e R hx G
  subst e
  unfold anyD at G
  split at G
  · rename_i ds
    obtain ⟨v, rfl, hv⟩ := hx.one
    cases hv with
    | lst h hs =>
      cases q : flags ds with
      | none => rw [q] at G; exact G.elim
      | some bs =>
        rw [q] at G
        have := flags_of hs q
        subst this
        exact ⟨_, bs, rfl, SqL.of (R.sub _ _ h), G.ret R (.bl _)⟩
  · exact G.elim

/-! ### isinstance of a built-in type -/
/-- what is known of an own class whose things are told apart from the built-in ones -/
structure ClsI (K : PySem.W.Frag) (C : Addr) : Prop where
  cl : Cls K C
  ha : PySem.W.findIn K (.ref C) "__class__" = some (some (.builtin "object.__class__"))
  hn : PySem.W.specialIn K (.builtin "object.__class__") "__get__" = some (some (.builtin "getset_descriptor.__get__"))
  htk : PySem.W.takesIn K (.builtin "object.__class__") = some true
  hm : PySem.W.mroIn K C (.type "object") = some true
  no : ∀ t : String, (t = "int" ∨ t = "bool" ∨ t = "str" ∨ t = "tuple" ∨ t = "list") → PySem.W.kitOne K (.ref C) (.type t) = some false
def isTyB (t : String) : D → Bool
  | .non => false
  | .bl _ => t == "bool" || t == "int"
  | .int _ => t == "int"
  | .str _ => t == "str"
  | .tup _ => t == "tuple"
  | .lst _ => t == "list"
  | _ => false
def isTyD (t : String) : D → Option D
  | .hnd => none
  | .obj c _ _ => if c = "Play" then some (.bl false) else none
  | d => some (.bl (isTyB t d))
theorem kitB_all (t : String) (h : t = "int" ∨ t = "bool" ∨ t = "str" ∨ t = "tuple" ∨ t = "list") :
    kitB "NoneType" t = some false ∧ kitB "bool" t = some (t == "bool" || t == "int") ∧ kitB "int" t = some (t == "int") ∧ kitB "str" t = some (t == "str") ∧ kitB "tuple" t = some (t == "tuple") ∧ kitB "list" t = some (t == "list") ∧ kitB "dict" t = some false := by
  rcases h with rfl | rfl | rfl | rfl | rfl <;> decide +kernel
@[simp] def cIs (t : String) (a : FE) : FE := c1 (isTyD t) a
theorem re_isTy {t : String} {te : TE} {a : FE} (ht : t = "int" ∨ t = "bool" ∨ t = "str" ∨ t = "tuple" ∨ t = "list") (ho : ∀ C, c.mg "Play" = some (.ref C) → ClsI c.K C)
    (ha : RE c E te a) : RE c E (tCB (rIsi c.K) (tCons te (tCons (tC (.ty t)) tNil))) (cIs t a) := by
  refine RG.bind (r := fun σ x H1 (Q : VK) => rIsi c.K [x, .ty t] H1 Q) (k := fun ρ x g1 => lift (isTyD t x) g1) ha fun F ρ g σ H S Q x d e R hx G => ?_
  obtain ⟨k0, k1, k2, k3, k4, k5, k6⟩ := kitB_all t ht
  cases hx with
  | non => exact ⟨_, _, _, _, _, rfl, .ty t, .base .non, kit_ty k0, G.ret R (.bl _)⟩
  | bl b => exact ⟨_, _, _, _, _, rfl, .ty t, .base (.bl b), kit_ty k1, G.ret R (.bl _)⟩
  | int b => exact ⟨_, _, _, _, _, rfl, .ty t, .base (.int b), kit_ty k2, G.ret R (.bl _)⟩
  | str b => exact ⟨_, _, _, _, _, rfl, .ty t, .base (.str b), kit_ty k3, G.ret R (.bl _)⟩
  | tup h hs =>
    refine ⟨_, _, .type "tuple", _, _, rfl, .ty t, ?_, kit_ty k4, G.ret R (.bl _)⟩
    rcases Same.tup R.sub h with (h | ⟨o, h⟩) | ⟨o, its, n, h, hc, _⟩
    · exact .base (.tup h)
    · exact .fTuple h
    · exact .kTuple h hc
  | lst h hs => exact ⟨_, _, _, _, _, rfl, .ty t, .base (.lst (R.sub _ _ h)), kit_ty k5, G.ret R (.bl _)⟩
  | emp h => exact ⟨_, _, _, _, _, rfl, .ty t, .base (.dK (R.sub _ _ h)), kit_ty k6, G.ret R (.bl _)⟩
  | obj m h k hs =>
    simp only [isTyD] at G
    rename_i cn _ _ _
    by_cases hc : cn = "Play"
    case neg => rw [if_neg hc] at G; exact G.elim
    rw [if_pos hc] at G
    subst hc
    have ci := ho _ m
    exact ⟨_, _, _, _, _, rfl, .ty t, .base (.ins (R.sub _ _ h) ci.cl ci.ha ci.hn ci.htk ci.hm), ci.no t ht, G.ret R (.bl _)⟩
  | hnd h => exact G.elim
end
end FD
set_option Elab.async false
set_option linter.all false
set_option maxRecDepth 100000
set_option maxHeartbeats 2000000
namespace FD
open PySem L2 PyProof.Rows
section
variable {X : Cx} {ah : Option Addr} {E : L2.St → XK} {c : DC}
/-! ### isinstance(x, T) -/
theorem pf_is {t : String} {e : Expr} {a : FE} {p p2 pos : Pos} (ht : t = "int" ∨ t = "bool" ∨ t = "str" ∨ t = "tuple" ∨ t = "list") (ho : ∀ C, X.mg "Play" = some (.ref C) → ClsI X.K C) (hm : X.mg "isinstance" = none) (hm2 : X.mg (Str.ofString t) = none)
    (hv2 : bootBuiltins (Str.ofString t) = some (.type t)) (ha : PF X ah E e a) (hg : Gl X "isinstance" := by rfl) (hg2 : Gl X (Str.ofString t) := by rfl) (hn2 : Str.ofString t ≠ "__name__" := by decide +kernel) (hd2 : (Str.ofString t == ("__debug__" : Str)) = false := by decide +kernel)
    (he : starEach [e, .Name (Str.ofString t) p2] X.env = (false, eval e X.env) :: starEach [.Name (Str.ofString t) p2] X.env := by rfl) (he2 : starEach [.Name (Str.ofString t) p2] X.env = (false, eval (.Name (Str.ofString t) p2) X.env) :: starEach [] X.env := by rfl) (hpl : (backTo pos (starEach [.Name (Str.ofString t) p2] X.env)).any (·.1) = false := by rfl) :
    PF X ah E (.Call (.Name "isinstance" p) [e, .Name (Str.ofString t) p2] [] pos) (cIs t a) := by
  obtain ⟨u, q, s⟩ := ha
  refine ⟨_, pe_callB call_isi hg hm (by decide +kernel) (pa_cons q (pa_cons (pe_bltn (v := .ty t) hg2 hm2 hv2 rfl hn2 hd2) pa_nil he2) he) (by decide) (by decide) he hpl, ?_⟩
  exact re_isTy (c := dc X ah) ht ho s

/-! ### what a def promises: its value is Fn's -/
def spF (K : PySem.W.Frag) (mg : Str → Option Value) (n : Nat) (Fn : List D → Gh → M D) : Sp := fun vs H Q E => ∃ ah S g ds, ds.length = n ∧ Rep ⟨⟨K, mg, ah⟩, H, S⟩ [] g [] H S ∧ Dns ⟨K, mg, ah⟩ S vs ds ∧ Got Dn ⟨⟨K, mg, ah⟩, H, S⟩ [] [] S E Q (Fn ds g)
def DefOk (P : Program) (w : World) (K : PySem.W.Frag) (mg : Str → Option Value) (base : Heap) (CX : CXT) (x : Str) (k n : Nat) (Fn : List D → Gh → M D) : Prop :=
  ∃ f fd ps, FnOk P w K mg base CX k f fd ps (spF K mg n Fn) ∧ mg x = some (.ref f) ∧ PySem.W.keepIn K (.ref f) = true ∧ Binds K fd ps []
@[simp] def noX {α : Type} : M α → M α
  | some (.ok a g) => some (.ok a g)
  | _ => none
@[simp] def cFn (n : Nat) (Fn : List D → Gh → M D) (a : FA) : FE := fun ρ g => (a ρ g).bd fun xs g1 => if xs.length = n then noX (Fn xs g1) else none
theorem Got.frame {F : Fx} {ρ g σ H S} {Q : VK} {E : XK} {m : M D} (R : Rep F ρ g σ H S) (G : Got Dn F ρ σ S E Q m) : Got Dn ⟨F.c, H, S⟩ [] [] S E Q m := by
  cases m with
  | none => exact G
  | some o => cases o with
    | ok d g1 => exact fun b H' S' sm B h => G b H' S' sm (R.back sm B) h
    | ex cc ks ds g1 => exact fun A dd H' S' m sm B x => G A dd H' S' m sm (R.bare.back sm B) x
theorem Got.noX {F : Fx} {ρ σ S} {Q : VK} {E : XK} {m : M D} (G : Got Dn F ρ σ S E Q (noX m)) : Got Dn F ρ σ S E0 Q m := by
  cases m with
  | none => exact G
  | some o => cases o with
    | ok d g1 => exact G
    | ex cc ks ds g1 => exact G.elim
theorem re_fn {n : Nat} {Fn : List D → Gh → M D} {t : TA} {a : FA} (ha : RA c E t a) : RE c E (tCall (spF c.K c.mg n Fn) [] E0 t) (cFn n Fn a) := by
  refine RG.bind (r := fun σ vs H1 (Q : VK) => spF c.K c.mg n Fn (vs ++ []) H1 Q E0) (k := fun ρ xs g1 => if xs.length = n then FD.noX (Fn xs g1) else none) ha fun F ρ g σ H S Q vs ds e R hx G => ?_
  by_cases hl : ds.length = n
  case neg => rw [if_neg hl] at G; exact G.elim
  rw [if_pos hl] at G
  subst e
  exact ⟨F.c.ah, S, g, ds, hl, R.sub_frame, by rw [List.append_nil]; exact hx, Got.frame R G.noX⟩
theorem pf_call {x : Str} {k n : Nat} {Fn : List D → Gh → M D} {e : Expr} {es : List Expr} {a : FA} {p pos : Pos} (G : DefOk X.prog X.w X.K X.mg X.base CX0 x k n Fn) (hr : Room k X.A) (ha : PFA X ah E (e :: es) a) (hg : Gl X x := by rfl) (hdb : (x == ("__debug__" : Str)) = false := by decide)
    (he : starEach (e :: es) X.env = (false, eval e X.env) :: starEach es X.env := by rfl) (hpl : (backTo pos (starEach es X.env)).any (·.1) = false := by rfl) : PF X ah E (.Call (.Name x p) (e :: es) [] pos) (cFn n Fn a) := by
  obtain ⟨f, fd, ps, F, hm, hk, hb⟩ := G
  obtain ⟨t, q, s⟩ := ha
  exact ⟨_, pe_call F hr hg hm hk hb .nil pass0 q hdb he hpl, re_fn (c := dc X ah) s⟩
theorem DefOk.mono {P w K mg base CX x j k n Fn} (h : DefOk P w K mg base CX x j n Fn) (l : j ≤ k) : DefOk P w K mg base CX x k n Fn := by
  obtain ⟨f, fd, ps, F, r⟩ := h
  exact ⟨f, fd, ps, F.mono l, r⟩

end
section
variable {X : Cx} {ah : Option Addr} {E : XK} {c : DC}
/-- a body's value -/
def fnOf (N : Nat) (b : FS) (ds : List D) (g : Gh) : M D := match b (ds.map .dt ++ List.replicate (N - ds.length) .un) g with
  | some (.ok (.rt d) g1) => some (.ok d g1)
  | some (.ok (.nx _) g1) => some (.ok .non g1)
  | some (.ex c ks es g1) => some (.ex c ks es g1)
  | _ => none
theorem Rep.start {K : PySem.W.Frag} {mg : Str → Option Value} {ah : Option Addr} {H S : Hp} {g : Gh} {vs : List V} {ds : List D} {N : List Str} (R : Rep ⟨⟨K, mg, ah⟩, H, S⟩ [] g [] H S) (h : Dns ⟨K, mg, ah⟩ S vs ds) (hl : ds.length ≤ N.length) :
    Rep ⟨⟨K, mg, ah⟩, H, S⟩ (ds.map .dt ++ List.replicate (N.length - ds.length) .un) g (start N vs) H S := by
  have len := h.length
  refine R.forget (fun i e hi => ?_) fun i j p xs ys h1 => ?_
  · by_cases hlt : i < ds.length
    · rw [List.getElem?_append_left (by simpa using hlt), List.getElem?_map, Option.map_eq_some_iff] at hi
      obtain ⟨d, h1, rfl⟩ := hi
      obtain ⟨v, h2, h3⟩ := h.get h1
      refine ⟨some v, ?_, v, rfl, h3⟩
      unfold L2.start
      rw [List.getElem?_append_left (by simpa [len] using hlt), List.getElem?_map, h2]
      rfl
    · have hge : ds.length ≤ i := Nat.le_of_not_lt hlt
      rw [List.getElem?_append_right (by simpa using hge), List.length_map, List.getElem?_replicate] at hi
      split at hi
      · rename_i hr
        cases hi
        refine ⟨none, ?_, trivial⟩
        unfold L2.start
        rw [List.getElem?_append_right (by simpa [len] using hge), List.length_map, List.getElem?_replicate, len, if_pos hr]
      · cases hi
  · by_cases hlt : i < ds.length
    · rw [List.getElem?_append_left (by simpa using hlt), List.getElem?_map, Option.map_eq_some_iff] at h1
      obtain ⟨d, _, h2⟩ := h1
      cases h2
    · rw [List.getElem?_append_right (by simpa using Nat.le_of_not_lt hlt), List.getElem?_replicate] at h1
      split at h1 <;> cases h1
/-- a def of the text by its body's function -/
theorem fd_ok {P : Program} {w : World} {K : PySem.W.Frag} {mg : Str → Option Value} {base : Heap} {x qual : Str} {st : Stmt} {f : Addr} {fd : FuncData} {N ps : List Str} {k n : Nat} {b : FS} (F : Fun K x qual st f fd) (Sc : FnScope N ps (defScope st)) (hn : ps.length = n) (hN : n ≤ N.length)
    (hb : ∀ (cdv : Value) (A : Around) (outer : List Env) (s : Shared) (H : Hp) (E : XK) (ah : Option Addr), Room k (A.deeper (envOfC qual (defScope st) s.heap.objs.size f cdv)) → PFSs ((cxOf CX0 P w K mg base N qual (defScope st) f cdv A outer s H E).nox) ah E0 (defBody st) b) :
    FnOk P w K mg base CX0 (k + 1) f fd ps (spF K mg n fun ds g => noX (fnOf N.length b ds g)) := by
  refine F.ok Sc (fun vs H Q E h => ?_) (fun cdv A outer s H vs Q E hr h => ?_)
  · obtain ⟨ah, S, g, ds, hl, R, hv, G⟩ := h
    rw [hv.length, hl, hn]
  · obtain ⟨ah, S, g, ds, hl, R, hv, G⟩ := h
    obtain ⟨t, p, r⟩ := hb cdv A outer s H E ah hr
    refine ⟨t, p, r.run ⟨⟨K, mg, ah⟩, H, S⟩ _ g _ H S _ rfl (Rep.start R hv (by omega)) ?_⟩
    have G : Got Dn ⟨⟨K, mg, ah⟩, H, S⟩ [] [] S E Q (FD.noX (fnOf N.length b ds g)) := G
    unfold fnOf at G
    cases h : b (ds.map .dt ++ List.replicate (N.length - ds.length) .un) g with
    | none => rw [h] at G; exact G
    | some o => cases o with
      | ok fl g1 => cases fl with
        | nx ρ => rw [h] at G; exact fun σ' H' S' sm R' => G .non H' S' sm R'.bare .non
        | rt d => rw [h] at G; exact fun v H' S' sm R' hd => G v H' S' sm R' hd
        | bk ρ => rw [h] at G; exact G.elim
        | ct ρ => rw [h] at G; exact G.elim
      | ex cc ks es g1 => rw [h] at G; exact G.elim

/-! ### lists that a name alone holds -/
/-- x = [] -/
@[simp] def sOwn (i : Nat) : FS := fun ρ g => some (.ok (.nx (ρ.set i (.own []))) g)
theorem pfs_own0 (i : Nat) {x : Str} {pos pos' lpos : Pos} (hN : X.N.Nodup) (hi : X.N[i]? = some x := by rfl) (hx : Loc X.env.scope x := by first | exact Or.inl rfl | exact Or.inr rfl) (hs : swapsWith (.List [] lpos) (some (.Name x pos')) pos.line X.env = pure false := by rfl)
    (hf : X.fn x = true ∨ X.env.scope.names.lookup x = some .local := by first | exact .inl rfl | exact .inr rfl) : PFS X ah E (.Assign [.Name x pos'] (.List [] lpos) pos) (sOwn i) := by
  refine ⟨_, ps_set hN hi hx (pe_lst pa_nil) hs hf, ⟨fun F ρ g σ H S Z e R G => ?_⟩⟩
  exact ⟨Nat.zero_le _, fun p hp => G _ _ S (Same.refl S) (R.setOwn i hp .nil)⟩
/-- x.append(e) -/
@[simp] def sApp (i : Nat) (a : FE) : FS := fun ρ g => match ρ[i]? with
  | some (.own xs) => (a ρ g).bd fun y g1 => if xs.length ≤ 1000 then some (.ok (.nx (ρ.set i (.own (xs ++ [y])))) g1) else none
  | _ => none
theorem pfs_app (i : Nat) {x : Str} {e : Expr} {a : FE} {p1 p2 p3 pos : Pos} (ha : PF X ah (fun _ => E) e a) (hN : X.N[i]? = some x := by rfl) (hv : Vis X.env.scope x := by first | exact Or.inl rfl | exact Or.inr (Or.inl rfl) | exact Or.inr (Or.inr rfl)) (hd : (x == ("__debug__" : Str)) = false := by decide)
    (hcd : (x == ("__classdict__" : Str)) = false := by decide)
    (hbase : attributeBase (.Name x p1) "append" X.env (eval (.Name x p1) X.env) = eval (.Name x p1) X.env := by rfl)
    (hfew : ((backTo p3 (starEach [e] X.env)).all (fun x => !x.1) && (backToKw p3 (keywordEach [] X.env)).all (fun x => x.1.isSome)
      && decide ([e].length + ([] : List Keyword).length + (if ([] : List Keyword).isEmpty then 0 else 1) < 30)) = true := by rfl)
    (hline : (p2.endLine == p3.line) = true := by rfl) (hst : starEach [e] X.env = (false, eval e X.env) :: starEach [] X.env := by rfl) (hplain : (backTo p3 (starEach [] X.env)).any (·.1) = false := by rfl)
    (hs : swapsWith (.Call (.Attribute (.Name x p1) "append" p2) [e] [] p3) none pos.line X.env = pure false := by rfl) : PFS X ah E (.Expr (.Call (.Attribute (.Name x p1) "append" p2) [e] [] p3) pos) (sApp i a) := by
  obtain ⟨t, q, r⟩ := ha
  refine ⟨_, ps_expr (pe_bm PySem.F.plainAttrs_list PySem.F.slot_list_append PySem.F.type_list_append mt_append (pe_var hN hv hd hcd) (pa_cons q pa_nil hst) hbase hfew hline hst hplain) hs, ⟨fun F ρ g σ H S Z e R G => ?_⟩⟩
  simp only [sApp] at G
  split at G
  case h_2 => exact G.elim
  rename_i xs hi
  obtain ⟨so, h1, p, vs, rfl, h2, h3, h4, h5, h6⟩ := R.slots i _ hi
  refine ⟨.ref p, h1, .inl ⟨rfl, _, SqL.of h5⟩, ?_⟩
  refine r.stepS e R G fun H1 S1 g1 y d sm R1 hy G => ?_
  obtain ⟨so, k1, p', ws, k0, k2, k3, k4, k5, k6⟩ := R1.slots i _ hi
  rw [h1] at k1; cases k1; cases k0
  by_cases hl : xs.length ≤ 1000
  case neg => rw [if_neg hl] at G; exact G.elim
  rw [if_pos hl] at G
  exact ⟨p, ws, y, rfl, rfl, k5, by rw [k6.length]; exact small1000 hl, G _ _ S1 (Same.refl _) (R1.writeOwn hi h1 (k6.append (.cons (e ▸ hy) .nil)))⟩
/-- the list that slot i alone holds is data from now on -/
@[simp] def sFrz (i : Nat) (b : FS) : FS := fun ρ g => match ρ[i]? with
  | some (.own xs) => b (ρ.set i (.dt (.lst xs))) g
  | _ => none
theorem pfss_frz (i : Nat) {s : List Stmt} {b : FS} (h : PFSs X ah E s b) : PFSs X ah E s (sFrz i b) := by
  obtain ⟨t, p, r⟩ := h
  refine ⟨t, p, ⟨fun F ρ g σ H S Z e R G => ?_⟩⟩
  simp only [sFrz] at G
  split at G
  case h_2 => exact G.elim
  rename_i xs hi
  obtain ⟨S', sm, R'⟩ := R.freeze hi
  exact r.run F _ g σ H S' Z e R' (G.mono sm)

end
section
variable {X : Cx} {ah : Option Addr} {E : L2.St → XK} {c : DC}
/-! ### attributes -/
def fldD (f : Str) : D → Option D
  | .obj c ks ds => if c = "Play" then (ks.zip ds).lookup f else none
  | _ => none
theorem lookup_Dn {S : Hp} : ∀ {fs : List (Str × V)} {ks : List Str} {ds : List D} {f : Str} {d : D}, fs.map (·.1) = ks → Dns c S (fs.map (·.2)) ds → (ks.zip ds).lookup f = some d → ∃ v, fs.lookup f = some v ∧ Dn c S v d
  | [], _, _, f, d, rfl, h, e => by cases h; simp [List.lookup] at e
  | (k, v) :: fs, _, _, f, d, rfl, h, e => by
    cases h with
    | cons h hs =>
      simp only [List.map_cons, List.zip_cons_cons, List.lookup_cons] at e ⊢
      split at e
      · cases e
        exact ⟨v, by simp_all, h⟩
      · rename_i hk
        obtain ⟨w, h1, h2⟩ := lookup_Dn rfl hs e
        exact ⟨w, by simp_all, h2⟩
theorem pf_fld {f : Str} {e : Expr} {a : FE} {pos : Pos} (ho : ∀ C, X.mg "Play" = some (.ref C) → Cls X.K C ∧ NoAttr X.K C f) (ha : PF X ah E e a) (hb : attributeBase e f X.env (eval e X.env) = eval e X.env := by rfl) : PF X ah E (.Attribute e f pos) (c1 (fldD f) a) := by
  obtain ⟨t, p, r⟩ := ha
  refine ⟨_, pe_fld p hb, ?_⟩
  refine RG.bind (r := fun σ x H1 (Q : VK) => ∃ a C dx fs v, x = .ref a ∧ H1 a = some (.ins C dx fs) ∧ Cls X.K C ∧ NoAttr X.K C f ∧ fs.lookup f = some v ∧ Q v H1) (k := fun ρ x g1 => lift (fldD f x) g1) r fun F ρ g σ H S Q x d e R hx G => ?_
  cases hx with
  | obj m h k hs =>
    rename_i cn fs ks ds
    simp only [fldD] at G
    by_cases hc : cn = "Play"
    case neg => rw [if_neg hc] at G; exact G.elim
    rw [if_pos hc] at G
    subst hc
    cases q : (ks.zip ds).lookup f with
    | none => rw [q] at G; exact G.elim
    | some d =>
      rw [q] at G
      obtain ⟨v, h1, h2⟩ := lookup_Dn k hs q
      obtain ⟨c1, c2⟩ := ho _ m
      exact ⟨_, _, _, _, v, rfl, R.sub _ _ h, c1, c2, h1, G.ret R (e ▸ h2)⟩
  | _ => simp only [fldD, lift] at G; exact G.elim
end
end FD
set_option Elab.async false
set_option linter.all false
set_option maxRecDepth 100000
set_option maxHeartbeats 2000000
namespace FD
open PySem L2 PyProof.Rows
/-! ### own errors with one field -/
/-- __init__ of such an error, at the class C, keeping the field f -/
def spExI (C : Addr) (f : Str) : Sp := fun vs H Q _ => ∃ (a : Addr) (v : V), vs = [.ref a, v] ∧ H a = some (exo a C none) ∧ ∀ dx, H dx = none → dx ≠ a → Q .non (upd (upd H dx (exd dx [(f, v)])) a (exo a C (some dx)))
def ExcOk (P : Program) (w : World) (K : PySem.W.Frag) (mg : Str → Option Value) (base : Heap) (x f : Str) : Prop :=
  ∃ C fI fd ps, mg x = some (.ref C) ∧ OexC K C ∧ XfC K C ∧ PySem.W.findIn K (.ref C) f = some none ∧ PySem.W.findIn K (.ref C) "__init__" = some (some (.ref fI)) ∧ PySem.W.typeIn K (.ref fI) = some (.type "function") ∧ FnOk P w K mg base CX0 1 fI fd ps (spExI C f) ∧ Binds K fd ps [] ∧ PySem.W.exmOne K (.ref C) (.ref C) = some true
section
variable {X : Cx} {ah : Option Addr} {E : XK} {c : DC}
/-- self.f = p, the whole body -/
theorem exc_init {P : Program} {w : World} {K : PySem.W.Frag} {mg : Str → Option Value} {base : Heap} {qual f p : Str} {st : Stmt} {fI C : Addr} {fd : FuncData} {p1 p2 p3 p4 : Pos} (F : Fun K "__init__" qual st fI fd) (T : OexC K C) (hno : PySem.W.findIn K (.ref C) f = some none)
    (Sc : FnScope ["self", p] ["self", p] (defScope st)) (hb : defBody st = [.Assign [.Attribute (.Name "self" p1) f p2] (.Name p p3) p4]) (h1 : (defScope st).names.lookup ("self" : Str) = some .local) (h2 : (defScope st).names.lookup p = some .local)
    (hd : (p == ("__debug__" : Str)) = false) (hcd : (p == ("__classdict__" : Str)) = false) : FnOk P w K mg base CX0 1 fI fd ["self", p] (spExI C f) := by
  refine F.ok Sc (fun vs H Q E h => ?_) (fun cdv A outer s H vs Q E hr h => ?_)
  · obtain ⟨a, v, rfl, _⟩ := h
    rfl
  · obtain ⟨a, v, rfl, ha, k⟩ := h
    rw [hb]
    refine ⟨_, pss_one (ps_ost (pe_var (i := 0) rfl (.inl h1) (by decide) (by decide)) (pe_var (i := 1) rfl (.inl h2) hd hcd)), ?_⟩
    exact ⟨v, rfl, .ref a, rfl, a, C, rfl, T, hno, .inl ⟨ha, fun dx n ne => k dx n ne⟩⟩
theorem del_eq {H : Hp} {a dx : Addr} {f : Str} {v : V} {C : Addr} (ha : H a = none) (ne : dx ≠ a) : upd (del (upd (upd (upd H a (exo a C none)) dx (exd dx [(f, v)])) a (exo a C (some dx))) a) dx (.xd [(f, v)]) = upd H dx (.xd [(f, v)]) := by
  funext b
  by_cases hb : b = dx
  · subst hb; rw [upd_same, upd_same]
  · rw [upd_ne hb, upd_ne hb]
    by_cases hb2 : b = a
    · subst hb2; rw [del_same, ha]
    · rw [del_ne hb2, upd_ne hb2, upd_ne hb, upd_ne hb2]
/-- raise X(e) -/
@[simp] def sRaise (x f : Str) (a : FE) : FS := fun ρ g => (a ρ g).bd fun y g1 => some (.ex x [f] [y] g1)
theorem pfs_raise {x f : Str} {e : Expr} {a : FE} {p pos rpos : Pos} (hc : X.calm = true) (tk : Takes X (fun cls d _ H => E cls d H)) (G : ExcOk X.prog X.w X.K X.mg X.base x f) (hr : Room 2 X.A) (ha : PF X ah (fun _ => E) e a) (hg : Gl X x := by rfl) (hdb : (x == ("__debug__" : Str)) = false := by decide)
    (he : starEach (e :: []) X.env = (false, eval e X.env) :: starEach [] X.env := by rfl) (hpl : (backTo pos (starEach [] X.env)).any (·.1) = false := by rfl) : PFS X ah E (.Raise (some (.Call (.Name x p) [e] [] pos)) none rpos) (sRaise x f a) := by
  obtain ⟨C, fI, fd, ps, hm, T, _, _, iC, tI, F, hb, _⟩ := G
  obtain ⟨t, q, r⟩ := ha
  refine ⟨_, ps_raise hc tk (pmk_oex (p := p) (CX := CX0) T iC tI F hr hb .nil pass0 hg hm (pa_cons q pa_nil he) hdb he hpl), ⟨fun F ρ g σ H S Z e R G => ?_⟩⟩
  refine (show t σ H fun x H1 => ([x] : List V).length ≤ 1000 ∧ ∀ a, H1 a = none → spExI C f (.ref a :: ([x] ++ [])) (upd H1 a (exo a C none))
    (fun v H2 => v = .non ∧ ∃ (d : Addr) (fs : List (Str × V)), H2 a = some (exo a C (some d)) ∧ H2 d = some (exd d fs) ∧ H1 d = none ∧ E (.ref C) (some d) (upd (del H2 a) d (.xd fs))) (fun _ _ _ => False) from ?_)
  refine r.stepS e R G fun H1 S1 g1 v d sm R1 hv G => ?_
  refine ⟨by simp, fun a na => ⟨a, v, rfl, upd_same, fun dx n ne => ⟨rfl, dx, [(f, v)], ?_, ?_, ?_, ?_⟩⟩⟩
  · exact upd_same
  · rw [upd_ne ne, upd_same]
  · rw [upd_ne ne] at n; exact n
  · rw [upd_ne ne] at n
    rw [del_eq na ne]
    refine G C (some dx) _ (upd S1 dx (.xd [(f, v)])) (by rw [e]; exact hm) (R1.tosame _ n) (R1.bare.up _ n) ⟨[(f, v)], upd_same, rfl, .cons ?_ .nil⟩
    rw [e]
    exact hv.mono (R1.tosame _ n)
/-- a def of the text that may raise -/
theorem fd_okX {P : Program} {w : World} {K : PySem.W.Frag} {mg : Str → Option Value} {base : Heap} {x qual : Str} {st : Stmt} {f : Addr} {fd : FuncData} {N ps : List Str} {k n : Nat} {b : FS} (F : Fun K x qual st f fd) (Sc : FnScope N ps (defScope st)) (hn : ps.length = n) (hN : n ≤ N.length)
    (hb : ∀ (cdv : Value) (A : Around) (outer : List Env) (s : Shared) (H : Hp) (E : XK) (ah : Option Addr), Room k (A.deeper (envOfC qual (defScope st) s.heap.objs.size f cdv)) → PFSs (cxOf (L2.CX P w) P w K mg base N qual (defScope st) f cdv A outer s H E) ah E (defBody st) b) :
    FnOk P w K mg base (L2.CX P w) (k + 1) f fd ps (spF K mg n fun ds g => fnOf N.length b ds g) := by
  refine F.okX Sc (fun vs H Q E h => ?_) (fun cdv A outer s H vs Q E hr h => ?_)
  · obtain ⟨ah, S, g, ds, hl, R, hv, G⟩ := h
    rw [hv.length, hl, hn]
  · obtain ⟨ah, S, g, ds, hl, R, hv, G⟩ := h
    obtain ⟨t, p, r⟩ := hb cdv A outer s H E ah hr
    refine ⟨t, p, r.run ⟨⟨K, mg, ah⟩, H, S⟩ _ g _ H S _ rfl (Rep.start R hv (by omega)) ?_⟩
    have G : Got Dn ⟨⟨K, mg, ah⟩, H, S⟩ [] [] S E Q (fnOf N.length b ds g) := G
    unfold fnOf at G
    cases h : b (ds.map .dt ++ List.replicate (N.length - ds.length) .un) g with
    | none => rw [h] at G; exact G
    | some o => cases o with
      | ok fl g1 => cases fl with
        | nx ρ => rw [h] at G; exact fun σ' H' S' sm R' => G .non H' S' sm R'.bare .non
        | rt d => rw [h] at G; exact fun v H' S' sm R' hd => G v H' S' sm R' hd
        | bk ρ => rw [h] at G; exact G.elim
        | ct ρ => rw [h] at G; exact G.elim
      | ex cc ks es g1 => rw [h] at G; exact G
theorem passes0 {X : Cx} : Passes (L2.CX X.prog X.w) X E0 := fun _ _ _ _ _ _ _ ⟨_, _, _, _, _, _, _, _, _, _, _, _, h⟩ => h.elim
/-- a call of a def that may raise, where it does not -/
theorem pf_callN {E : L2.St → XK} {x : Str} {k n : Nat} {Fn : List D → Gh → M D} {e : Expr} {es : List Expr} {a : FA} {p pos : Pos} (G : DefOk X.prog X.w X.K X.mg X.base (L2.CX X.prog X.w) x k n Fn) (hr : Room k X.A) (ha : PFA X ah E (e :: es) a) (hg : Gl X x := by rfl) (hdb : (x == ("__debug__" : Str)) = false := by decide)
    (he : starEach (e :: es) X.env = (false, eval e X.env) :: starEach es X.env := by rfl) (hpl : (backTo pos (starEach es X.env)).any (·.1) = false := by rfl) : PF X ah E (.Call (.Name x p) (e :: es) [] pos) (cFn n Fn a) := by
  obtain ⟨f, fd, ps, F, hm, hk, hb⟩ := G
  obtain ⟨t, q, s⟩ := ha
  exact ⟨_, pe_call F hr hg hm hk hb .nil passes0 q hdb he hpl, re_fn (c := dc X ah) s⟩

/-! ### things of the class Play -/
/-- what its __init__ promises: Fn tells the thing, or the error -/
def spMk (K : PySem.W.Frag) (mg : Str → Option Value) (C : Addr) (n : Nat) (Fn : List D → Gh → M D) : Sp := fun vs H Q E => ∃ ah S g a dx vs' ds, vs = .ref a :: vs' ∧ ds.length = n ∧ H a = some (.ins C dx []) ∧ S a = none ∧ Rep ⟨⟨K, mg, ah⟩, H, S⟩ [] g [] H S ∧ Dns ⟨K, mg, ah⟩ S vs' ds ∧ ah ≠ some a ∧
  match Fn ds g with
  | none => False
  | some (.ok d g') => ∀ H' S' fs, Same S S' → H' a = some (.ins C dx fs) → S' a = none → Rep ⟨⟨K, mg, ah⟩, (fun b => if b = a then none else H b), S⟩ [] g' [] H' S' → (∃ c ks es, d = .obj c ks es ∧ mg c = some (.ref C) ∧ fs.map (·.1) = ks ∧ Dns ⟨K, mg, ah⟩ S' (fs.map (·.2)) es) → Q .non H'
  | some (.ex c ks es g') => GotX ⟨⟨K, mg, ah⟩, (fun b => if b = a then none else H b), S⟩ S E c ks es g'
def MkOk (P : Program) (w : World) (K : PySem.W.Frag) (mg : Str → Option Value) (base : Heap) (x : Str) (k n : Nat) (Fn : List D → Gh → M D) : Prop :=
  ∃ C f fd ps, FnOk P w K mg base (L2.CX P w) k f fd ps (spMk K mg C n Fn) ∧ mg x = some (.ref C) ∧ Mk K C f ∧ Binds K fd ps []
theorem re_mk {E : L2.St → XK} {C : Addr} {n : Nat} {Fn : List D → Gh → M D} {t : TA} {a : FA} (ha : RA c E t a) : RE c E (tMake C (spMk c.K c.mg C n Fn) [] E0 t) (cFn n Fn a) := by
  refine RG.bind (r := fun σ vs H1 (Q : VK) => ∀ x dx, H1 x = none → H1 dx = none → dx ≠ x →
    spMk c.K c.mg C n Fn (.ref x :: (vs ++ [])) (upd (upd H1 dx (.own x)) x (.ins C dx [])) (fun v H2 => v = .non ∧ Q (.ref x) H2) E0) (k := fun ρ xs g1 => if xs.length = n then FD.noX (Fn xs g1) else none) ha fun F ρ g σ H S Q vs ds e R hx G => ?_
  intro x dx nx ndx ne
  by_cases hl : ds.length = n
  case neg => rw [if_neg hl] at G; exact G.elim
  rw [if_pos hl] at G
  subst e
  have R0 := R.sub_frame
  have sx : S x = none := R.sub.free nx
  have sdx : S dx = none := R.sub.free ndx
  have nxa := R.new_ah nx
  have ndxa := R.new_ah ndx
  -- the heap with the new thing
  have R1 : Rep ⟨F.c, H, S⟩ [] g [] (upd (upd H dx (.own x)) x (.ins C dx [])) S := by
    refine (R0.write1 sdx ndx ndxa).write1 sx ?_ nxa
    exact nx
  refine ⟨F.c.ah, S, g, x, dx, vs, ds, by rw [List.append_nil], hl, upd_same, sx, ?_, hx, nxa, ?_⟩
  · exact R1.sub_frame
  · have back : ∀ {g' H' S'}, Same S S' → Rep ⟨F.c, (fun b => if b = x then none else upd (upd H dx (.own x)) x (.ins C dx []) b), S⟩ [] g' [] H' S' → Rep ⟨F.c, H, S⟩ [] g' [] H' S' := fun {g' H' S'} sm B => by
      refine ⟨B.sub, B.hand, fun b o h1 h2 => B.keep b o ?_ h2, fun b h1 h2 => B.stay b ?_ h2, fun i e h => by simp at h, fun i j p xs ys h => by simp at h⟩
      · have n1 : b ≠ x := ne_of_none h1 nx
        have n2 : b ≠ dx := ne_of_none h1 ndx
        show (if b = x then none else upd (upd H dx (.own x)) x (.ins C dx []) b) = some o
        rw [if_neg n1, upd_ne n1, upd_ne n2]; exact h1
      · have n1 : b ≠ x := fun z => h1 (by rw [z]; exact nx)
        have n2 : b ≠ dx := fun z => h1 (by rw [z]; exact ndx)
        show (if b = x then none else upd (upd H dx (.own x)) x (.ins C dx []) b) ≠ none
        rw [if_neg n1, upd_ne n1, upd_ne n2]; exact h1
    cases h : Fn ds g with
    | none => rw [h] at G; exact G
    | some o => cases o with
      | ex cc ks es g1 => rw [h] at G; exact G.elim
      | ok d g1 =>
        rw [h] at G
        intro H' S' fs sm hx' hs' B ⟨cn, ks, es, ed, hm, hk, hv⟩
        subst ed
        have B' := back sm B
        refine ⟨rfl, ?_⟩
        -- from now on the thing stands
        have B2 : Rep ⟨F.c, H, S⟩ [] g1 [] H' (upd S' x (.ins C dx fs)) := by
          have sm' : Same S' (upd S' x (.ins C dx fs)) := Same.upd_new hs'
          refine ⟨fun b o e => ?_, ?_, B'.keep, fun b e h => ?_, fun i e h => by simp at h, fun i j p xs ys h => by simp at h⟩
          · by_cases hb : b = x
            · subst hb; rw [upd_same] at e; cases e; exact hx'
            · rw [upd_ne hb] at e; exact B'.sub _ _ e
          · have h := B'.hand
            unfold HandAt at h ⊢
            cases ea : F.c.ah with
            | none => trivial
            | some a =>
              simp only [ea] at h
              obtain ⟨k1, q, k2, k3⟩ := h
              have ne : a ≠ x := fun z => nxa (by rw [ea, z])
              exact ⟨by rw [upd_ne ne]; exact k1, q, k2, sm' _ _ k3⟩
          · have n1 : b ≠ x := fun z => e (by rw [z]; exact nx)
            rw [upd_ne n1]; exact B'.stay b e h
        refine G (.ref x) H' _ (sm.trans (Same.upd_new hs')) (R.back (sm.trans (Same.upd_new hs')) B2) ?_
        exact .obj hm upd_same hk (hv.mono (Same.upd_new hs'))
theorem pf_mk {E : L2.St → XK} {x : Str} {k n : Nat} {Fn : List D → Gh → M D} {e : Expr} {es : List Expr} {a : FA} {p pos : Pos} (G : MkOk X.prog X.w X.K X.mg X.base x k n Fn) (hr : Room (k + 1) X.A) (ha : PFA X ah E (e :: es) a) (hg : Gl X x := by rfl) (hdb : (x == ("__debug__" : Str)) = false := by decide)
    (he : starEach (e :: es) X.env = (false, eval e X.env) :: starEach es X.env := by rfl) (hpl : (backTo pos (starEach es X.env)).any (·.1) = false := by rfl) : PF X ah E (.Call (.Name x p) (e :: es) [] pos) (cFn n Fn a) := by
  obtain ⟨C, f, fd, ps, F, hm, M, hb⟩ := G
  obtain ⟨t, q, s⟩ := ha
  exact ⟨_, pe_make M F hr hg hm hb .nil passes0 q hdb he hpl, re_mk (c := dc X ah) s⟩
end
end FD
set_option Elab.async false
set_option linter.all false
set_option maxRecDepth 100000
set_option maxHeartbeats 2000000
namespace FD
open PySem L2 PyProof.Rows
/-! ### the drawing hand -/
def handV (q : Addr) (g : Gh) : List V := [.ref q, .int g.i, .int g.c, .int g.r, .int g.n]
theorem Rep.hand_at {F : Fx} {ρ g σ H S} (R : Rep F ρ g σ H S) {a : Addr} (e : F.c.ah = some a) : ∃ q, H a = some (.lst (handV q g)) ∧ S q = some (.lst (g.xs.map V.int)) ∧ S a = none := by
  have h := R.hand
  unfold HandAt at h
  rw [e] at h
  obtain ⟨h1, q, h2, h3⟩ := h
  exact ⟨q, h2, h3, h1⟩
theorem Dns.ints {c : DC} {S : Hp} : ∀ xs : List Int, Dns c S (xs.map V.int) (xs.map D.int)
  | [] => .nil
  | x :: xs => .cons (.int x) (Dns.ints xs)
/-- the hand's things -/
def handD (k : Int) (g : Gh) : Option D :=
  if k = 0 then some (.lst (g.xs.map .int)) else if k = 1 then some (.int g.i) else if k = 2 then some (.int g.c) else if k = 3 then some (.int g.r) else if k = 4 then some (.int g.n) else none
@[simp] def cH (i : Nat) (k : Int) : FE := fun ρ g => match ρ[i]? with
  | some (.dt .hnd) => lift (handD k g) g
  | _ => none
section
variable {X : Cx} {ah : Option Addr} {c : DC}
theorem pf_h {E : L2.St → XK} (i : Nat) {k : Int} {x : Str} {p1 p2 pos : Pos} {j0} (hN : X.N[i]? = some x := by rfl) (hv : Vis X.env.scope x := by first | exact Or.inl rfl | exact Or.inr (Or.inl rfl) | exact Or.inr (Or.inr rfl)) (hd : (x == ("__debug__" : Str)) = false := by decide)
    (hcd : (x == ("__classdict__" : Str)) = false := by decide) (hs : PlainIx (.Constant (.int k) j0 p2) := by intro _ _; rfl) : PF X ah E (.Subscript (.Name x p1) (.Constant (.int k) j0 p2) pos) (cH i k) := by
  refine ⟨_, pe_ix ix_list (pe_var hN hv hd hcd) pe_int hs, ⟨fun F ρ g σ H S Q e R G => ?_⟩⟩
  simp only [cH] at G
  split at G
  case h_2 => exact G.elim
  rename_i hi
  obtain ⟨so, h1, v, rfl, hv⟩ := R.slots i _ hi
  cases hv with
  | hnd he =>
    rename_i a
    obtain ⟨q, hH, hS, hn⟩ := R.hand_at he
    unfold handD at G
    refine ⟨.ref a, h1, a, handV q g, k, ?_⟩
    by_cases k0 : k = 0
    · subst k0
      exact ⟨_, rfl, rfl, SqL.of hH, rfl, G.ret R (.lst hS (Dns.ints _))⟩
    rw [if_neg k0] at G
    by_cases k1 : k = 1
    · subst k1
      exact ⟨_, rfl, rfl, SqL.of hH, rfl, G.ret R (.int _)⟩
    rw [if_neg k1] at G
    by_cases k2 : k = 2
    · subst k2
      exact ⟨_, rfl, rfl, SqL.of hH, rfl, G.ret R (.int _)⟩
    rw [if_neg k2] at G
    by_cases k3 : k = 3
    · subst k3
      exact ⟨_, rfl, rfl, SqL.of hH, rfl, G.ret R (.int _)⟩
    rw [if_neg k3] at G
    by_cases k4 : k = 4
    · subst k4
      exact ⟨_, rfl, rfl, SqL.of hH, rfl, G.ret R (.int _)⟩
    rw [if_neg k4] at G
    exact G.elim
def handPut (k : Int) (v : Int) (g : Gh) : Option Gh :=
  if k = 1 then some { g with i := v } else if k = 2 then some { g with c := v } else if k = 3 then some { g with r := v } else if k = 4 then some { g with n := v } else none
theorem Rep.handWrite {F : Fx} {ρ g σ H S} (R : Rep F ρ g σ H S) {a q : Addr} {g' : Gh} (e : F.c.ah = some a) (hq : S q = some (.lst (g'.xs.map V.int))) : Rep F ρ g' σ (upd H a (.lst (handV q g'))) S := by
  obtain ⟨_, _, _, hn⟩ := R.hand_at e
  refine ⟨fun b o h => by rw [upd_ne (ne_of_none h hn)]; exact R.sub _ _ h, ?_, fun b o h1 h2 => ?_, R.stay, fun i en h => ?_, R.apart⟩
  · unfold HandAt
    rw [e]
    exact ⟨hn, q, upd_same, hq⟩
  · have ne : b ≠ a := fun z => h2 (by rw [e, z])
    rw [upd_ne ne]; exact R.keep b o h1 h2
  · obtain ⟨so, h1, h2⟩ := R.slots i en h
    refine ⟨so, h1, ?_⟩
    cases en with
    | un => trivial
    | dt d => exact h2
    | own ys =>
      obtain ⟨p, us, c1, c2, c3, c4, c5, c6⟩ := h2
      have ne : p ≠ a := fun z => c4 (by rw [e, z])
      exact ⟨p, us, c1, c2, c3, c4, by rw [upd_ne ne]; exact c5, c6⟩
@[simp] def sH (i : Nat) (k : Int) (a : FE) : FS := fun ρ g => match ρ[i]? with
  | some (.dt .hnd) => (a ρ g).bd fun y g1 => match y with
    | .int v => match handPut k v g1 with
      | some g2 => some (.ok (.nx ρ) g2)
      | none => none
    | _ => none
  | _ => none
theorem pfs_h {E : XK} (i : Nat) {k : Int} {x : Str} {e : Expr} {a : FE} {p1 p2 p3 pos : Pos} {j0} (ha : PF X ah (fun _ => E) e a) (hN : X.N[i]? = some x := by rfl) (hv : Vis X.env.scope x := by first | exact Or.inl rfl | exact Or.inr (Or.inl rfl) | exact Or.inr (Or.inr rfl)) (hd : (x == ("__debug__" : Str)) = false := by decide)
    (hcd : (x == ("__classdict__" : Str)) = false := by decide)
    (hsub : ∀ v, assign (.Subscript (.Name x p1) (.Constant (.int k) j0 p2) p3) X.env v = (do
      let ov ← holding [v] (eval (.Name x p1) X.env)
      let iv ← holding [v, ov] (eval (.Constant (.int k) j0 p2) X.env)
      standAt p3
      holding [v, ov, iv] (setItem ov iv v)
      release [v, ov, iv] []) := by intro _; rfl)
    (hs : swapsWithSole [.Subscript (.Name x p1) (.Constant (.int k) j0 p2) p3] e pos.line X.env = pure false := by rfl) (hw : swappedStores [.Subscript (.Name x p1) (.Constant (.int k) j0 p2) p3] e X.env = pure none := by rfl)
    (h1 : (assignEach [.Subscript (.Name x p1) (.Constant (.int k) j0 p2) p3] X.env).map (·.2) = [assign (.Subscript (.Name x p1) (.Constant (.int k) j0 p2) p3) X.env] := by rfl) :
    PFS X ah E (.Assign [.Subscript (.Name x p1) (.Constant (.int k) j0 p2) p3] e pos) (sH i k a) := by
  obtain ⟨t, q, r⟩ := ha
  refine ⟨_, ps_asg q (pg_sub (pe_var hN hv hd hcd) pe_int set_list hsub) hs hw h1, ⟨fun F ρ g σ H S Z e R G => ?_⟩⟩
  simp only [sH] at G
  split at G
  case h_2 => exact G.elim
  rename_i hi
  refine r.stepS e R G fun H1 S1 g1 y d sm R1 hy G => ?_
  split at G
  case h_2 => exact G.elim
  rename_i v
  cases hy.intE
  obtain ⟨so, h1, w, rfl, hw⟩ := R1.slots i _ hi
  cases hw with
  | hnd he =>
    rename_i a
    obtain ⟨q, hH, hS, hn⟩ := R1.hand_at he
    unfold handPut at G
    refine ⟨.ref a, h1, a, handV q g1, k, ?_⟩
    by_cases k1 : k = 1
    · subst k1
      exact ⟨1, rfl, rfl, hH, rfl, G _ _ S1 (Same.refl _) (R1.handWrite (g' := { g1 with i := v }) he hS)⟩
    rw [if_neg k1] at G
    by_cases k2 : k = 2
    · subst k2
      exact ⟨2, rfl, rfl, hH, rfl, G _ _ S1 (Same.refl _) (R1.handWrite (g' := { g1 with c := v }) he hS)⟩
    rw [if_neg k2] at G
    by_cases k3 : k = 3
    · subst k3
      exact ⟨3, rfl, rfl, hH, rfl, G _ _ S1 (Same.refl _) (R1.handWrite (g' := { g1 with r := v }) he hS)⟩
    rw [if_neg k3] at G
    by_cases k4 : k = 4
    · subst k4
      exact ⟨4, rfl, rfl, hH, rfl, G _ _ S1 (Same.refl _) (R1.handWrite (g' := { g1 with n := v }) he hS)⟩
    rw [if_neg k4] at G
    exact G.elim

/-! ### a list from a list of ints that is not tracked: _law_hand; and the law's first row -/
/-- what _law_hand promises -/
def spHand (K : PySem.W.Frag) : Sp := fun vs H Q _ => ∃ (a : Addr) (xs : List Int), vs = [.ref a] ∧ SqL K H a (xs.map V.int) ∧
  ∀ q, H q = none → ∀ p, upd H q (.lst (xs.map V.int)) p = none → Q (.ref p) (upd (upd H q (.lst (xs.map V.int))) p (.lst [.ref q, .int 0, .int 0, .int 1, .int 0]))
end
end FD
set_option Elab.async false
set_option linter.all false
set_option maxRecDepth 100000
set_option maxHeartbeats 4000000
namespace FD
open PySem L2 PyProof.Rows
section
variable {X : Cx} {ah : Option Addr} {E : L2.St → XK} {c : DC}
/-! ### a < b < c -/
@[simp] def cChain (o1 o2 : D → D → Option D) (a b cc : FE) : FE := fun ρ g => (a ρ g).bd fun x g1 => (b ρ g1).bd fun y g2 => match o1 x y with
  | some (.bl true) => (cc ρ g2).bd fun z g3 => lift (o2 y z) g3
  | some (.bl false) => some (.ok (.bl false) g2)
  | _ => none
/-- a rule whose answer is a flag and leaves all as it is -/
def FlagS (c : DC) (r : R2) (op : D → D → Option D) : Prop := ∀ S H x y dx dy, Same S H → Dn c S x dx → Dn c S y dy → ∀ d, op dx dy = some d → ∃ k, d = .bl k ∧ ∀ Q : VK, Q (.bl k) H → r x y H Q
theorem fs_int {p : Int → Int → Bool} : FlagS c (rI0 fun i j => .bl (p i j)) (intD fun i j => some (.bl (p i j))) := by
  intro S H x y dx dy sm hx hy d e
  cases hx with
  | int i =>
    cases hy with
    | int j =>
      simp only [intD] at e
      cases e
      exact ⟨p i j, rfl, fun Q q => ⟨i, j, rfl, rfl, q⟩⟩
    | _ => simp [intD] at e
  | _ => simp [intD] at e
theorem re_chain {r r' : R2} {o1 o2 : D → D → Option D} {ta tb tc : TE} {a b cc : FE} (h1 : FlagS c r o1) (h2 : OpS c r' o2) (ha : RE c E ta a) (hb : RE c E tb b) (hc : RE c E tc cc) : RE c E (tChain r r' ta tb tc) (cChain o1 o2 a b cc) := by
  refine RG.bind (r := fun σ x H1 (Q : VK) => tb σ H1 fun y H2 => r x y H2 fun z H3 => ∃ k, z = .bl k ∧ (if k = true then tc σ H3 fun w' H4 => r' y w' H4 Q else Q (.bl false) H3)) (k := fun ρ x g1 => (b ρ g1).bd fun y g2 => match o1 x y with
  | some (.bl true) => (cc ρ g2).bd fun z g3 => lift (o2 y z) g3
  | some (.bl false) => some (.ok (.bl false) g2)
  | _ => none) ha fun F ρ g σ H S Q x d e R hx G => ?_
  refine hb.step e R G fun H1 S1 g1 y dy sm R1 hy G => ?_
  split at G
  · rename_i e1
    obtain ⟨k, ek, hr⟩ := h1 S1 H1 x y d dy R1.sub (hx.mono sm) hy _ e1
    cases ek
    refine hr _ ⟨true, rfl, ?_⟩
    rw [if_pos rfl]
    refine hc.step e R1 G fun H2 S2 g2 z dz sm2 R2 hz G => ?_
    exact h2 (E σ) F ρ g2 σ H2 S2 Q y z dy dz e R2 (hy.mono sm2) hz G
  · rename_i e1
    obtain ⟨k, ek, hr⟩ := h1 S1 H1 x y d dy R1.sub (hx.mono sm) hy _ e1
    cases ek
    refine hr _ ⟨false, rfl, ?_⟩
    rw [if_neg (by simp)]
    exact G.ret R1 (.bl false)
  · exact G.elim
theorem pf_chain {op op' : CmpOp} {r r' : R2} {o1 o2 : D → D → Option D} {e1 e2 e3 : Expr} {a b cc : FE} {pos} (ho : OpR X (compareOp op) r) (ho' : OpR X (compareOp op') r') (h1 : FlagS (dc X ah) r o1) (h2 : OpS (dc X ah) r' o2) (ha : PF X ah E e1 a) (hb : PF X ah E e2 b) (hc : PF X ah E e3 cc)
    (hm : lastMarks [op, op'] [e2, e3] = false := by with_unfolding_all rfl) : PF X ah E (.Compare e1 [op, op'] [e2, e3] pos) (cChain o1 o2 a b cc) := by
  obtain ⟨t, p, r1⟩ := ha
  obtain ⟨u, q, r2⟩ := hb
  obtain ⟨v, q', r3⟩ := hc
  exact ⟨_, pe_chain ho ho' p q q' hm, re_chain h1 h2 r1 r2 r3⟩
theorem pft_chain {op op' : CmpOp} {r r' : R2} {o1 o2 : D → D → Option D} {e1 e2 e3 : Expr} {a b cc : FE} {pos} (ho : OpR X (compareOp op) r) (ho' : OpR X (compareOp op') r') (h1 : FlagS (dc X ah) r o1) (h2 : OpS (dc X ah) r' o2) (ha : PF X ah E e1 a) (hb : PF X ah E e2 b) (hc : PF X ah E e3 cc)
    (hm : lastMarks [op, op'] [e2, e3] = false := by with_unfolding_all rfl) : PFT X ah E (.Compare e1 [op, op'] [e2, e3] pos) (cT (cChain o1 o2 a b cc)) := by
  obtain ⟨t, p, r1⟩ := ha
  obtain ⟨u, q, r2⟩ := hb
  obtain ⟨v, q', r3⟩ := hc
  exact ⟨_, pt_chain ho ho' p q q' hm, rt_of (re_chain h1 h2 r1 r2 r3)⟩
/-! ### -a -/
def negD : D → Option D
  | .int i => some (.int (-i))
  | _ => none
theorem pf_neg {e : Expr} {a : FE} {pos} (ha : PF X ah E e a) : PF X ah E (.UnaryOp .USub e pos) (c1 negD a) := by
  obtain ⟨t, p, r⟩ := ha
  refine ⟨_, pe_un un_neg p, ?_⟩
  refine RG.bind (r := fun σ x H1 (Q : VK) => rU (fun i => .int (-i)) x H1 Q) (k := fun ρ x g1 => lift (negD x) g1) r fun F ρ g σ H S Q x d e R hx G => ?_
  cases hx <;> simp only [negD, lift] at G <;> first | exact G.elim | exact ⟨_, rfl, G.ret R (.int _)⟩
/-! ### a * b -/
abbrev rMulD (K : PySem.W.Frag) : R2 := R2.or (L2.rI CMul fun i j => .int (i * j)) (R2.or (rRepT K) rRep)
theorem op_mulD : OpR X (binaryOp .Mult) (rMulD X.K) := OpR.or op_mul (OpR.or op_repT op_rep)
theorem Dns.rep {S : Hp} {vs : List V} {ds : List D} (h : Dns c S vs ds) : ∀ n : Nat, Dns c S (List.replicate n vs).flatten (List.replicate n ds).flatten
  | 0 => .nil
  | n + 1 => by
    rw [List.replicate_succ, List.replicate_succ, List.flatten_cons, List.flatten_cons]
    exact h.append (Dns.rep h n)
theorem os_mul : OpS c (rMulD c.K) mulD := by
  intro E F ρ g σ H S Q x y dx dy e R hx hy G
  subst e
  cases hy with
  | int j =>
    cases hx with
    | int i =>
      simp only [mulD] at G
      by_cases h : small64 i ∨ small64 j
      · rw [if_pos h] at G
        exact .inl ⟨i, j, rfl, rfl, h, G.ret R (.int _)⟩
      · rw [if_neg h] at G; exact G.elim
    | tup h hs =>
      rename_i a vs ds
      simp only [mulD] at G
      by_cases hl : ds ≠ [] ∧ 2 ≤ j ∧ j ≤ 1000 ∧ ds.length ≤ 1000 ∧ ds.length * j.toNat ≤ 1000
      · rw [if_pos hl] at G
        refine .inr (.inl ⟨a, j, vs, rfl, rfl, Same.tup R.sub h, fun z => hl.1 ?_, hl.2.1, hl.2.2.1, by rw [hs.length]; exact hl.2.2.2.1, fun p hp => G.new R hp (.tup (SqT.of upd_same) ((hs.rep _).mono (R.tosame _ hp)))⟩)
        subst z; cases hs; rfl
      · rw [if_neg hl] at G; exact G.elim
    | lst h hs =>
      rename_i a vs ds
      simp only [mulD] at G
      by_cases hl : -(2 ^ 63) ≤ j ∧ j < 2 ^ 63 ∧ ds.length * j.toNat ≤ 1000
      · rw [if_pos hl] at G
        exact .inr (.inr ⟨a, j, vs, rfl, rfl, R.sub _ _ h, hl.1, hl.2.1, by rw [hs.length]; exact line_of hl.2.2, fun p hp => G.new R hp (.lst upd_same ((hs.rep _).mono (R.tosame _ hp)))⟩)
      · rw [if_neg hl] at G; exact G.elim
    | _ => simp only [mulD, lift] at G; exact G.elim
  | _ => cases dx <;> simp only [mulD, lift] at G <;> exact G.elim
/-! ### zip(a, b), both lists or both tuples -/
def zipD : List D → Option (List D)
  | [.lst xs, .lst ys] => some ((xs.zip ys).map fun p => .tup [p.1, p.2])
  | [.tup xs, .tup ys] => some ((xs.zip ys).map fun p => .tup [p.1, p.2])
  | _ => none
@[simp] def iZ (a : FA) : FI := fun ρ g => (a ρ g).bd fun xs g1 => lift (zipD xs) g1
theorem zip_at {xs ys : List D} {i : Nat} {d : D} (h : ((xs.zip ys).map fun p => D.tup [p.1, p.2])[i]? = some d) : ∃ x y, xs[i]? = some x ∧ ys[i]? = some y ∧ d = .tup [x, y] := by
  rw [List.getElem?_map, Option.map_eq_some_iff] at h
  obtain ⟨⟨x, y⟩, h1, rfl⟩ := h
  rw [List.getElem?_zip_eq_some] at h1
  exact ⟨x, y, h1.1, h1.2, rfl⟩
theorem zip_len {xs ys : List D} : ((xs.zip ys).map fun p => D.tup [p.1, p.2]).length = min xs.length ys.length := by simp
theorem pfi_zip {e e2 : Expr} {f : FA} {p pos tpos : Pos} {elts : List Expr} {kk : Nat} (hm : X.mg "zip" = none) (ha : PFA X ah E [e, e2] f) (hg : Gl X "zip" := by rfl)
    (hs : starEach [e, e2] X.env = (false, eval e X.env) :: starEach [e2] X.env := by rfl) (hpl : (backTo pos (starEach [e2] X.env)).any (·.1) = false := by rfl) : PFI X ah E (.Tuple elts kk tpos) (.Call (.Name "zip" p) [e, e2] [] pos) (iZ f) := by
  obtain ⟨t, q, r⟩ := ha
  refine ⟨_, RZ.pi_zipA hg hm q hs hpl, ?_⟩
  refine RG.bind (rel' := rI) (r := fun σ vs H1 (R : It → Hp → Prop) => ∃ a b xs ys, vs = [.ref a, .ref b] ∧ ((SqL X.K H1 a xs ∧ SqL X.K H1 b ys ∧ R (Itz X.K a b) H1) ∨ (SqT X.K H1 a xs ∧ SqT X.K H1 b ys ∧ R (RZ.ItzT X.K a b) H1))) (k := fun ρ xs g1 => lift (zipD xs) g1) r fun F ρ g σ H S Q x d e R hx G => ?_
  unfold zipD at G
  split at G
  · rename_i xs ys
    obtain ⟨v, w, rfl, hv, hw⟩ := hx.two
    cases hv with
    | lst h1 s1 =>
    cases hw with
    | lst h2 s2 =>
    rename_i a vs b ws
    refine ⟨a, b, vs, ws, rfl, .inl ⟨SqL.of (R.sub _ _ h1), SqL.of (R.sub _ _ h2), G.ret R ?_⟩⟩
    show WalkOf F.c _ _ _
    rw [e]
    refine ⟨fun F' ρ g σ H S1 e' sm R => ?_, fun F' ρ g σ H S1 i d e' sm R hd => ?_⟩
    · have a1 : SqL X.K H a vs := SqL.of (R.sub _ _ (sm _ _ h1))
      have a2 : SqL X.K H b ws := SqL.of (R.sub _ _ (sm _ _ h2))
      refine ⟨vs, ws, a1, a2, ?_⟩
      have := zip_len (xs := xs) (ys := ys)
      have l1 := s1.length
      have l2 := s2.length
      omega
    · obtain ⟨dx, dy, g1, g2, rfl⟩ := zip_at hd
      obtain ⟨vx, k1, n1⟩ := s1.get g1
      obtain ⟨vy, k2, n2⟩ := s2.get g2
      have a1 : SqL X.K H a vs := SqL.of (R.sub _ _ (sm _ _ h1))
      have a2 : SqL X.K H b ws := SqL.of (R.sub _ _ (sm _ _ h2))
      refine ⟨⟨vs, ws, vx, vy, a1, a2, k1, k2⟩, fun x H' y => ?_⟩
      obtain ⟨T, x', y', rfl, nT, rfl, f1, f2⟩ := y
      have := f1 vs a1
      rw [k1] at this; cases this
      have := f2 ws a2
      rw [k2] at this; cases this
      have st := R.tosame (.tup [vx, vy]) nT
      exact ⟨_, st, R.up _ nT, .tup (SqT.of upd_same) (.cons ((n1.mono sm).mono st) (.cons ((n2.mono sm).mono st) .nil))⟩
  · rename_i xs ys
    obtain ⟨v, w, rfl, hv, hw⟩ := hx.two
    cases hv with
    | tup h1 s1 =>
    cases hw with
    | tup h2 s2 =>
    rename_i a vs b ws
    refine ⟨a, b, vs, ws, rfl, .inr ⟨Same.tup R.sub h1, Same.tup R.sub h2, G.ret R ?_⟩⟩
    show WalkOf F.c _ _ _
    rw [e]
    refine ⟨fun F' ρ g σ H S1 e' sm R => ?_, fun F' ρ g σ H S1 i d e' sm R hd => ?_⟩
    · have a1 : SqT X.K H a vs := Same.tup R.sub (Same.tup sm h1)
      have a2 : SqT X.K H b ws := Same.tup R.sub (Same.tup sm h2)
      refine ⟨vs, ws, a1, a2, ?_⟩
      have := zip_len (xs := xs) (ys := ys)
      have l1 := s1.length
      have l2 := s2.length
      omega
    · obtain ⟨dx, dy, g1, g2, rfl⟩ := zip_at hd
      obtain ⟨vx, k1, n1⟩ := s1.get g1
      obtain ⟨vy, k2, n2⟩ := s2.get g2
      have a1 : SqT X.K H a vs := Same.tup R.sub (Same.tup sm h1)
      have a2 : SqT X.K H b ws := Same.tup R.sub (Same.tup sm h2)
      refine ⟨⟨vs, ws, vx, vy, a1, a2, k1, k2⟩, fun x H' y => ?_⟩
      obtain ⟨T, x', y', rfl, nT, rfl, f1, f2⟩ := y
      have := f1 vs a1
      rw [k1] at this; cases this
      have := f2 ws a2
      rw [k2] at this; cases this
      have st := R.tosame (.tup [vx, vy]) nT
      exact ⟨_, st, R.up _ nT, .tup (SqT.of upd_same) (.cons ((n1.mono sm).mono st) (.cons ((n2.mono sm).mono st) .nil))⟩
  · exact G.elim

/-! ### len(set(t)), sorted(set(t)) of a tuple of ints -/
def intsOf : List D → Option (List Int)
  | [] => some []
  | .int i :: ds => (intsOf ds).map (i :: ·)
  | _ => none
theorem intsOf_ok {S : Hp} : ∀ {vs : List V} {ds : List D} {ns : List Int}, Dns c S vs ds → intsOf ds = some ns → vs = ns.map V.int
  | _, _, _, .nil, e => by simp [intsOf] at e; subst e; rfl
  | _, _, _, .cons h hs, e => by
    cases h <;> simp only [intsOf] at e <;> try cases e
    rw [Option.map_eq_some_iff] at e
    obtain ⟨bs, e1, rfl⟩ := e
    rw [intsOf_ok hs e1]; rfl
/-- how many unlike ones -/
def unlike (ns : List Int) : Nat := ns.eraseDups.length
theorem eraseDups_nodup (ns : List Int) : ns.eraseDups.Nodup := by
  induction h : ns.length using Nat.strongRecOn generalizing ns with
  | ind n ih =>
    cases ns with
    | nil => simp
    | cons a as =>
      rw [List.eraseDups_cons, List.nodup_cons]
      refine ⟨fun hm => ?_, ih _ (by rw [← h]; exact Nat.lt_succ_of_le (List.length_filter_le _ _)) _ rfl⟩
      rw [List.mem_eraseDups] at hm
      simp at hm
theorem unlike_of {ns out : List Int} (nd : out.Nodup) (h : ∀ k, k ∈ out ↔ k ∈ ns) : out.length = unlike ns :=
  (List.perm_ext_iff_of_nodup nd (eraseDups_nodup ns)).mpr (fun k => by rw [h k, List.mem_eraseDups]) |>.length_eq
def tLenSetT (K : PySem.W.Frag) (ta : TE) : TE := fun σ H Q => ta σ H fun x H1 => ∃ (l : Addr) (ns : List Int), x = .ref l ∧ SqT K H1 l (ns.map V.int) ∧ ns.length ≤ 1000 ∧ Q (.int (unlike ns : Nat)) H1
theorem pe_lenSetT {a : Expr} {ta : TE} {p p2 q pos : Pos} (hg : Gl X "len") (hm : X.mg "len" = none) (hg2 : Gl X "set") (hm2 : X.mg "set" = none) (ha : PE X a ta) (hc : X.calm = true)
    (na : starEach [a] X.env = (false, eval a X.env) :: starEach [] X.env) : PE X (.Call (.Name "len" p) [.Call (.Name "set" p2) [a] [] q] [] pos) (tLenSetT X.K ta) := by
  refine ⟨fun pins s σ H Q I h => ?_⟩
  refine Call_ (ld_blt I hg hm boot_len ?_)
  refine PyProof.Rows.callWith_builtin1 (PyProof.Rows.args_cons ?_ rfl) rfl rfl
  refine Call_ (ld_blt I hg2 hm2 boot_set ?_)
  refine PyProof.Rows.callWith_type1 (PyProof.Rows.args_cons (thn (ha.run pins s σ H _ I h) fun v s1 ⟨x, H1, I1, r1, q1⟩ => PyProof.Rows.args_nil ?_) na) na rfl
  obtain ⟨l, ns, rfl, hq, hl, q1⟩ := q1
  cases r1
  obtain ⟨its, r, pl, hz⟩ := I1.tuple hq
  have hi : IntsAre its.toArray.toList ns := RZ.intsAre_vals (by simpa using r)
  refine call_set_tupI ns (I1.ok.hd hc) (show s1.heap.IsTuple l its.toArray from pl) hi (by unfold scanBound; omega) fun h' tk c R1 hcn k => ?_
  refine PyProof.Rows.args_nil ?_
  obtain ⟨o, es, ep, t, ho, hex, hd, g, nd, hm3, hb, hf, hn, hr, hl2⟩ := R1
  have I2 : Inv X pins σ H1 { s1 with heap := h', toks := tk } := I1.kept fun b o e => k b o e
  have hu : es.size = unlike ns := by
    have := unlike_of (ns := ns) nd fun j => by rw [← hm3 j, decide_eq_true_eq]
    rw [← this, List.length_map, Array.length_toList]
  exact call_len_set ho hex hd hf (by rw [hn]; omega) ⟨.int (unlike ns : Nat), H1, I2.tok _, ⟨_, by rw [← hu]⟩, q1⟩
def tSortSetT (K : PySem.W.Frag) (ta : TE) : TE := fun σ H Q => ta σ H fun x H1 => ∃ (l : Addr) (ns : List Int), x = .ref l ∧ SqT K H1 l (ns.map V.int) ∧ ns.length ≤ 60 ∧
  ∀ out : List Int, out.Pairwise (· < ·) → (∀ k, k ∈ out ↔ k ∈ ns) → ∀ p, H1 p = none → Q (.ref p) (upd H1 p (.lst (out.map V.int)))
theorem pe_sortSetT {a : Expr} {ta : TE} {p p2 q pos : Pos} (hg : Gl X "sorted") (hm : X.mg "sorted" = none) (hg2 : Gl X "set") (hm2 : X.mg "set" = none) (ha : PE X a ta) (hc : X.calm = true)
    (na : starEach [a] X.env = (false, eval a X.env) :: starEach [] X.env) : PE X (.Call (.Name "sorted" p) [.Call (.Name "set" p2) [a] [] q] [] pos) (tSortSetT X.K ta) := by
  refine ⟨fun pins s σ H Q I h => ?_⟩
  refine Call_ (ld_blt I hg hm (by decide +kernel : bootBuiltins "sorted" = some (.builtin "sorted")) ?_)
  refine PyProof.Rows.callWith_builtin1 (PyProof.Rows.args_cons ?_ rfl) rfl rfl
  refine Call_ (ld_blt I hg2 hm2 boot_set ?_)
  refine PyProof.Rows.callWith_type1 (PyProof.Rows.args_cons (thn (ha.run pins s σ H _ I h) fun v s1 ⟨x, H1, I1, r1, q1⟩ => PyProof.Rows.args_nil ?_) na) na rfl
  obtain ⟨l, ns, rfl, hq, hl, q1⟩ := q1
  cases r1
  obtain ⟨its, r, pl, hz⟩ := I1.tuple hq
  have hi : IntsAre its.toArray.toList ns := RZ.intsAre_vals (by simpa using r)
  refine call_set_tupI ns (I1.ok.hd hc) (show s1.heap.IsTuple l its.toArray from pl) hi (by unfold scanBound; omega) fun h' tk c R1 hcn k => ?_
  refine PyProof.Rows.args_nil ?_
  have I2 : Inv X pins σ H1 { s1 with heap := h', toks := tk } := I1.kept fun b o e => k b o e
  obtain ⟨s2, hs2⟩ : ∃ s2 : Shared, s2 = { s1 with heap := h', toks := tk } := ⟨_, rfl⟩
  have R2 : SetR X.w s2.heap s1.heap.objs.size (fun j => decide (j ∈ ns)) c := by rw [hs2]; exact R1
  rw [← hs2] at I2 ⊢
  refine sorted_set (s := s2) R2 (I1.ok.hd hc) (by omega : c < 64) fun s' p out c' ms k' g o hp hg' hi' hs hm' hl' => ?_
  have hlen : (ms.map V.int).length ≤ sizeLine := by rw [List.length_map, hl', sizeLine_eq]; omega
  have hn : H1 p = none := I2.hok.fresh hp
  have J : Inv X pins σ (upd H1 p (.lst (ms.map V.int))) { s2 with heap := s'.heap, gens := s'.gens, drawn := s'.drawn, toks := s'.toks } :=
    I2.call (ch := []) (Un.laid k' hp hn) (I2.hok.laid k' hp ⟨hlen, out.toList, c', vals_of_ints hi', hg'⟩) (by rw [g]; exact I2.bare) (fun _ z => nomatch z)
  have e : s' = { s2 with heap := s'.heap, gens := s'.gens, drawn := s'.drawn, toks := s'.toks } := by
    cases s'
    cases s2
    cases o
    rfl
  rw [e]
  exact ⟨.ref p, _, J, rfl, q1 ms hs (fun j => by rw [hm' j, decide_eq_true_eq]) p hn⟩
def lenSetD : D → Option D
  | .tup ds => (intsOf ds).bind fun ns => if ns.length ≤ 1000 then some (.int (unlike ns : Nat)) else none
  | _ => none
theorem pf_lenSet {e : Expr} {a : FE} {p p2 q pos : Pos} (hm : X.mg "len" = none) (hm2 : X.mg "set" = none) (ha : PF X ah E e a) (hg : Gl X "len" := by rfl) (hg2 : Gl X "set" := by rfl) (hc : X.calm = true := by rfl)
    (na : starEach [e] X.env = (false, eval e X.env) :: starEach [] X.env := by rfl) : PF X ah E (.Call (.Name "len" p) [.Call (.Name "set" p2) [e] [] q] [] pos) (c1 lenSetD a) := by
  obtain ⟨t, u, r⟩ := ha
  refine ⟨_, pe_lenSetT hg hm hg2 hm2 u hc na, ?_⟩
  refine RG.bind (r := fun σ x H1 (Q : VK) => ∃ (l : Addr) (ns : List Int), x = .ref l ∧ SqT X.K H1 l (ns.map V.int) ∧ ns.length ≤ 1000 ∧ Q (.int (unlike ns : Nat)) H1) (k := fun ρ x g1 => lift (lenSetD x) g1) r fun F ρ g σ H S Q x d e R hx G => ?_
  cases hx with
  | tup h hs =>
    simp only [lenSetD] at G
    rename_i ds
    cases qi : intsOf ds with
    | none => rw [qi] at G; exact G.elim
    | some ns =>
      rw [qi] at G
      have hv := intsOf_ok hs qi
      subst hv
      simp only [Option.bind_some] at G
      by_cases hl : ns.length ≤ 1000
      · rw [if_pos hl] at G
        exact ⟨_, ns, rfl, Same.tup R.sub h, hl, G.ret R (.int _)⟩
      · rw [if_neg hl] at G; exact G.elim
  | _ => simp only [lenSetD, lift] at G; exact G.elim
/-- the unlike ones, ascending -/
def sortSet (ns : List Int) : List Int := ns.eraseDups.mergeSort (fun a b => decide (a ≤ b))
theorem sortSet_of {ns out : List Int} (hs : out.Pairwise (· < ·)) (h : ∀ k, k ∈ out ↔ k ∈ ns) : out = sortSet ns := by
  have hp : out.Perm (sortSet ns) := (List.perm_ext_iff_of_nodup (hs.imp fun {a b} h => (by omega : a ≠ b)) ((eraseDups_nodup ns).perm (List.mergeSort_perm _ _).symm)).mpr fun k => by
    rw [h k]
    exact ((List.mergeSort_perm _ _).mem_iff.trans List.mem_eraseDups).symm
  have h3 := List.pairwise_mergeSort (le := fun a b : Int => decide (a ≤ b)) (fun a b c h1 h2 => by simp at *; omega) (fun a b => by simp; omega) ns.eraseDups
  exact List.Perm.eq_of_pairwise (le := fun a b : Int => a ≤ b) (fun a b _ _ h1 h2 => by omega) (hs.imp fun {a b} h => by omega) (h3.imp fun {a b} h => by simpa using h) hp
def sortSetD : D → Option D
  | .tup ds => (intsOf ds).bind fun ns => if ns.length ≤ 60 then some (.lst ((sortSet ns).map .int)) else none
  | _ => none
theorem pf_sortSet {e : Expr} {a : FE} {p p2 q pos : Pos} (hm : X.mg "sorted" = none) (hm2 : X.mg "set" = none) (ha : PF X ah E e a) (hg : Gl X "sorted" := by rfl) (hg2 : Gl X "set" := by rfl) (hc : X.calm = true := by rfl)
    (na : starEach [e] X.env = (false, eval e X.env) :: starEach [] X.env := by rfl) : PF X ah E (.Call (.Name "sorted" p) [.Call (.Name "set" p2) [e] [] q] [] pos) (c1 sortSetD a) := by
  obtain ⟨t, u, r⟩ := ha
  refine ⟨_, pe_sortSetT hg hm hg2 hm2 u hc na, ?_⟩
  refine RG.bind (r := fun σ x H1 (Q : VK) => ∃ (l : Addr) (ns : List Int), x = .ref l ∧ SqT X.K H1 l (ns.map V.int) ∧ ns.length ≤ 60 ∧
  ∀ out : List Int, out.Pairwise (· < ·) → (∀ k, k ∈ out ↔ k ∈ ns) → ∀ p, H1 p = none → Q (.ref p) (upd H1 p (.lst (out.map V.int)))) (k := fun ρ x g1 => lift (sortSetD x) g1) r fun F ρ g σ H S Q x d e R hx G => ?_
  cases hx with
  | tup h hs =>
    simp only [sortSetD] at G
    rename_i ds
    cases qi : intsOf ds with
    | none => rw [qi] at G; exact G.elim
    | some ns =>
      rw [qi] at G
      have hv := intsOf_ok hs qi
      subst hv
      simp only [Option.bind_some] at G
      by_cases hl : ns.length ≤ 60
      · rw [if_pos hl] at G
        refine ⟨_, ns, rfl, Same.tup R.sub h, hl, fun out h1 h2 p hp => ?_⟩
        have := sortSet_of h1 h2
        subst this
        exact G.new R hp (.lst upd_same (Dns.ints _))
      · rw [if_neg hl] at G; exact G.elim
  | _ => simp only [sortSetD, lift] at G; exact G.elim
end
end FD
set_option Elab.async false
set_option linter.all false
set_option maxRecDepth 100000
set_option maxHeartbeats 4000000
namespace FD
open PySem L2 PyProof.Rows
/-! ### try: .. except X as n: return (c, n.f) -/
/-- a block whose error is wished for at the slots of its start -/
structure RSw (c : DC) (E : L2.St → XK) (t : TS) (f : FS) : Prop where
  run : ∀ (F : Fx) (ρ : List En) (g : Gh) (σ : L2.St) (H S : Hp) (Z : Ends), F.c = c → Rep F ρ g σ H S → GotS F S (E σ) Z (f ρ g) → t Z σ H
def PFw (X : Cx) (ah : Option Addr) (E : L2.St → XK) (s : Stmt) (f : FS) : Prop := ∃ t, PS X s t ∧ RSw (dc X ah) E t f
def PFws (X : Cx) (ah : Option Addr) (E : L2.St → XK) (s : List Stmt) (f : FS) : Prop := ∃ t, PSs X s t ∧ RSw (dc X ah) E t f
section
variable {X : Cx} {ah : Option Addr} {E : L2.St → XK} {c : DC}
theorem GotS.noE {F : Fx} {S : Hp} {E : XK} {Z : Ends} {m : M Fl} (G : GotS F S E Z (noX m)) : GotS F S E0 Z m := by
  cases m with
  | none => exact G
  | some o => cases o with
    | ok fl g => cases fl <;> exact G
    | ex _ _ _ _ => exact G.elim
theorem RG.stepW {β α : Type} {rel : Rl β α} {t : TX β} {fa : List En → Gh → M α} (ha : RG rel c E t fa) {F : Fx} {ρ : List En} {g : Gh} {σ : L2.St} {H S : Hp} {Z : Ends} {k : α → Gh → M Fl} {r : β → Hp → Prop}
    (e : F.c = c) (R : Rep F ρ g σ H S) (G : GotS F S (E σ) Z ((fa ρ g).bd k)) (hk : ∀ H1 S1 g1 b a, Same S S1 → Rep F ρ g1 σ H1 S1 → rel c S1 b a → GotS F S1 (E σ) Z (k a g1) → r b H1) : t σ H r := by
  refine ha.run F ρ g σ H S _ e R ?_
  cases h : fa ρ g with
  | none => simp only [M.bd, h] at G; exact G
  | some o => cases o with
    | ok a g1 =>
      simp only [M.bd, h] at G
      exact fun b H1 S1 sm R1 rl => hk H1 S1 g1 b a sm R1 (e ▸ rl) (G.mono sm)
    | ex cc ks ds g1 => simp only [M.bd, h] at G; exact G
theorem pfw_set (i : Nat) {x : Str} {e : Expr} {a : FE} {pos' pos : Pos} (hN : X.N.Nodup) (ha : PF X ah E e a) (hi : X.N[i]? = some x := by rfl) (hx : Loc X.env.scope x := by first | exact Or.inl rfl | exact Or.inr rfl) (hs : swapsWith e (some (.Name x pos')) pos.line X.env = pure false := by rfl)
    (hf : X.fn x = true ∨ X.env.scope.names.lookup x = some .local := by first | exact .inl rfl | exact .inr rfl) : PFw X ah E (.Assign [.Name x pos'] e pos) (sAsg a (gN i)) := by
  obtain ⟨t, p, r⟩ := ha
  refine ⟨_, ps_set hN hi hx p hs hf, ⟨fun F ρ g σ H S Z e R G => ?_⟩⟩
  exact r.stepW e R G fun H1 S1 g1 y d sm R1 hy G => G _ H1 S1 (Same.refl _) (R1.set i (e ▸ hy))
theorem pfw_ret {e : Expr} {a : FE} {pos : Pos} (ha : PF X ah E e a) : PFw X ah E (.Return (some e) pos) (sRet a) := by
  obtain ⟨t, p, r⟩ := ha
  refine ⟨_, ps_ret p, ⟨fun F ρ g σ H S Z e R G => ?_⟩⟩
  exact r.stepW e R G fun H1 S1 g1 y d sm R1 hy G => G y H1 S1 (Same.refl _) R1.bare (e ▸ hy)
theorem pfw_expr {e : Expr} {a : FE} {pos : Pos} (ha : PF X ah E e a) (hs : swapsWith e none pos.line X.env = pure false := by rfl) : PFw X ah E (.Expr e pos) (sDrop a) := by
  obtain ⟨t, p, r⟩ := ha
  refine ⟨_, ps_expr p hs, ⟨fun F ρ g σ H S Z e R G => ?_⟩⟩
  exact r.stepW e R G fun H1 S1 g1 y d sm R1 hy G => G σ H1 S1 (Same.refl _) R1
@[simp] def sNoX (b : FS) : FS := fun ρ g => noX (b ρ g)
theorem pfws_cons {s : Stmt} {rest : List Stmt} {a b : FS} (ha : PFw X ah E s a) (hb : PFSs X ah E0 rest b) : PFws X ah E (s :: rest) (sSeq a (sNoX b)) := by
  obtain ⟨t, p, r⟩ := ha
  obtain ⟨u, q, s⟩ := hb
  refine ⟨_, pss_cons p q, ⟨fun F ρ g σ H S Z e R G => r.run F ρ g σ H S _ e R ?_⟩⟩
  unfold sSeq at G
  cases h : a ρ g with
  | none => rw [h] at G; exact G
  | some o => cases o with
    | ok f g1 => cases f with
      | nx ρ1 => rw [h] at G; exact fun σ' H' S' sm R' => s.run F ρ1 g1 σ' H' S' Z e R' (GotS.mono (GotS.noE G) sm)
      | bk ρ1 => rw [h] at G; exact G
      | ct ρ1 => rw [h] at G; exact G
      | rt d => rw [h] at G; exact G
    | ex cc ks ds g1 => rw [h] at G; exact G
theorem pfws_one {s : Stmt} {a : FS} (ha : PFw X ah E s a) : PFws X ah E [s] a := by
  obtain ⟨t, p, r⟩ := ha
  exact ⟨_, pss_one p, r⟩
/-- a call of a def that may raise, wished for -/
theorem Got.frameW {F : Fx} {ρ g σ H S} {Q : VK} {E : XK} {m : M D} (R : Rep F ρ g σ H S) (G : Got Dn F ρ σ S E Q m) : Got Dn ⟨F.c, H, S⟩ [] [] S E Q m := Got.frame R G
@[simp] def cFnX (n : Nat) (Fn : List D → Gh → M D) (a : FA) : FE := fun ρ g => (a ρ g).bd fun xs g1 => if xs.length = n then Fn xs g1 else none
theorem pf_callX {W : WX} {x : Str} {k n : Nat} {Fn : List D → Gh → M D} {e : Expr} {es : List Expr} {a : FA} {p pos : Pos} (tk : Takes X W) (G : DefOk X.prog X.w X.K X.mg X.base (L2.CX X.prog X.w) x k n Fn) (hr : Room k X.A) (ha : PFA X ah (WE W) (e :: es) a) (hg : Gl X x := by rfl) (hdb : (x == ("__debug__" : Str)) = false := by decide)
    (he : starEach (e :: es) X.env = (false, eval e X.env) :: starEach es X.env := by rfl) (hpl : (backTo pos (starEach es X.env)).any (·.1) = false := by rfl) : PF X ah (WE W) (.Call (.Name x p) (e :: es) [] pos) (cFnX n Fn a) := by
  obtain ⟨f, fd, ps, F, hm, hk, hb⟩ := G
  obtain ⟨t, q, s⟩ := ha
  refine ⟨_, pe_callS F hr hg hm hk hb (fun σ => passAt tk σ) q hdb he hpl, ?_⟩
  refine RG.bind (r := fun σ vs H1 (Q : VK) => spF X.K X.mg n Fn vs H1 Q (WE W σ)) (k := fun ρ xs g1 => if xs.length = n then Fn xs g1 else none) s fun F ρ g σ H S Q vs ds e R hx G => ?_
  by_cases hl : ds.length = n
  case neg => rw [if_neg hl] at G; exact G.elim
  rw [if_pos hl] at G
  have eK : F.c = dc X ah := e
  refine ⟨ah, S, g, ds, hl, ?_, hx, ?_⟩
  · have := R.sub_frame; rw [eK] at this; exact this
  · have := Got.frame R G; rw [eK] at this; exact this
/-- making a thing by an __init__ that may raise, wished for -/
def tMakeS (C : Addr) (sp : Sp) (E : L2.St → XK) (t : TA) : TE := fun σ H Q => t σ H fun vs H1 => ∀ x dx, H1 x = none → H1 dx = none → dx ≠ x →
  sp (.ref x :: vs) (upd (upd H1 dx (.own x)) x (.ins C dx [])) (fun v H2 => v = .non ∧ Q (.ref x) H2) (E σ)
theorem pe_makeS {CX : CXT} {k : Nat} {f C : Addr} {fd : FuncData} {ps : List Str} {sp : Sp} {x : Str} {p pos : Pos} {e : Expr} {es : List Expr} {t : TA} (M : Mk X.K C f) (F : FnOk X.prog X.w X.K X.mg X.base CX k f fd ps sp) (hr : Room (k + 1) X.A) (hg : Gl X x) (hm : X.mg x = some (.ref C)) (hb : Binds X.K fd ps []) (hx : ∀ σ, PassesAt CX X σ (E σ))
    (ha : PA X (e :: es) t) (hdb : (x == ("__debug__" : Str)) = false := by decide) (he : starEach (e :: es) X.env = (false, eval e X.env) :: starEach es X.env := by rfl) (hpl : (backTo pos (starEach es X.env)).any (·.1) = false := by rfl) :
    PE X (.Call (.Name x p) (e :: es) [] pos) (tMakeS C sp E t) := by
  refine ⟨fun pins s σ H Q I h => ?_⟩
  refine wpAny_Call_Name_kw (ld_glob I hg hm ?_ hdb)
  refine PySem.W.callWith_K (h₀ := X.base) I.ok.mod.kin M.kp (thn (ha.run pos pins s σ H _ I h) fun us s1 ⟨vs, H1, I, r, h⟩ => ⟨I.kIn, ?_⟩) he hpl
  have hq := h (s1.heap.objs.size + 1) s1.heap.objs.size (I.hok.fresh (Nat.le_succ _)) (I.hok.fresh (Nat.le_refl _)) (Nat.ne_of_lt (Nat.lt_succ_self _))
  have I2 := Inv.made (C := C) I
  have r2 : Vals (V.ref (s1.heap.objs.size + 1) :: vs) (Value.ref (s1.heap.objs.size + 1) :: us) := .cons rfl r
  have hl : (Value.ref (s1.heap.objs.size + 1) :: us ++ []).length = ps.length := by
    have e := r2.length
    rw [F.len _ _ _ _ hq] at e
    simpa using e.symm
  have hbb := hb _ (Value.ref (s1.heap.objs.size + 1) :: us) I2.kIn hl
  rw [List.append_nil] at hbb
  refine wpAny_call (make_map (f := f) I.kIn M.makes M.init (beq_iff_eq.mp M.fn) (codeAny_mono (F.run _ X.stack _ _ ⟨Value.ref (s1.heap.objs.size + 1) :: us, []⟩ (Value.ref (s1.heap.objs.size + 1) :: us) _ _ (E σ) (hr.make C us [])
    (I2.env0.make C us []) hbb r2 hq) fun r s' hq' => ?_))
  cases r with
  | error e => exact hx σ pins _ _ e s' I2 hq'
  | ok fl =>
    cases fl with
    | ret u =>
      obtain ⟨v, H', I3, rv, ev, q3⟩ := I2.after hq'
      subst ev
      exact ⟨rv, ⟨V.ref (s1.heap.objs.size + 1), H', I3, rfl, q3⟩⟩
    | next => exact False.elim hq'
    | brk => exact False.elim hq'
    | cont => exact False.elim hq'
theorem re_mkW {C : Addr} {n : Nat} {Fn : List D → Gh → M D} {t : TA} {a : FA} (ha : RA c E t a) : RE c E (tMakeS C (spMk c.K c.mg C n Fn) E t) (cFnX n Fn a) := by
  refine RG.bind (r := fun σ vs H1 (Q : VK) => ∀ x dx, H1 x = none → H1 dx = none → dx ≠ x →
    spMk c.K c.mg C n Fn (.ref x :: vs) (upd (upd H1 dx (.own x)) x (.ins C dx [])) (fun v H2 => v = .non ∧ Q (.ref x) H2) (E σ)) (k := fun ρ xs g1 => if xs.length = n then Fn xs g1 else none) ha fun F ρ g σ H S Q vs ds e R hx G => ?_
  intro x dx nx ndx ne
  by_cases hl : ds.length = n
  case neg => rw [if_neg hl] at G; exact G.elim
  rw [if_pos hl] at G
  subst e
  have R0 := R.sub_frame
  have sx : S x = none := R.sub.free nx
  have sdx : S dx = none := R.sub.free ndx
  have nxa := R.new_ah nx
  have ndxa := R.new_ah ndx
  -- the heap with the new thing
  have R1 : Rep ⟨F.c, H, S⟩ [] g [] (upd (upd H dx (.own x)) x (.ins C dx [])) S := by
    refine (R0.write1 sdx ndx ndxa).write1 sx ?_ nxa
    exact nx
  refine ⟨F.c.ah, S, g, x, dx, vs, ds, rfl, hl, upd_same, sx, ?_, hx, nxa, ?_⟩
  · exact R1.sub_frame
  · have back : ∀ {g' H' S'}, Same S S' → Rep ⟨F.c, (fun b => if b = x then none else upd (upd H dx (.own x)) x (.ins C dx []) b), S⟩ [] g' [] H' S' → Rep ⟨F.c, H, S⟩ [] g' [] H' S' := fun {g' H' S'} sm B => by
      refine ⟨B.sub, B.hand, fun b o h1 h2 => B.keep b o ?_ h2, fun b h1 h2 => B.stay b ?_ h2, fun i e h => by simp at h, fun i j p xs ys h => by simp at h⟩
      · have n1 : b ≠ x := ne_of_none h1 nx
        have n2 : b ≠ dx := ne_of_none h1 ndx
        show (if b = x then none else upd (upd H dx (.own x)) x (.ins C dx []) b) = some o
        rw [if_neg n1, upd_ne n1, upd_ne n2]; exact h1
      · have n1 : b ≠ x := fun z => h1 (by rw [z]; exact nx)
        have n2 : b ≠ dx := fun z => h1 (by rw [z]; exact ndx)
        show (if b = x then none else upd (upd H dx (.own x)) x (.ins C dx []) b) ≠ none
        rw [if_neg n1, upd_ne n1, upd_ne n2]; exact h1
    cases h : Fn ds g with
    | none => rw [h] at G; exact G
    | some o => cases o with
      | ex cc ks es g1 => rw [h] at G; exact fun A dd H' S' m sm B z => G A dd H' S' m sm (R.bare.back sm (back sm B)) z
      | ok d g1 =>
        rw [h] at G
        intro H' S' fs sm hx' hs' B ⟨cn, ks, es, ed, hm, hk, hv⟩
        subst ed
        have B' := back sm B
        refine ⟨rfl, ?_⟩
        -- from now on the thing stands
        have B2 : Rep ⟨F.c, H, S⟩ [] g1 [] H' (upd S' x (.ins C dx fs)) := by
          have sm' : Same S' (upd S' x (.ins C dx fs)) := Same.upd_new hs'
          refine ⟨fun b o e => ?_, ?_, B'.keep, fun b e h => ?_, fun i e h => by simp at h, fun i j p xs ys h => by simp at h⟩
          · by_cases hb : b = x
            · subst hb; rw [upd_same] at e; cases e; exact hx'
            · rw [upd_ne hb] at e; exact B'.sub _ _ e
          · have h := B'.hand
            unfold HandAt at h ⊢
            cases ea : F.c.ah with
            | none => trivial
            | some a =>
              simp only [ea] at h
              obtain ⟨k1, q, k2, k3⟩ := h
              have ne : a ≠ x := fun z => nxa (by rw [ea, z])
              exact ⟨by rw [upd_ne ne]; exact k1, q, k2, sm' _ _ k3⟩
          · have n1 : b ≠ x := fun z => e (by rw [z]; exact nx)
            rw [upd_ne n1]; exact B'.stay b e h
        refine G (.ref x) H' _ (sm.trans (Same.upd_new hs')) (R.back (sm.trans (Same.upd_new hs')) B2) ?_
        exact .obj hm upd_same hk (hv.mono (Same.upd_new hs'))
theorem pf_mkX {W : WX} {x : Str} {k n : Nat} {Fn : List D → Gh → M D} {e : Expr} {es : List Expr} {a : FA} {p pos : Pos} (tk : Takes X W) (G : MkOk X.prog X.w X.K X.mg X.base x k n Fn) (hr : Room (k + 1) X.A) (ha : PFA X ah (WE W) (e :: es) a) (hg : Gl X x := by rfl) (hdb : (x == ("__debug__" : Str)) = false := by decide)
    (he : starEach (e :: es) X.env = (false, eval e X.env) :: starEach es X.env := by rfl) (hpl : (backTo pos (starEach es X.env)).any (·.1) = false := by rfl) : PF X ah (WE W) (.Call (.Name x p) (e :: es) [] pos) (cFnX n Fn a) := by
  obtain ⟨C, f, fd, ps, F, hm, M, hb⟩ := G
  obtain ⟨t, q, s⟩ := ha
  exact ⟨_, pe_makeS M F hr hg hm hb (fun σ => passAt tk σ) q hdb he hpl, re_mkW (c := dc X ah) s⟩

/-- the suite: return (c, n.f) -/
theorem choose_ws {W : WX} {body : List Stmt} {fb : FS} (h : ∀ (pn : List (Addr × Obj)) (xe : Value → Shared → Prop), Takes (X.tr pn xe) W → PassesOwn (model X.prog X.w) X.A X.env xe → PFws (X.tr pn xe) ah (WE W) body fb) :
    ∃ tb : TS, (∀ pn xe, Takes (X.tr pn xe) W → PassesOwn (model X.prog X.w) X.A X.env xe → PSs (X.tr pn xe) body tb) ∧ RSw (dc X ah) (WE W) tb fb := by
  refine ⟨fun Z σ H => ∀ pn xe (h1 : Takes (X.tr pn xe) W) (h2 : PassesOwn (model X.prog X.w) X.A X.env xe), (h pn xe h1 h2).choose Z σ H, fun pn xe h1 h2 => ⟨fun pins s σ H Z I hw => (h pn xe h1 h2).choose_spec.1.run pins s σ H Z I (hw pn xe h1 h2)⟩, ⟨fun F ρ g σ H S Z e R G pn xe h1 h2 => ?_⟩⟩
  exact (h pn xe h1 h2).choose_spec.2.run F ρ g σ H S Z e R G
@[simp] def sTry1 (fb : FS) (x f : Str) (i : Nat) (e0 : D) : FS := fun ρ g => match fb ρ g with
  | some (.ex c ks ds g1) => if c = x ∧ (ρ[i]?).isSome = true then match (ks.zip ds).lookup f with
    | some d => some (.ok (.rt (.tup [e0, d])) g1)
    | none => none
    else none
  | m => m
theorem pfs_try1 {E : XK} (i : Nat) {x n f : Str} {body : List Stmt} {fb : FS} {s0 : Str} {j0 : _} {np pn1 pa pt pr p0 pos pos' : Pos} {kk : Nat} (hN : X.N.Nodup) (G : ExcOk X.prog X.w X.K X.mg X.base x f)
    (hbody : ∀ (W : WX) (pn : List (Addr × Obj)) (xe : Value → Shared → Prop), Takes (X.tr pn xe) W → PassesOwn (model X.prog X.w) X.A X.env xe → PFws (X.tr pn xe) ah (WE W) body fb)
    (hs : X.stack = X.env :: X.outer := by rfl) (hf : X.env.frame = some X.env.locals := by rfl) (hi : X.N[i]? = some n := by rfl) (hln : X.env.kindOf n = some .local := by rfl) (hg : Gl X x := by rfl) (hdb : (x == ("__debug__" : Str)) = false := by decide)
    (hd : (n == ("__debug__" : Str)) = false := by decide) (hcd : (n == ("__classdict__" : Str)) = false := by decide) (hv : Vis X.env.scope n := by first | exact Or.inl rfl | exact Or.inr (Or.inl rfl) | exact Or.inr (Or.inr rfl))
    (hat : attributeBase (.Name n pn1) f X.env (eval (.Name n pn1) X.env) = eval (.Name n pn1) X.env := by rfl)
    (he1 : starEach [.Constant (.str s0) j0 p0, .Attribute (.Name n pn1) f pa] X.env = (false, eval (.Constant (.str s0) j0 p0) X.env) :: starEach [.Attribute (.Name n pn1) f pa] X.env := by rfl)
    (he2 : starEach [.Attribute (.Name n pn1) f pa] X.env = (false, eval (.Attribute (.Name n pn1) f pa) X.env) :: starEach [] X.env := by rfl) :
    PFS X ah E (.Try body [.ExceptHandler (some (.Name x np)) (some n) [.Return (some (.Tuple [.Constant (.str s0) j0 p0, .Attribute (.Name n pn1) f pa] kk pt)) pr] pos'] [] [] pos) (sTry1 fb x f i (.str s0)) := by
  obtain ⟨C, fI, fd, ps, hm, T, xf, hno, iC, tI, FI, hb, te⟩ := G
  have ch := fun W => choose_ws (X := X) (ah := ah) (W := W) (hbody W)
  refine ⟨_, ps_try_as (i := i) (c := .ref C) (tb := fun W => (ch W).choose) (ts := fun a cls d => tRet (tTup (tCons (tC (.str s0)) (tCons (tXf a cls d C f (tVar i)) tNil)))) (Wout := fun _ _ _ _ => False) hs hf hN hi hln ⟨hg, hdb, .inl hm⟩ takes0 (fun W pn xe tk hp => (ch W).choose_spec.1 pn xe tk hp)
    (fun a oe cls d pn hz hof => pss_one (ps_ret (pe_tup (pa_cons pe_str (pa_cons (pe_xf xf hno hz hof (pe_var hi hv hd hcd) hat) pa_nil he2) he1)))), ⟨fun F ρ g σ H S Z e R G => ?_⟩⟩
  refine (ch _).choose_spec.2.run F ρ g σ H S Z e R ?_
  simp only [sTry1] at G
  cases h : fb ρ g with
  | none => rw [h] at G; exact G
  | some o => cases o with
    | ok fl g1 => rw [h] at G; cases fl <;> exact G
    | ex cc ks ds g1 =>
      rw [h] at G
      dsimp only at G
      by_cases hc : cc = x ∧ (ρ[i]?).isSome = true
      case neg => rw [if_neg hc] at G; exact G.elim
      rw [if_pos hc] at G
      obtain ⟨rfl, hsome⟩ := hc
      cases q : (ks.zip ds).lookup f with
      | none => rw [q] at G; exact G.elim
      | some d =>
        rw [q] at G
        intro A dd H' S' hA sm R' hx
        have hA' : A = C := by
          rw [e] at hA
          have : some (Value.ref A) = some (Value.ref C) := hA.symm.trans hm
          injection this with this
          injection this
        subst hA'
        refine ⟨true, te, fun _ a na => ?_, fun z => by cases z⟩
        obtain ⟨fs, h1, h2, h3⟩ := hx
        have hne : fs ≠ [] := fun z => by
          subst z
          cases h3
          subst h2
          simp at q
        cases dd with
        | none => exact absurd h1 hne
        | some dx =>
          obtain ⟨v, k1, k2⟩ := lookup_Dn h2 h3 q
          have hi' : i < σ.length := by
            obtain ⟨en, hen⟩ := Option.isSome_iff_exists.mp hsome
            obtain ⟨so, k, _⟩ := R.slots i en hen
            exact (List.getElem?_eq_some_iff.mp k).1
          refine ⟨.ref a, by rw [List.getElem?_set_self hi'], rfl, rfl, dx, fs, v, rfl, R'.sub _ _ h1, k1, ?_⟩
          refine ⟨line_of (by simp), fun p hp => ?_⟩
          refine G (.ref p) _ (upd S' p (.tup [.str s0, v])) (sm.trans (R'.tosame _ hp)) (R'.up _ hp) ?_
          exact .tup (SqT.of upd_same) (.cons (.str s0) (.cons (k2.mono (R'.tosame _ hp)) .nil))
end
end FD
set_option Elab.async false
set_option linter.all false
set_option maxRecDepth 100000
set_option maxHeartbeats 4000000
namespace FD
open PySem L2 PyProof.Rows
section
variable {X : Cx} {ah : Option Addr} {E : L2.St → XK} {c : DC}
/-! ### is True, is False -/
theorem is_bool_gen {M : Model} {A : Around} {E : Value → Shared → Prop} {s : Shared} {Q : Value → Shared → Prop} {v : Value} {b : Bool} (hn : ∀ x, v ≠ .builtin x) (h : Q (.bool (v == .bool b)) s) : wpAny M A (compareOp .Is v (.bool b)) Q E s := by
  refine wpAny_is_plain ?_ h
  cases v <;> first | rfl | exact absurd rfl (hn _)
theorem isnot_bool_gen {M : Model} {A : Around} {E : Value → Shared → Prop} {s : Shared} {Q : Value → Shared → Prop} {v : Value} {b : Bool} (hn : ∀ x, v ≠ .builtin x) (h : Q (.bool (!(v == .bool b))) s) : wpAny M A (compareOp .IsNot v (.bool b)) Q E s := by
  refine wpAny_isNot_plain ?_ h
  cases v <;> first | rfl | exact absurd rfl (hn _)
theorem RelV.bool_iff {x : V} {v : Value} (r : RelV x v) (b : Bool) : (v == Value.bool b) = decide (x = .bl b) ∧ ∀ y, v ≠ .builtin y := by
  cases x with
  | non => cases r; exact ⟨rfl, fun y z => by cases z⟩
  | bl a => cases r; exact ⟨by cases a <;> cases b <;> rfl, fun y z => by cases z⟩
  | int _ => obtain ⟨t, rfl⟩ := r; exact ⟨rfl, fun y z => by cases z⟩
  | str _ => obtain ⟨t, rfl⟩ := r; exact ⟨rfl, fun y z => by cases z⟩
  | byt _ => obtain ⟨t, rfl⟩ := r; exact ⟨rfl, fun y z => by cases z⟩
  | flt _ => obtain ⟨t, rfl⟩ := r; exact ⟨rfl, fun y z => by cases z⟩
  | ref _ => cases r; exact ⟨rfl, fun y z => by cases z⟩
  | ty _ => cases r; exact ⟨rfl, fun y z => by cases z⟩
abbrev rIsBl : R2 := fun x y H Q => ∃ b, y = .bl b ∧ Q (.bl (decide (x = .bl b))) H
abbrev rNotBl : R2 := fun x y H Q => ∃ b, y = .bl b ∧ Q (.bl (!decide (x = .bl b))) H
theorem op_isBlA : OpR X (compareOp .Is) rIsBl := by
  intro pins s σ H x y v u Q I rx ry h
  obtain ⟨b, rfl, q⟩ := h
  cases ry
  obtain ⟨h1, h2⟩ := RelV.bool_iff rx b
  exact is_bool_gen h2 ⟨.bl _, H, I, by rw [h1]; rfl, q⟩
theorem op_notBlA : OpR X (compareOp .IsNot) rNotBl := by
  intro pins s σ H x y v u Q I rx ry h
  obtain ⟨b, rfl, q⟩ := h
  cases ry
  obtain ⟨h1, h2⟩ := RelV.bool_iff rx b
  exact isnot_bool_gen h2 ⟨.bl _, H, I, by rw [h1]; rfl, q⟩
def isBlB (b : Bool) : D → Bool
  | .bl k => k == b
  | _ => false
def isBlD : D → D → Option D
  | d, .bl b => some (.bl (isBlB b d))
  | _, _ => none
theorem Dn.bl_iff {S : Hp} {v : V} {d : D} (h : Dn c S v d) (b : Bool) : decide (v = .bl b) = isBlB b d := by
  cases h <;> simp [isBlB]
  rename_i k
  cases k <;> cases b <;> rfl
theorem os_isBl : OpS c rIsBl isBlD := by
  intro E F ρ g σ H S Q x y dx dy e R hx hy G
  cases hy <;> simp only [isBlD, lift] at G <;> first | exact G.elim | skip
  exact ⟨_, rfl, by rw [hx.bl_iff]; exact G.ret R (.bl _)⟩

/-! ### constants of the module -/
def ConstOk (K : PySem.W.Frag) (mg : Str → Option Value) (x : Str) (d : D) : Prop := ∃ v u, mg x = some u ∧ RelV v u ∧ ∀ ah S, Dn ⟨K, mg, ah⟩ S v d
theorem pf_const {x : Str} {d : D} {pos : Pos} (h : ConstOk X.K X.mg x d) (hg : Gl X x := by rfl) (hd : (x == ("__debug__" : Str)) = false := by decide) : PF X ah E (.Name x pos) (cD d) := by
  obtain ⟨v, u, h1, h2, h3⟩ := h
  exact ⟨_, pe_glob hg h1 h2 hd, re_c fun S => h3 ah S⟩
def strsV (zs : List Str) : List V := zs.map .str
def strsD (zs : List Str) : List D := zs.map .str
theorem Dns.strs {c : DC} {S : Hp} : ∀ zs : List Str, Dns c S (strsV zs) (strsD zs)
  | [] => .nil
  | z :: zs => .cons (.str z) (Dns.strs zs)

/-! ### == of things of the class Play, by its own __eq__ -/
/-- type(a) is type(b) -/
def tyEqD : D → D → Option D
  | .obj c _ _, .obj c' _ _ => if c = "Play" ∧ c' = "Play" then some (.bl true) else none
  | .obj c _ _, .tup _ => if c = "Play" then some (.bl false) else none
  | _, _ => none
/-- what type(x) gives -/
def rType (K : PySem.W.Frag) : List V → Hp → VK → Prop := fun xs H Q => (∃ a C dx fs, xs = [V.ref a] ∧ H a = some (.ins C dx fs) ∧ Q (.ref C) H) ∨ (∃ a vs, xs = [V.ref a] ∧ SqT K H a vs ∧ Q (.ty "tuple") H)
theorem call_typeD : CallR X (.type "type") (rType X.K) := by
  intro pins s σ H xs us Q I r h
  rcases h with h | ⟨a, vs, rfl, ht, q⟩
  · exact cr_type pins s σ H xs us Q I r h
  · obtain ⟨u, rfl, rx⟩ := vals1 r
    cases rx
    obtain ⟨its, rv, p, _⟩ := I.tuple ht
    exact call_type_of p.typeIs (by decide +kernel) ⟨.ty "tuple", H, I, rfl, q⟩
abbrev rIsTy (K : PySem.W.Frag) : R2 := fun x y H Q => (∃ a b, x = V.ref a ∧ y = V.ref b ∧ (a = b ∨ (PySem.W.makesIn K a = true ∧ PySem.W.makesIn K b = true)) ∧ Q (.bl (decide (a = b))) H) ∨ (∃ a n, x = V.ref a ∧ y = .ty n ∧ Q (.bl false) H)
theorem op_isTyD : OpR X (compareOp .Is) (rIsTy X.K) := by
  intro pins s σ H x y v u Q I rx ry h
  rcases h with h | ⟨a, n, rfl, rfl, q⟩
  · exact op_is_cls pins s σ H x y v u Q I rx ry h
  · cases rx; cases ry
    exact wpAny_is_plain rfl ⟨.bl false, H, I, rfl, q⟩
def isPlay : D → Bool
  | .obj c _ _ => c == "Play"
  | _ => false
@[simp] def cTyEq (a b : FE) : FE := fun ρ g => (a ρ g).bd fun x g1 => if isPlay x = true then (b ρ g1).bd fun y g2 => lift (tyEqD x y) g2 else none
theorem pf_tyEq {e1 e2 : Expr} {a b : FE} {p1 p2 q1 q2 pos : Pos} (hm : X.mg "type" = none) (ha : PF X ah E e1 a) (hb : PF X ah E e2 b) (hg : Gl X "type" := by rfl)
    (h1 : starEach [e1] X.env = (false, eval e1 X.env) :: starEach [] X.env := by rfl) (h2 : starEach [e2] X.env = (false, eval e2 X.env) :: starEach [] X.env := by rfl)
    (k1 : (backTo q1 (starEach [] X.env)).any (·.1) = false := by rfl) (k2 : (backTo q2 (starEach [] X.env)).any (·.1) = false := by rfl) :
    PF X ah E (.Compare (.Call (.Name "type" p1) [e1] [] q1) [.Is] [.Call (.Name "type" p2) [e2] [] q2] pos) (cTyEq a b) := by
  obtain ⟨t, p, r1⟩ := ha
  obtain ⟨u, q, r2⟩ := hb
  refine ⟨_, pe_cmpR op_isTyD (pe_callTy call_typeD hg hm (by decide +kernel) (pa_cons p pa_nil h1) (by decide) (by decide) h1 k1) (pe_callTy call_typeD hg hm (by decide +kernel) (pa_cons q pa_nil h2) (by decide) (by decide) h2 k2) (nomark _), ?_⟩
  refine RG.bind (r := fun σ x H1 (Q : VK) => rType X.K [x] H1 fun tx H2 => u σ H2 fun y H3 => rType X.K [y] H3 fun ty H4 => rIsTy X.K tx ty H4 Q) (k := fun ρ x g1 => if isPlay x = true then (b ρ g1).bd fun y g2 => lift (tyEqD x y) g2 else none) r1 fun F ρ g σ H S Q x d e R hx G => ?_
  by_cases hp : isPlay d = true
  case neg => rw [if_neg hp] at G; exact G.elim
  rw [if_pos hp] at G
  cases hx with
  | obj m h k hs =>
    rename_i cn fs ks ds
    have hc : cn = "Play" := by simpa [isPlay] using hp
    subst hc
    refine .inl ⟨_, _, _, _, rfl, R.sub _ _ h, ?_⟩
    refine r2.step e R G fun H1 S1 g1 y dy sm R1 hy G => ?_
    cases hy with
    | obj m' h' k' hs' =>
      rename_i cn' fs' ks' ds'
      dsimp only [tyEqD] at G
      by_cases hc' : cn' = "Play"
      · subst hc'
        rw [if_pos ⟨rfl, rfl⟩] at G
        have : some (Value.ref _) = some (Value.ref _) := m.symm.trans m'
        injection this with this
        injection this with this
        subst this
        exact .inl ⟨_, _, _, _, rfl, R1.sub _ _ h', .inl ⟨_, _, rfl, rfl, .inl rfl, by rw [decide_eq_true rfl]; exact G.ret R1 (.bl true)⟩⟩
      · rw [if_neg (fun z => hc' z.2)] at G; exact G.elim
    | tup h' hs' =>
      dsimp only [tyEqD] at G
      rw [if_pos rfl] at G
      exact .inr ⟨_, _, rfl, Same.tup R1.sub h', .inr ⟨_, _, rfl, rfl, G.ret R1 (.bl false)⟩⟩
    | _ => simp only [tyEqD, lift] at G; exact G.elim
  | _ => simp [isPlay] at hp
/-- a == b, a of the class Play -/
def EqOk (P : Program) (w : World) (K : PySem.W.Frag) (mg : Str → Option Value) (base : Heap) (k : Nat) (Fn : List D → Gh → M D) : Prop :=
  ∃ C f fd ps, mg "Play" = some (.ref C) ∧ FnOk P w K mg base CX0 k f fd ps (spF K mg 2 Fn) ∧ Binds K fd ps [] ∧ PySem.W.findIn K (.ref C) "__eq__" = some (some (.ref f)) ∧ PySem.W.isFn K (.ref f) = true ∧ PySem.W.subIn K (.type "tuple") (.ref C) = some false
def rEqP (K : PySem.W.Frag) (mg : Str → Option Value) (Fn : List D → Gh → M D) : R2 := fun x y H Q => ∃ a C dx fs b, x = .ref a ∧ mg "Play" = some (.ref C) ∧ H a = some (.ins C dx fs) ∧ y = .ref b ∧ ((∃ dy gs, H b = some (.ins C dy gs)) ∨ ∃ vs, SqT K H b vs) ∧
  spF K mg 2 Fn [x, y] H (fun v H' => ∃ k, v = .bl k ∧ Q (.bl k) H') E0
theorem op_eqP {k : Nat} {Fn : List D → Gh → M D} (hr : Room k X.A) (G : EqOk X.prog X.w X.K X.mg X.base k Fn) : OpR X (compareOp .Eq) (rEqP X.K X.mg Fn) := by
  intro pins s σ H x y v u Q I rx ry h
  obtain ⟨C, f, fd, ps, hmP, F, hb, hs, hf, hsub⟩ := G
  obtain ⟨a, C', dx, fs, b, rfl, hm', ha, rfl, hy, hsp⟩ := h
  have : C' = C := by
    have : some (Value.ref C') = some (Value.ref C) := hm'.symm.trans hmP
    injection this with this
    injection this
  subst this
  cases rx
  cases ry
  show wpAny (model X.prog X.w) X.A (richCompare .Eq (.ref a) (.ref b)) (EP X pins σ Q) X.xe s
  obtain ⟨mA, J, _⟩ := ins_get I.hok ha
  obtain ⟨od, J, _⟩ := J.look
  obtain ⟨m, hF⟩ := I.fr
  have main : ∀ tb, PySem.W.Looks (model X.prog X.w) s.heap (typeOf (.ref b)) tb → PySem.W.notFirst X.K C' tb = true → wpAny (model X.prog X.w) X.A (richCompare .Eq (.ref a) (.ref b)) (EP X pins σ Q) X.xe s := fun tb htb hn => by
    refine PySem.W.cmp_K (op := .Eq) (tb := tb) hr.units0 hF I.ok.mod.kin J htb hn hs hf ?_
    have hl := F.len _ _ _ _ hsp
    have r2 : Vals [V.ref a, V.ref b] [Value.ref a, Value.ref b] := .cons rfl (.cons rfl .nil)
    refine wpAny_call (codeAny_mono (F.run X.A X.stack s H ⟨[.ref a, .ref b], []⟩ [.ref a, .ref b] [.ref a, .ref b] _ E0 hr I.env0 (by
      have := hb s [.ref a, .ref b] I.kIn (by simpa using hl)
      simpa using this) r2 hsp) fun r s' hq => ?_)
    cases r with
    | error e => exact False.elim hq
    | ok fl =>
      cases fl with
      | ret w =>
        obtain ⟨z, H', I', rz, k, ez, q⟩ := I.after hq
        subst ez
        cases rz
        exact ⟨.bl k, H', I', rfl, q⟩
      | next => exact False.elim hq
      | brk => exact False.elim hq
      | cont => exact False.elim hq
  rcases hy with ⟨dy, gs, hb'⟩ | ⟨vs, ht⟩
  · obtain ⟨mB, J', _⟩ := ins_get I.hok hb'
    obtain ⟨od', J', _⟩ := J'.look
    exact main (.ref C') J'.type (by simp [PySem.W.notFirst])
  · obtain ⟨its, rv, p, _⟩ := I.tuple ht
    obtain ⟨o, ho, hc, _⟩ := p
    exact main (.type "tuple") (fun A Q E s' kk q => wpAny_typeOf ⟨o, kk _ _ ho, hc⟩ q) (by simp [PySem.W.notFirst, hsub])
@[simp] def cEqP (Fn : List D → Gh → M D) (a b : FE) : FE := fun ρ g => (a ρ g).bd fun x g1 => (b ρ g1).bd fun y g2 => if isPlay x = true ∧ (isPlay y || isTyB "tuple" y) = true then match noX (Fn [x, y] g2) with
  | some (.ok (.bl k) g3) => some (.ok (.bl k) g3)
  | _ => none
  else none
theorem re_eqP {Fn : List D → Gh → M D} {ta tb : TE} {a b : FE} (ha : RE c E ta a) (hb : RE c E tb b) : RE c E (tOp (rEqP c.K c.mg Fn) ta tb) (cEqP Fn a b) := by
  refine RG.bind (r := fun σ x H1 (Q : VK) => tb σ H1 fun y H2 => rEqP c.K c.mg Fn x y H2 Q) (k := fun ρ x g1 => (b ρ g1).bd fun y g2 => if isPlay x = true ∧ (isPlay y || isTyB "tuple" y) = true then match FD.noX (Fn [x, y] g2) with
  | some (.ok (.bl k) g3) => some (.ok (D.bl k) g3)
  | _ => none
  else none) ha fun F ρ g σ H S Q x dx e R hx G => ?_
  refine hb.step e R G fun H1 S1 g1 y dy sm R1 hy G2 => ?_
  clear G
  have hx := hx.mono sm
  by_cases hp : isPlay dx = true ∧ (isPlay dy || isTyB "tuple" dy) = true
  case neg => rw [if_neg hp] at G2; exact G2.elim
  rw [if_pos hp] at G2
  obtain ⟨hp, hpy⟩ := hp
  cases h : Fn [dx, dy] g1 with
  | none => rw [h] at G2; exact G2.elim
  | some o => cases o with
    | ex _ _ _ _ => rw [h] at G2; exact G2.elim
    | ok d g3 =>
      rw [h] at G2
      simp only [FD.noX] at G2
      cases d <;> try exact G2.elim
      rename_i k
      cases hx with
      | obj m hh kk hs =>
        rename_i cn fs ks ds
        have hc : cn = "Play" := by simpa [isPlay] using hp
        subst hc
        have hxx : Dn c S1 (.ref _) (.obj "Play" ks ds) := .obj m hh kk hs
        subst e
        rename_i a0 C0 dx0
        have fin : ∀ b, y = .ref b → ((∃ dy gs, H1 b = some (.ins C0 dy gs)) ∨ ∃ vs, SqT F.c.K H1 b vs) → rEqP F.c.K F.c.mg Fn (.ref a0) y H1 Q := fun b hyb hkind => by
          refine ⟨_, _, _, _, b, rfl, m, R1.sub _ _ hh, hyb, hkind, F.c.ah, S1, g1, [.obj "Play" ks ds, dy], rfl, R1.sub_frame, .cons hxx (.cons hy .nil), ?_⟩
          refine Got.frame (ρ := ρ) (σ := σ) R1 ?_
          rw [h]
          exact fun v H' S' sm R' hv => ⟨k, hv.blE, G2 (.bl k) H' S' sm R' (.bl k)⟩
        cases hy with
        | obj m' h' k' hs' => 
          rename_i cn' fs' ks' ds'
          have hc' : cn' = "Play" := by simpa [isPlay, isTyB] using hpy
          subst hc'
          have e2 := m.symm.trans m'
          injection e2 with e2
          injection e2 with e2
          subst e2
          exact fin _ rfl (.inl ⟨_, _, R1.sub _ _ h'⟩)
        | tup h' hs' => exact fin _ rfl (.inr ⟨_, Same.tup R1.sub h'⟩)
        | _ => simp [isPlay, isTyB] at hpy
      | _ => simp [isPlay] at hp
theorem pf_eqP {k : Nat} {Fn : List D → Gh → M D} {e1 e2 : Expr} {a b : FE} {pos} (hr : Room k X.A) (G : EqOk X.prog X.w X.K X.mg X.base k Fn) (ha : PF X ah E e1 a) (hb : PF X ah E e2 b) : PF X ah E (.Compare e1 [.Eq] [e2] pos) (cEqP Fn a b) := by
  obtain ⟨t, p, r1⟩ := ha
  obtain ⟨u, q, r2⟩ := hb
  exact ⟨_, pe_cmpR (op_eqP hr G) p q (nomark _), re_eqP (c := dc X ah) r1 r2⟩
end
end FD
set_option Elab.async false
set_option linter.all false
set_option maxRecDepth 100000
set_option maxHeartbeats 4000000
namespace FD
open PySem L2 PyProof.Rows
theorem hu64 {k : Nat} {A : Around} (hr : Room k A) : A.units + 64 < cLine := by have := hr.un; omega
section
variable {X : Cx} {ah : Option Addr} {E : L2.St → XK} {c : DC}
theorem pft_eqP {k : Nat} {Fn : List D → Gh → M D} {e1 e2 : Expr} {a b : FE} {pos} (hr : Room k X.A) (G : EqOk X.prog X.w X.K X.mg X.base k Fn) (ha : PF X ah E e1 a) (hb : PF X ah E e2 b) : PFT X ah E (.Compare e1 [.Eq] [e2] pos) (cT (cEqP Fn a b)) := by
  obtain ⟨t, p, r1⟩ := ha
  obtain ⟨u, q, r2⟩ := hb
  exact ⟨_, pt_cmpR (op_eqP hr G) p q (nomark _), rt_of (re_eqP (c := dc X ah) r1 r2)⟩
end
/-- a def of the text, where it stands -/
def DefAt (K : PySem.W.Frag) (mg : Str → Option Value) (x : Str) (st : Stmt) (ps : List Str) : Prop := ∃ f fd, Fun K x x st f fd ∧ mg x = some (.ref f) ∧ Binds K fd ps []
theorem DefAt.ok {P : Program} {w : World} {K : PySem.W.Frag} {mg : Str → Option Value} {base : Heap} {x : Str} {st : Stmt} {N ps : List Str} {k n : Nat} {b : FS} (A : DefAt K mg x st ps) (Sc : FnScope N ps (defScope st)) (hn : ps.length = n) (hN : n ≤ N.length)
    (hb : ∀ (f : Addr) (cdv : Value) (A : Around) (outer : List Env) (s : Shared) (H : Hp) (E : XK) (ah : Option Addr), Room k (A.deeper (envOfC x (defScope st) s.heap.objs.size f cdv)) → PFSs ((cxOf CX0 P w K mg base N x (defScope st) f cdv A outer s H E).nox) ah E0 (defBody st) b) :
    DefOk P w K mg base CX0 x (k + 1) n fun ds g => noX (fnOf N.length b ds g) := by
  obtain ⟨f, fd, F, m, bn⟩ := A
  exact ⟨f, fd, ps, fd_ok F Sc hn hN (fun cdv A outer s H E ah hr => hb f cdv A outer s H E ah hr), m, F.kp, bn⟩
theorem DefAt.okX {P : Program} {w : World} {K : PySem.W.Frag} {mg : Str → Option Value} {base : Heap} {x : Str} {st : Stmt} {N ps : List Str} {k n : Nat} {b : FS} (A : DefAt K mg x st ps) (Sc : FnScope N ps (defScope st)) (hn : ps.length = n) (hN : n ≤ N.length)
    (hb : ∀ (f : Addr) (cdv : Value) (A : Around) (outer : List Env) (s : Shared) (H : Hp) (E : XK) (ah : Option Addr), Room k (A.deeper (envOfC x (defScope st) s.heap.objs.size f cdv)) → PFSs (cxOf (L2.CX P w) P w K mg base N x (defScope st) f cdv A outer s H E) ah E (defBody st) b) :
    DefOk P w K mg base (L2.CX P w) x (k + 1) n fun ds g => fnOf N.length b ds g := by
  obtain ⟨f, fd, F, m, bn⟩ := A
  exact ⟨f, fd, ps, fd_okX F Sc hn hN (fun cdv A outer s H E ah hr => hb f cdv A outer s H E ah hr), m, F.kp, bn⟩

/-! ### an __init__ that refuses twice and keeps two things -/
def exOf (m : M Fl) : M D := match m with
  | some (.ex c ks ds g) => some (.ex c ks ds g)
  | _ => none
def mkF2 (cn x1 x2 : Str) (q1 : FT) (r1 : FS) (q2 : FT) (r2 : FS) (N : Nat) (ds : List D) (g : Gh) : M D :=
  let ρ := En.un :: ds.map .dt ++ List.replicate (N - 3) .un
  (q1 ρ g).bd fun k g1 => if k = true then exOf (r1 ρ g1) else (q2 ρ g1).bd fun k2 g2 => if k2 = true then exOf (r2 ρ g2) else some (.ok (.obj cn [x1, x2] ds) g2)
theorem GotS.exOf {F F' : Fx} {S : Hp} {E : XK} {Z : Ends} {m : M Fl} {R : D → Gh → Prop} (w : ∀ {cc ks es g'}, GotX F' S E cc ks es g' → GotX F S E cc ks es g') (G : match FD.exOf m with
    | none => False
    | some (.ok d g) => R d g
    | some (.ex c ks ds g) => GotX F' S E c ks ds g) : GotS F S E Z m := by
  cases m with
  | none => exact G
  | some o => cases o with
    | ok fl g => exact G.elim
    | ex _ _ _ _ => exact w G
theorem mk_ok2 {P : Program} {w : World} {K : PySem.W.Frag} {mg : Str → Option Value} {base : Heap} {qual cn x1 x2 : Str} {st : Stmt} {f C : Addr} {fd : FuncData} {N : List Str} {k : Nat} {t1 t2 : Expr} {b1 b2 : Stmt} {i1 i2 a1 a2 a3 a4 a5 a6 a7 a8 : Pos} {q1 q2 : FT} {r1 r2 : FS}
    (F : Fun K "__init__" qual st f fd) (Sc : FnScope N [("self" : Str), x1, x2] (defScope st)) (hN : N = ("self" : Str) :: x1 :: x2 :: N.drop 3) (hcl : Cls K C) (hn1 : NoAttr K C x1) (hn2 : NoAttr K C x2) (hx : x1 ≠ x2) (hm : mg cn = some (.ref C))
    (hbody : defBody st = [.If t1 [b1] [] i1, .If t2 [b2] [] i2, .Assign [.Attribute (.Name "self" a1) x1 a2] (.Name x1 a3) a4, .Assign [.Attribute (.Name "self" a5) x2 a6] (.Name x2 a7) a8])
    (hl0 : (defScope st).names.lookup ("self" : Str) = some .local) (hl1 : (defScope st).names.lookup x1 = some .local) (hl2 : (defScope st).names.lookup x2 = some .local)
    (hd1 : (x1 == ("__debug__" : Str)) = false) (hc1 : (x1 == ("__classdict__" : Str)) = false) (hd2 : (x2 == ("__debug__" : Str)) = false) (hc2 : (x2 == ("__classdict__" : Str)) = false)
    (hb : ∀ (cdv : Value) (A : Around) (outer : List Env) (s : Shared) (H : Hp) (E : XK) (ah : Option Addr), Room k (A.deeper (envOfC qual (defScope st) s.heap.objs.size f cdv)) →
      PFT (cxOf (L2.CX P w) P w K mg base N qual (defScope st) f cdv A outer s H E) ah (fun _ => E) t1 q1 ∧ PFS (cxOf (L2.CX P w) P w K mg base N qual (defScope st) f cdv A outer s H E) ah E b1 r1 ∧
      PFT (cxOf (L2.CX P w) P w K mg base N qual (defScope st) f cdv A outer s H E) ah (fun _ => E) t2 q2 ∧ PFS (cxOf (L2.CX P w) P w K mg base N qual (defScope st) f cdv A outer s H E) ah E b2 r2) :
    FnOk P w K mg base (L2.CX P w) (k + 1) f fd [("self" : Str), x1, x2] (spMk K mg C 2 (mkF2 cn x1 x2 q1 r1 q2 r2 N.length)) := by
  refine F.okX Sc (fun vs H Q E h => ?_) (fun cdv A outer s H vs Q E hr h => ?_)
  · obtain ⟨ah, S, g, a, dx, vs', ds, rfl, hl, _, _, _, hv, _⟩ := h
    simp [hv.length, hl]
  · obtain ⟨ah, S, g, a, dx, vs', ds, rfl, hl, ha, hsa, R, hv, hah, G⟩ := h
    obtain ⟨⟨u1, p1, z1⟩, ⟨v1, p2, z2⟩, ⟨u2, p3, z3⟩, ⟨v2, p4, z4⟩⟩ := hb cdv A outer s H E ah hr
    rw [hbody]
    refine ⟨_, pss_cons (ps_if p1 (pss_one p2) pss_nil) (pss_cons (ps_if p3 (pss_one p4) pss_nil)
      (pss_cons (ps_fld (pe_var (i := 0) (by rw [show (cxOf (L2.CX P w) P w K mg base N qual (defScope st) f cdv A outer s H E).N = N from rfl, hN]; rfl) (.inl hl0) (by decide) (by decide)) (pe_var (i := 1) (by rw [show (cxOf (L2.CX P w) P w K mg base N qual (defScope st) f cdv A outer s H E).N = N from rfl, hN]; rfl) (.inl hl1) hd1 hc1) rfl)
      (pss_one (ps_fld (pe_var (i := 0) (by rw [show (cxOf (L2.CX P w) P w K mg base N qual (defScope st) f cdv A outer s H E).N = N from rfl, hN]; rfl) (.inl hl0) (by decide) (by decide)) (pe_var (i := 2) (by rw [show (cxOf (L2.CX P w) P w K mg base N qual (defScope st) f cdv A outer s H E).N = N from rfl, hN]; rfl) (.inl hl2) hd2 hc2) rfl)))), ?_⟩
    have hds : ∃ d1 d2, ds = [d1, d2] := by
      match ds, hl with
      | [d1, d2], _ => exact ⟨d1, d2, rfl⟩
    obtain ⟨d1, d2, rfl⟩ := hds
    obtain ⟨w1, w2, rfl, h1, h2⟩ := hv.two
    let Fr : Fx := ⟨⟨K, mg, ah⟩, H, S⟩
    let Fw : Fx := ⟨⟨K, mg, ah⟩, (fun b => if b = a then none else H b), S⟩
    have weak : ∀ {g' H' S'}, Rep Fr [] g' [] H' S' → Rep Fw [] g' [] H' S' := fun {g' H' S'} B => by
      refine ⟨B.sub, B.hand, fun b o h1 h2 => B.keep b o ?_ h2, fun b h1 h2 => B.stay b ?_ h2, fun i e h => by simp at h, fun i j p xs ys h => by simp at h⟩
      · show H b = some o
        have e : (if b = a then none else H b) = some o := h1
        split at e
        · cases e
        · exact e
      · intro e0
        apply h1
        have e0 : H b = none := e0
        show (if b = a then none else H b) = none
        rw [e0]; split <;> rfl
    have weakX : ∀ {S1 cc ks es g'}, GotX Fw S1 E cc ks es g' → GotX Fr S1 E cc ks es g' := fun {S1 cc ks es g'} hG A dd H' S' m sm B z => hG A dd H' S' m sm (weak B) z
    have hN3 : N.length = 3 + (N.length - 3) := by rw [hN]; simp; omega
    have R0 : Rep Fr (En.un :: [d1, d2].map .dt ++ List.replicate (N.length - 3) .un) g (start N [.ref a, w1, w2]) H S := by
      refine Rep.forget R (fun i en h => ?_) fun i j p xs ys h => ?_
      · match i, h with
        | 0, h => simp at h; subst h; exact ⟨some (.ref a), by simp [L2.start], trivial⟩
        | 1, h => simp at h; subst h; exact ⟨some w1, by simp [L2.start], w1, rfl, h1⟩
        | 2, h => simp at h; subst h; exact ⟨some w2, by simp [L2.start], w2, rfl, h2⟩
        | i + 3, h =>
          simp [List.getElem?_replicate] at h
          obtain ⟨h3, rfl⟩ := h
          refine ⟨none, ?_, trivial⟩
          simp [L2.start, List.getElem?_replicate]
          omega
      · match i, h with
        | 0, h => simp at h
        | 1, h => simp at h
        | 2, h => simp at h
        | i + 3, h => simp [List.getElem?_replicate] at h
    have hs0 : (start N [.ref a, w1, w2])[0]? = some (some (.ref a)) := by simp [L2.start]
    have hs1 : (start N [.ref a, w1, w2])[1]? = some (some w1) := by simp [L2.start]
    have hs2 : (start N [.ref a, w1, w2])[2]? = some (some w2) := by simp [L2.start]
    -- the two tests
    refine z1.run Fr _ g _ H S _ rfl R0 ?_
    unfold mkF2 at G
    dsimp only at G
    generalize hρ : (En.un :: [d1, d2].map .dt ++ List.replicate (N.length - 3) .un) = ρ at G R0 ⊢
    cases e1 : q1 ρ g with
    | none => rw [e1] at G; exact G.elim
    | some o1 => cases o1 with
      | ex _ _ _ _ => rw [e1] at G; exact weakX G
      | ok kk g1 =>
        rw [e1] at G
        simp only [M.bd] at G
        intro kb H1 S1 sm1 R1 hk
        have hk : kb = kk := hk
        subst hk
        cases kb with
        | true =>
          rw [if_pos rfl] at G ⊢
          refine z2.run Fr ρ g1 _ H1 S1 _ rfl R1 (GotS.mono ?_ sm1)
          exact GotS.exOf weakX G
        | false =>
          rw [if_neg (by simp)] at G ⊢
          refine z3.run Fr ρ g1 _ H1 S1 _ rfl R1 ?_
          cases e2 : q2 ρ g1 with
          | none => rw [e2] at G; exact G.elim
          | some o2 => cases o2 with
            | ex _ _ _ _ => rw [e2] at G; exact GotX.mono (weakX G) sm1
            | ok k2 g2 =>
              rw [e2] at G
              simp only at G
              intro kb2 H2 S2 sm2 R2 hk2
              have hk2 : kb2 = k2 := hk2
              subst hk2
              cases kb2 with
              | true =>
                rw [if_pos rfl] at G ⊢
                refine z4.run Fr ρ g2 _ H2 S2 _ rfl R2 (GotS.mono ?_ (sm1.trans sm2))
                exact GotS.exOf weakX G
              | false =>
                rw [if_neg (by simp)] at G ⊢
                have ka : H2 a = some (.ins C dx []) := R2.keep a _ ha hah
                have sa : (S2 a : Option HO) = none := R2.stay a (by show H a ≠ none; rw [ha]; simp) hsa
                have n12 : ¬ x2 = x1 := fun z => hx z.symm
                have pf : putF x2 w2 (putF x1 w1 []) = [(x1, w1), (x2, w2)] := by
                  show (if x1 = x2 then _ else (x1, w1) :: putF x2 w2 []) = _
                  rw [if_neg hx]
                  rfl
                refine ⟨w1, hs1, .ref a, hs0, a, C, dx, [], rfl, ka, hcl, hn1, by decide, ?_⟩
                refine ⟨w2, hs2, .ref a, hs0, a, C, dx, putF x1 w1 [], rfl, upd_same, hcl, hn2, by show 1 < 1000; decide, ?_⟩
                rw [upd_upd, pf]
                have smT := sm1.trans sm2
                have Rw : Rep Fw [] g2 [] (upd H2 a (.ins C dx [(x1, w1), (x2, w2)])) S2 := (weak R2.bare).write1 sa (by show (if a = a then none else H a) = none; rw [if_pos rfl]) hah
                exact G _ S2 [(x1, w1), (x2, w2)] smT upd_same sa Rw ⟨cn, [x1, x2], [d1, d2], rfl, hm, rfl, .cons (h1.mono smT) (.cons (h2.mono smT) .nil)⟩
end FD
set_option Elab.async false
set_option linter.all false
set_option maxRecDepth 100000
set_option maxHeartbeats 4000000
namespace FD
open PySem L2 PyProof.Rows
/-- def _law_hand(script): return [list(script), 0, 0, 1, 0] -/
theorem hand_ok {P : Program} {w : World} {K : PySem.W.Frag} {mg : Str → Option Value} {base : Heap} {x y : Str} {st : Stmt} {f : Addr} {fd : FuncData} {p1 p2 p3 p4 p5 p6 p7 p8 p9 : Pos} {j1 j2 j3 j4} (F : Fun K x x st f fd) (Sc : FnScope [y] [y] (defScope st)) (hl : mg "list" = none)
    (hb : defBody st = [.Return (some (.List [.Call (.Name "list" p1) [.Name y p2] [] p3, .Constant (.int 0) j1 p4, .Constant (.int 0) j2 p5, .Constant (.int 1) j3 p6, .Constant (.int 0) j4 p7] p8)) p9])
    (h1 : (defScope st).names.lookup y = some .local) (h2 : (defScope st).names.lookup ("list" : Str) = some .globalImplicit) (hd : (y == ("__debug__" : Str)) = false) (hcd : (y == ("__classdict__" : Str)) = false) : FnOk P w K mg base CX0 1 f fd [y] (spHand K) := by
  refine F.ok Sc (fun vs H Q E h => ?_) (fun cdv A outer s H vs Q E hr h => ?_)
  · obtain ⟨a, xs, rfl, _⟩ := h
    rfl
  · obtain ⟨a, xs, rfl, hS, k⟩ := h
    rw [hb]
    refine ⟨_, pss_one (ps_ret (pe_lst (pa_cons (pe_callTy call_list_of h2 hl (by decide +kernel) (pa_cons (pe_var (i := 0) rfl (.inl h1) hd hcd) pa_nil)) (pa_cons pe_int (pa_cons pe_int (pa_cons pe_int (pa_cons pe_int pa_nil))))))), ?_⟩
    refine ⟨_, rfl, a, _, rfl, .inl hS, fun q hq => ⟨line_of (by simp), fun p hp => k q hq p hp⟩⟩
/-- the law's promise -/
def spLaw (K : PySem.W.Frag) : Sp := fun vs H Q _ => ∃ (a : Addr) (ns : List Int), vs = [.ref a] ∧ SqL K H a (ns.map V.int) ∧ ns.length ≤ 63 ∧ ∀ H', Q (.bl true) H'
/-- law(script): hand = _law_hand(script); .. -/
theorem law_ok {P : Program} {w : World} {K : PySem.W.Frag} {mg : Str → Option Value} {base : Heap} {x y hn : Str} {xh : Str} {st : Stmt} {f fh : Addr} {fd fdh : FuncData} {N psh : List Str} {k : Nat} {rest : List Stmt} {b : FS} {p1 p2 p3 p4 p5 : Pos} (F : Fun K x x st f fd) (Sc : FnScope N [y] (defScope st)) (hN : N = y :: hn :: N.drop 2) (hk : 1 ≤ k)
    (GH : FnOk P w K mg base CX0 1 fh fdh psh (spHand K)) (hmh : mg xh = some (.ref fh)) (hkp : PySem.W.keepIn K (.ref fh) = true) (hbh : Binds K fdh psh [])
    (hbody : defBody st = .Assign [.Name hn p1] (.Call (.Name xh p2) [.Name y p3] [] p4) p5 :: rest)
    (hg : (defScope st).names.lookup xh = some .globalImplicit) (hy : (defScope st).names.lookup y = some .local) (hh : Loc (defScope st) hn) (hd : (y == ("__debug__" : Str)) = false) (hcd : (y == ("__classdict__" : Str)) = false) (hdx : (xh == ("__debug__" : Str)) = false)
    (hb : ∀ (cdv : Value) (A : Around) (outer : List Env) (s : Shared) (H : Hp) (E : XK) (ah : Option Addr), Room k (A.deeper (envOfC x (defScope st) s.heap.objs.size f cdv)) → PFSs ((cxOf CX0 P w K mg base N x (defScope st) f cdv A outer s H E).nox) ah E0 rest b)
    (hs : ∀ (cdv : Value) (A : Around) (outer : List Env) (s : Shared) (H : Hp) (E : XK), swapsWith (.Call (.Name xh p2) [.Name y p3] [] p4) (some (.Name hn p1)) p5.line ((cxOf CX0 P w K mg base N x (defScope st) f cdv A outer s H E).nox).env = pure false)
    (main : ∀ ns : List Int, ns.length ≤ 63 → ∃ g, b (.un :: .dt .hnd :: List.replicate (N.length - 2) .un) ⟨ns, 0, 0, 1, 0⟩ = some (.ok (.rt (.bl true)) g)) : FnOk P w K mg base CX0 (k + 1) f fd [y] (spLaw K) := by
  refine F.ok Sc (fun vs H Q E h => ?_) (fun cdv A outer s H vs Q E hr h => ?_)
  · obtain ⟨a, xs, rfl, _⟩ := h
    rfl
  · obtain ⟨a, ns, rfl, hS, hlen, kQ⟩ := h
    rw [hbody]
    have N0 : ((cxOf CX0 P w K mg base N x (defScope st) f cdv A outer s H E).nox).N = N := rfl
    have ch : ∀ ah, ∃ t, PSs ((cxOf CX0 P w K mg base N x (defScope st) f cdv A outer s H E).nox) rest t ∧ RS ⟨K, mg, ah⟩ E0 t b := fun ah => hb cdv A outer s H E ah hr
    -- one reading, wherever the hand stands
    let tr : TS := fun Z σ H => ∃ ah, (ch ah).choose Z σ H
    have ptr : PSs ((cxOf CX0 P w K mg base N x (defScope st) f cdv A outer s H E).nox) rest tr := ⟨fun pins s' σ H' Z I ⟨ah, hw⟩ => (ch ah).choose_spec.1.run pins s' σ H' Z I hw⟩
    have i0 : ((cxOf CX0 P w K mg base N x (defScope st) f cdv A outer s H E).nox).N[0]? = some y := by rw [N0, hN]; rfl
    have i1 : ((cxOf CX0 P w K mg base N x (defScope st) f cdv A outer s H E).nox).N[1]? = some hn := by rw [N0, hN]; rfl
    refine ⟨_, pss_cons (ps_set (i := 1) Sc.nd i1 hh (pe_call GH (hr.mono hk) hg hmh hkp hbh .nil pass0 (pa_cons (pe_var (i := 0) i0 (.inl hy) hd hcd) pa_nil) hdx) (hs cdv A outer s H E) (.inl rfl)) ptr, ?_⟩
    have hs0 : (start N [.ref a])[0]? = some (some (.ref a)) := by simp [L2.start]
    have hl : 2 ≤ N.length := by rw [hN]; simp
    refine ⟨_, hs0, a, ns, rfl, hS, fun q hq p hp => ⟨some p, ?_⟩⟩
    have nqp : p ≠ q := fun z => by rw [z, upd_same] at hp; cases hp
    obtain ⟨g, hm⟩ := main ns hlen
    refine (ch (some p)).choose_spec.2.run ⟨⟨K, mg, some p⟩, fun _ => none, fun _ => none⟩ (.un :: .dt .hnd :: List.replicate (N.length - 2) .un) ⟨ns, 0, 0, 1, 0⟩ _ _ (upd (fun _ => none) q (.lst (ns.map V.int))) _ rfl ?_ ?_
    · refine ⟨fun b o e => ?_, ?_, fun b o e => by simp at e, fun b e => by simp at e, fun i en h => ?_, fun i j p' xs ys h => ?_⟩
      · by_cases hb2 : b = q
        · subst hb2
          rw [upd_same] at e
          rw [upd_ne (Ne.symm nqp), upd_same]; exact e
        · rw [upd_ne hb2] at e; cases e
      · refine ⟨?_, q, ?_, ?_⟩
        · show upd (fun _ => none) q _ p = none
          rw [upd_ne nqp]
        · exact upd_same
        · exact upd_same
      · match i, h with
        | 0, h => simp at h; subst h; exact ⟨_, by rw [List.getElem?_set_ne (by decide)]; exact hs0, trivial⟩
        | 1, h =>
          simp at h; subst h
          exact ⟨some (.ref p), List.getElem?_set_self (by simp [L2.start]; omega), .ref p, rfl, .hnd rfl⟩
        | i + 2, h =>
          simp [List.getElem?_replicate] at h
          obtain ⟨h1, rfl⟩ := h
          refine ⟨none, ?_, trivial⟩
          rw [List.getElem?_set_ne (by omega)]
          simp [L2.start, List.getElem?_replicate]
          omega
      · match i, h with
        | 0, h => simp at h
        | 1, h => simp at h
        | i + 2, h => simp [List.getElem?_replicate] at h
    · rw [hm]
      intro v H' S' _ _ hv
      cases hv.blE
      exact kQ H'
end FD
set_option Elab.async false
set_option linter.all false
set_option maxRecDepth 100000
set_option maxHeartbeats 1000000
namespace FD
open PySem L2
/-! # Reckoning with the functions -/
@[simp] theorem noX_ok {α : Type} (a : α) (g : Gh) : noX (some (.ok a g)) = some (.ok a g) := rfl
@[simp] theorem noX_none {α : Type} : noX (none : M α) = none := rfl
theorem sSeq_nx {a b : FS} {ρ g ρ1 g1} (h : a ρ g = some (.ok (.nx ρ1) g1)) : sSeq a b ρ g = b ρ1 g1 := by unfold sSeq; rw [h]
theorem sSeq_rt {a b : FS} {ρ g d g1} (h : a ρ g = some (.ok (.rt d) g1)) : sSeq a b ρ g = some (.ok (.rt d) g1) := by unfold sSeq; rw [h]
/-! ### == -/
@[simp] theorem eqD_int (i j : Int) : eqD (.int i) (.int j) = some (.bl (i == j)) := by
  simp [eqD, eqB, D.py, SeqAt.shaped, PyData.canLay0, PyData.depth, PyData.eqv]
@[simp] theorem neD_int (i j : Int) : neD (.int i) (.int j) = some (.bl (!(i == j))) := by
  simp [neD, eqB, D.py, SeqAt.shaped, PyData.canLay0, PyData.depth, PyData.eqv]
@[simp] theorem eqD_bl (i j : Bool) : eqD (.bl i) (.bl j) = some (.bl (i == j)) := by
  simp [eqD, eqB, D.py, SeqAt.shaped, PyData.canLay0, PyData.depth, PyData.eqv]
@[simp] theorem neD_bl (i j : Bool) : neD (.bl i) (.bl j) = some (.bl (!(i == j))) := by
  simp [neD, eqB, D.py, SeqAt.shaped, PyData.canLay0, PyData.depth, PyData.eqv]
def okStr (z : Str) : Bool := PyData.canLay0 (.str z)
theorem eqD_str {a b : Str} (ha : okStr a = true) (hb : okStr b = true) : eqD (.str a) (.str b) = some (.bl (a == b)) := by
  unfold okStr at ha hb
  simp [eqD, eqB, D.py, SeqAt.shaped, PyData.depth, PyData.eqv, ha, hb]
theorem neD_str {a b : Str} (ha : okStr a = true) (hb : okStr b = true) : neD (.str a) (.str b) = some (.bl (!(a == b))) := by
  unfold okStr at ha hb
  simp [neD, eqB, D.py, SeqAt.shaped, PyData.depth, PyData.eqv, ha, hb]
/-! ### the order of ints -/
@[simp] theorem ltD_int (i j : Int) : ltD (.int i) (.int j) = some (.bl (decide (i < j))) := rfl
@[simp] theorem leD_int (i j : Int) : leD (.int i) (.int j) = some (.bl (decide (i ≤ j))) := rfl
@[simp] theorem gtD_int (i j : Int) : gtD (.int i) (.int j) = some (.bl (decide (j < i))) := rfl
@[simp] theorem geD_int (i j : Int) : geD (.int i) (.int j) = some (.bl (decide (j ≤ i))) := rfl
@[simp] theorem addD_int (i j : Int) : addD (.int i) (.int j) = some (.int (i + j)) := rfl
@[simp] theorem subD_int (i j : Int) : subD (.int i) (.int j) = some (.int (i - j)) := rfl
theorem modD_int {i j : Int} (h : j ≠ 0) : modD (.int i) (.int j) = some (.int (i.fmod j)) := by simp [modD, intD, h]
theorem divD_int {i j : Int} (h : j ≠ 0) (h2 : j.natAbs < 1073741824) : divD (.int i) (.int j) = some (.int (i.fdiv j)) := by simp [divD, intD, h, h2]
theorem mulD_int {i j : Int} (h : small64 i ∨ small64 j) : mulD (.int i) (.int j) = some (.int (i * j)) := by
  show (if small64 i ∨ small64 j then _ else _) = _
  rw [if_pos h]
@[simp] theorem negD_int (i : Int) : negD (.int i) = some (.int (-i)) := rfl
@[simp] theorem lenD_tup (xs : List D) : lenD [.tup xs] = some (.int xs.length) := rfl
@[simp] theorem lenD_lst (xs : List D) : lenD [.lst xs] = some (.int xs.length) := rfl
@[simp] theorem tupleD_lst (xs : List D) : tupleD [.lst xs] = some (.tup xs) := rfl
@[simp] theorem tupleD_tup (xs : List D) : tupleD [.tup xs] = some (.tup xs) := rfl
@[simp] theorem seqOf_tup (xs : List D) : seqOf (.tup xs) = some xs := rfl
@[simp] theorem seqOf_lst (xs : List D) : seqOf (.lst xs) = some xs := rfl
@[simp] theorem intOf_int (i : Int) : intOf [.int i] = some (.int i) := rfl
@[simp] theorem isND_non (d : D) : isND d .non = some (.bl (isNonB d)) := by cases d <;> rfl
@[simp] theorem notND_non (d : D) : notND d .non = some (.bl (!isNonB d)) := by cases d <;> rfl
@[simp] theorem isBlD_bl (d : D) (b : Bool) : isBlD d (.bl b) = some (.bl (isBlB b d)) := by cases d <;> rfl
theorem atI_nat {α : Type} {xs : List α} {k : Nat} : atI xs (k : Int) = xs[k]? := by
  unfold atI ixN
  by_cases h : k < xs.length
  · simp [h]
  · simp [h]
theorem atI_of {α : Type} {xs : List α} {i : Int} (h : 0 ≤ i) : atI xs i = xs[i.toNat]? := by
  obtain ⟨k, rfl⟩ := Int.eq_ofNat_of_zero_le h
  rw [atI_nat]; rfl
theorem ixD_tup {xs : List D} {i : Int} (h : 0 ≤ i) : ixD (.tup xs) (.int i) = xs[i.toNat]? := atI_of h
theorem ixD_lst {xs : List D} {i : Int} (h : 0 ≤ i) : ixD (.lst xs) (.int i) = xs[i.toNat]? := atI_of h
/-! ### blocks -/
theorem compD_map {gs : FG} {fe : FE} {F : D → D} {ρ : List En} {g : Gh} : ∀ {ds : List D}, (∀ d ∈ ds, ∃ ρ1, gs d ρ = some ρ1 ∧ fe ρ1 g = some (.ok (F d) g)) → compD gs tY fe ds ρ g = some (.ok (ds.map F) g)
  | [], _ => rfl
  | d :: ds, h => by
    obtain ⟨ρ1, h1, h2⟩ := h d List.mem_cons_self
    have ih := compD_map (ds := ds) fun e he => h e (List.mem_cons_of_mem _ he)
    simp [compD, h1, h2, ih]
theorem compD_filter {gs : FG} {ft : FT} {fe : FE} {p : D → Bool} {F : D → D} {ρ : List En} {g : Gh} : ∀ {ds : List D}, (∀ d ∈ ds, ∃ ρ1, gs d ρ = some ρ1 ∧ ft ρ1 g = some (.ok (p d) g) ∧ fe ρ1 g = some (.ok (F d) g)) → compD gs ft fe ds ρ g = some (.ok ((ds.filter p).map F) g)
  | [], _ => rfl
  | d :: ds, h => by
    obtain ⟨ρ1, h1, h2, h3⟩ := h d List.mem_cons_self
    have ih := compD_filter (ds := ds) fun e he => h e (List.mem_cons_of_mem _ he)
    cases hp : p d <;> simp [compD, h1, h2, h3, ih, hp, List.filter_cons]
@[simp] theorem flags_map {α : Type} (p : α → Bool) : ∀ ds : List α, flags (ds.map fun d => .bl (p d)) = some (ds.map p)
  | [] => rfl
  | d :: ds => by simp [flags, flags_map p ds]
theorem allD_map {α : Type} (p : α → Bool) (ds : List α) : allD [.lst (ds.map fun d => .bl (p d))] = some (.bl (ds.all p)) := by
  simp [allD]
/-- every draw's end -/
def Sat {α : Type} (m : M α) (P : α → Gh → Prop) : Prop := ∃ a g, m = some (.ok a g) ∧ P a g
theorem Sat.bd {α β : Type} {m : M α} {k : α → Gh → M β} {P : α → Gh → Prop} {Q : β → Gh → Prop} (h : Sat m P) (hk : ∀ a g, P a g → Sat (k a g) Q) : Sat (m.bd k) Q := by
  obtain ⟨a, g, rfl, p⟩ := h
  exact hk a g p
theorem Sat.ok {α : Type} {a : α} {g : Gh} {P : α → Gh → Prop} (h : P a g) : Sat (some (.ok a g)) P := ⟨a, g, rfl, h⟩
theorem Sat.imp {α : Type} {m : M α} {P Q : α → Gh → Prop} (h : Sat m P) (hq : ∀ a g, P a g → Q a g) : Sat m Q := by
  obtain ⟨a, g, e, p⟩ := h
  exact ⟨a, g, e, hq a g p⟩
theorem Sat.seq {a b : FS} {ρ : List En} {g : Gh} {P : Fl → Gh → Prop} {Q : Fl → Gh → Prop} (h : Sat (a ρ g) P) (hk : ∀ f g1, P f g1 → (∃ ρ1, f = .nx ρ1 ∧ Sat (b ρ1 g1) Q) ∨ ((∀ ρ1, f ≠ .nx ρ1) ∧ Q f g1)) : Sat (sSeq a b ρ g) Q := by
  obtain ⟨f, g1, e, p⟩ := h
  unfold sSeq
  rw [e]
  rcases hk f g1 p with ⟨ρ1, rfl, h2⟩ | ⟨hn, q⟩
  · exact h2
  · cases f with
    | nx ρ1 => exact absurd rfl (hn ρ1)
    | bk ρ1 => exact .ok q
    | ct ρ1 => exact .ok q
    | rt d => exact .ok q
theorem p62 : (2 : Int) ^ 62 = 4611686018427387904 := by decide +kernel
theorem rng1_int {j : Int} (h0 : 0 ≤ j) (h : j ≤ 100000) : rng1 [.int j] = some (rngD 0 j.toNat) := by
  unfold rng1
  have c1 : -(2 ^ 62) ≤ j := by rw [p62]; omega
  have c2 : j < 2 ^ 62 := by rw [p62]; omega
  exact if_pos (ck_of ⟨c1, c2⟩)
theorem rng1_nat {n : Nat} (h : n ≤ 100000) : rng1 [.int (n : Nat)] = some (rngD 0 n) := by
  have := rng1_int (j := (n : Int)) (by omega) (by omega)
  rw [this]
  rfl
/-- the hand stands right -/
structure HOK (g : Gh) : Prop where
  i0 : 0 ≤ g.i
  r0 : 0 ≤ g.r
  r1 : g.r < 2147483647
end FD
set_option Elab.async false
set_option linter.all false
set_option maxRecDepth 100000
set_option maxHeartbeats 2000000
namespace FD
open PySem PySem.Spec PyProof.Rows L2
/-! # What the end of the top leaves, for this layer -/
theorem fun_of {K : PySem.W.Frag} {x qual : Str} {st : Stmt} {f : Addr} {fd : FuncData} (F : FunD K x qual (defArgs st) (defBody st) (defScope st) [] [] f fd) : Fun K x qual st f fd := by
  obtain ⟨oc, od, dV, kV, doc, pm, an, cdv, ct, osl, rfl, lk, hcd, hD, hK⟩ := F.ex
  rcases hD with ⟨_, rfl⟩ | ⟨e, _⟩
  · exact ⟨⟨oc, od, kV, doc, pm, an, cdv, ct, osl, rfl, lk, hcd⟩, F.kp⟩
  · exact absurd rfl e
def oexB (K : PySem.W.Frag) (C : Addr) : Bool := (match K.lookup C with
  | some ⟨.type c, _, .cls cd, sl⟩ => (match cd.mro, sl.toList with
    | .ref C' :: bm, [_, _, _, _, some (.builtin n), _] => c == "type" && (C' == C && (n == "ValueError.__new__" && (!cd.hasDel && (cd.hasDict && PySem.HandSPX.refsVE bm))))
    | _, _ => false)
  | _ => false) && (He.eqO (PySem.W.findIn K (.ref C) "__setattr__") (some (some (.builtin "object.__setattr__"))) && (decide (PySem.W.subIn K (.ref C) (.type "BaseException") = some true) && (decide (PySem.W.typeIn K (.ref C) = some (.type "type")) && PySem.W.keepIn K (.ref C))))
theorem oexB_ok {K : PySem.W.Frag} {C : Addr} (h : oexB K C = true) : OexC K C := by
  obtain ⟨h1, h⟩ := He.ba h
  obtain ⟨h2, h⟩ := He.ba h
  obtain ⟨h3, h⟩ := He.ba h
  obtain ⟨h4, h5⟩ := He.ba h
  refine ⟨?_, He.eqO_ok h2, of_decide_eq_true h3, of_decide_eq_true h4, h5⟩
  split at h1
  · rename_i c dd cd sl ho
    split at h1
    · rename_i C' bm k0 k1 k2 k3 n k5 hm hs
      simp only [Bool.and_eq_true, beq_iff_eq, Bool.not_eq_true'] at h1
      obtain ⟨rfl, rfl, rfl, hdel, hdc, ht⟩ := h1
      obtain ⟨nm, bs, mro, ns, qn, hd, sn, sub, ab, col, del⟩ := cd
      dsimp only at hm hdel hdc
      subst hm hdel hdc
      have hsl : sl = #[k0, k1, k2, k3, some (.builtin "ValueError.__new__"), k5] := by
        obtain ⟨l⟩ := sl
        simp only at hs
        rw [hs]
      subst hsl
      exact ⟨nm, qn, ns, bs, bm, sn, sub, ab, col, dd, k0, k1, k2, k3, k5, ho, ht⟩
    · cases h1
  · cases h1
/-- an own error with one field -/
def excB (K : PySem.W.Frag) (x f : Str) : Bool := He.eqO (PySem.W.nsIn K mainGlobals x) (some (some (.ref (He.ga K x)))) && (oexB K (He.ga K x) && (xfB K (He.ga K x) && (He.eqO (PySem.W.findIn K (.ref (He.ga K x)) f) (some none) && (He.eqO (PySem.W.findIn K (.ref (He.ga K x)) "__init__") (some (some (.ref (He.ma K (He.ga K x) "__init__")))) && (decide (PySem.W.typeIn K (.ref (He.ma K (He.ga K x) "__init__")) = some (.type "function")) && decide (PySem.W.exmOne K (.ref (He.ga K x)) (.ref (He.ga K x)) = some true))))))
theorem excB_ok {P : Program} {w : World} {K : PySem.W.Frag} {h : Heap} {mg : Str → Option Value} {base : Heap} {x f : Str} (X : K.In h) (G : h.Ns mainGlobals mg) (c : excB K x f = true) {fd : FuncData} {ps : List Str} (F : OexC K (He.ga K x) → FnOk P w K mg base CX0 1 (He.ma K (He.ga K x) "__init__") fd ps (spExI (He.ga K x) f)) (b : Binds K fd ps []) : ExcOk P w K mg base x f := by
  obtain ⟨c1, c⟩ := He.ba c
  obtain ⟨c2, c⟩ := He.ba c
  obtain ⟨c3, c⟩ := He.ba c
  obtain ⟨c4, c⟩ := He.ba c
  obtain ⟨c5, c⟩ := He.ba c
  obtain ⟨c6, c7⟩ := He.ba c
  exact ⟨_, _, fd, ps, He.glo_ok X G (x := x) c1, oexB_ok c2, xfB_ok c3, He.eqO_ok c4, He.eqO_ok c5, of_decide_eq_true c6, F (oexB_ok c2), b, of_decide_eq_true c7⟩
theorem excB_no {K : PySem.W.Frag} {x f : Str} (c : excB K x f = true) : PySem.W.findIn K (.ref (He.ga K x)) f = some none := by
  obtain ⟨c1, c⟩ := He.ba c
  obtain ⟨c2, c⟩ := He.ba c
  obtain ⟨c3, c⟩ := He.ba c
  exact He.eqO_ok (He.ba c).1
/-- a class whose things are told apart from the built-in ones -/
def clsIB (K : PySem.W.Frag) (x : Str) : Bool := He.eqO (PySem.W.findIn K (.ref (He.ga K x)) "__class__") (some (some (.builtin "object.__class__"))) && (He.eqO (PySem.W.specialIn K (.builtin "object.__class__") "__get__") (some (some (.builtin "getset_descriptor.__get__"))) && (decide (PySem.W.takesIn K (.builtin "object.__class__") = some true) && (decide (PySem.W.mroIn K (He.ga K x) (.type "object") = some true) && (["int", "bool", "str", "tuple", "list"].all fun t => decide (PySem.W.kitOne K (.ref (He.ga K x)) (.type t) = some false)))))
theorem clsIB_ok {K : PySem.W.Frag} {x : Str} (cl : Cls K (He.ga K x)) (c : clsIB K x = true) : ClsI K (He.ga K x) := by
  obtain ⟨c1, c⟩ := He.ba c
  obtain ⟨c2, c⟩ := He.ba c
  obtain ⟨c3, c⟩ := He.ba c
  obtain ⟨c4, c5⟩ := He.ba c
  exact ⟨cl, He.eqO_ok c1, He.eqO_ok c2, of_decide_eq_true c3, of_decide_eq_true c4, fun t ht => of_decide_eq_true (List.all_eq_true.mp c5 t (by
    rcases ht with rfl | rfl | rfl | rfl | rfl <;> simp))⟩
/-! ### constants -/
def ctB (K : PySem.W.Frag) (x : Str) (zs : List Str) : Bool := He.eqO (PySem.W.nsIn K mainGlobals x) (some (some (.ref (He.ga K x)))) && He.tupB K x (zs.map .str)
theorem ctB_ok {K : PySem.W.Frag} {h : Heap} {mg : Str → Option Value} {x : Str} {zs : List Str} (X : K.In h) (G : h.Ns mainGlobals mg) (c : ctB K x zs = true) : ConstOk K mg x (.tup (zs.map .str)) := by
  obtain ⟨c1, c2⟩ := He.ba c
  refine ⟨.ref (He.ga K x), _, He.glo_ok X G (x := x) c1, rfl, fun ah S => .tup (He.tupB_ok c2 S) ?_⟩
  have e : (zs.map He.Dv.str).map (He.Dv.v K) = strsV zs := by
    unfold strsV
    rw [List.map_map]
    rfl
  rw [e]
  exact Dns.strs zs
theorem ciOk {K : PySem.W.Frag} {h : Heap} {mg : Str → Option Value} {x : Str} {i : Int} (X : K.In h) (G : h.Ns mainGlobals mg) (c : (He.Fa.int x i).ok K = true) : ConstOk K mg x (.int i) := by
  obtain ⟨t, e⟩ := He.int_ok X G c
  exact ⟨.int i, _, e, ⟨t, rfl⟩, fun ah S => .int i⟩
/-! ### the Hook: the library's facts, and one Bool more -/
abbrev AlF : Type := He.AlD × Bool
def obsF (n : Nat) (fa : List He.Fa) (fn : List He.DefD) (ex : PySem.W.Frag → Bool) (g : Addr → Option Obj) : AlF := (He.obsD fa fn (He.frG g (He.asD g n)), ex (He.frG g (He.asD g n)))
def valF (fn : List He.DefD) : AlF := (He.valD fn, true)
def hookF (n : Nat) (fa : List He.Fa) (fn : List He.DefD) (ex : PySem.W.Frag → Bool) : PySem.W.Hook where
  α := AlF
  obs := fun s => obsF n fa fn ex s.heap.get?
  val := fun _ => valF fn
  says := fun _ h => ∃ K : PySem.W.Frag, K.In h ∧ He.SaysD fa fn K ∧ ex K = true
  of := fun _ _ e => ⟨_, He.frG_in, congrArg (fun z : AlF => z.1) e, congrArg (fun z : AlF => z.2) e⟩
  keeps := fun _ _ _ ⟨K, hK, c⟩ k => ⟨K, PySem.W.Frag.In.keeps hK k, c⟩
theorem obsF_eq {n : Nat} {fa : List He.Fa} {fn : List He.DefD} {ex : PySem.W.Frag → Bool} {g : Addr → Option Obj} {s : Shared} (h : ∀ a, g a = s.heap.get? a) : obsF n fa fn ex g = (hookF n fa fn ex).obs s := by
  have e : g = s.heap.get? := funext h
  rw [e] <;> rfl
end FD
set_option Elab.async false
set_option linter.all false
set_option maxRecDepth 100000
set_option maxHeartbeats 4000000
namespace Kk01
open PySem L2 PyProof.Rows FD
/-! ### the text -/
def top (i : Nat) : Stmt := PySem.Challenge.pw_onepicture_k01_plays_judged.main.body.getD i (.Pass ⟨0, 0, 0, 0⟩)
def k_MANNERS : D := .tup [.str "sweep", .str "twice", .str "borrow"]
def k_KINDS : D := .tup [.str "sweep", .str "twice", .str "borrow", .str "levels", .str "names", .str "near", .str "chain"]
def k_MOST_HANDS : D := .int 5
def k_MOST_DEEDS : D := .int 6
def k_MOST_ROUNDS : D := .int 6
def k_NEAR_MOST : D := .int 1000
def k_NUMBER_LIMIT : D := .int 1000
def k_LOT_LIMIT : D := .int 20
structure Txt (P : Program) (w : World) (K : PySem.W.Frag) (mg : Str → Option Value) (base : Heap) : Prop where
  b_all : mg "all" = none
  b_bool : mg "bool" = none
  b_int : mg "int" = none
  b_isinstance : mg "isinstance" = none
  b_len : mg "len" = none
  b_list : mg "list" = none
  b_range : mg "range" = none
  b_set : mg "set" = none
  b_sorted : mg "sorted" = none
  b_str : mg "str" = none
  b_tuple : mg "tuple" = none
  b_type : mg "type" = none
  b_zip : mg "zip" = none
  c_KINDS : ConstOk K mg "KINDS" k_KINDS
  c_LOT_LIMIT : ConstOk K mg "LOT_LIMIT" k_LOT_LIMIT
  c_MANNERS : ConstOk K mg "MANNERS" k_MANNERS
  c_MOST_DEEDS : ConstOk K mg "MOST_DEEDS" k_MOST_DEEDS
  c_MOST_HANDS : ConstOk K mg "MOST_HANDS" k_MOST_HANDS
  c_MOST_ROUNDS : ConstOk K mg "MOST_ROUNDS" k_MOST_ROUNDS
  c_NEAR_MOST : ConstOk K mg "NEAR_MOST" k_NEAR_MOST
  c_NUMBER_LIMIT : ConstOk K mg "NUMBER_LIMIT" k_NUMBER_LIMIT
  x_BadPlay : ExcOk P w K mg base "BadPlay" "part"
  play : ∀ C, mg "Play" = some (.ref C) → ClsI K C
  play_kind : ∀ C, mg "Play" = some (.ref C) → NoAttr K C "kind"
  play_inputs : ∀ C, mg "Play" = some (.ref C) → NoAttr K C "inputs"
abbrev s_many_hands : Stmt := top 19
theorem sc_many_hands : FnScope ["play"] ["play"] (defScope s_many_hands) := ⟨rfl, rfl, rfl, by decide +kernel, rfl, by decide +kernel, by decide +kernel⟩
noncomputable def b_many_hands : FS := (sSeq (sIf (cT (cOp eqD (c1 (fldD "kind") (cV 0)) (cD (.str "near")))) (sRet (cCall lenD (cC (cOp ixD (c1 (fldD "inputs") (cV 0)) (cD (.int 1))) cN))) sNx) (sRet (cCall lenD (cC (c1 (fldD "inputs") (cV 0)) cN))))
noncomputable def f_many_hands : List D → Gh → M D := fun ds g => noX (fnOf 1 b_many_hands ds g)
theorem d_many_hands {P : Program} {w : World} {K : PySem.W.Frag} {mg : Str → Option Value} {base : Heap} (T : Txt P w K mg base) (A : DefAt K mg "many_hands" s_many_hands ["play"])  : DefOk P w K mg base CX0 "many_hands" 1 1 f_many_hands :=
  A.ok sc_many_hands rfl (by decide) fun f cdv A outer s H E ah hr => by
    exact (pfss_cons (pfs_if (pft_cmp (op_eqD (hu64 hr)) os_eq (pf_fld (fun C h => ⟨(T.play C h).cl, T.play_kind C h⟩) (pf_v 0)) pf_str (nomark _)) (pfss_one (pfs_ret (pf_len T.b_len (pfa_cons (pf_ix ix_D os_ix (pf_fld (fun C h => ⟨(T.play C h).cl, T.play_inputs C h⟩) (pf_v 0)) pf_int (fun _ _ => rfl)) pfa_nil)))) pfss_nil) (pfss_one (pfs_ret (pf_len T.b_len (pfa_cons (pf_fld (fun C h => ⟨(T.play C h).cl, T.play_inputs C h⟩) (pf_v 0)) pfa_nil)))))
abbrev s_law_is_integer : Stmt := top 29
theorem sc_law_is_integer : FnScope ["thing"] ["thing"] (defScope s_law_is_integer) := ⟨rfl, rfl, rfl, by decide +kernel, rfl, by decide +kernel, by decide +kernel⟩
noncomputable def b_law_is_integer : FS := (sRet (cAndV (cIs "int" (cV 0)) (c1 nB (cIs "bool" (cV 0)))))
noncomputable def f_law_is_integer : List D → Gh → M D := fun ds g => noX (fnOf 1 b_law_is_integer ds g)
theorem d_law_is_integer {P : Program} {w : World} {K : PySem.W.Frag} {mg : Str → Option Value} {base : Heap} (T : Txt P w K mg base) (A : DefAt K mg "_law_is_integer" s_law_is_integer ["thing"])  : DefOk P w K mg base CX0 "_law_is_integer" 1 1 f_law_is_integer :=
  A.ok sc_law_is_integer rfl (by decide) fun f cdv A outer s H E ah hr => by
    exact (pfss_one (pfs_ret (pf_and (pf_is (t := "int") (by simp) T.play T.b_isinstance T.b_int (by decide +kernel) (pf_v 0)) (pf_one (pf_not (pf_is (t := "bool") (by simp) T.play T.b_isinstance T.b_bool (by decide +kernel) (pf_v 0)))))))
abbrev s_law_same : Stmt := top 31
theorem sc_law_same : FnScope ["actual", "due", "one", "other"] ["actual", "due"] (defScope s_law_same) := ⟨rfl, rfl, rfl, by decide +kernel, rfl, by decide +kernel, by decide +kernel⟩
noncomputable def b_law_same (f_REC : List D → Gh → M D) : FS := (sSeq (sIf (cT (cOp isND (cV 1) (cD .non))) (sRet (cOp isND (cV 0) (cD .non))) sNx) (sSeq (sIf (cT (cOp isBlD (cV 1) (cD (.bl true)))) (sRet (cOp isBlD (cV 0) (cD (.bl true)))) sNx) (sSeq (sIf (cT (cOp isBlD (cV 1) (cD (.bl false)))) (sRet (cOp isBlD (cV 0) (cD (.bl false)))) sNx) (sSeq (sIf (cT (cIs "int" (cV 1))) (sRet (cAndV (cFn 1 f_law_is_integer (cC (cV 0) cN)) (cOp eqD (cV 0) (cV 1)))) sNx) (sSeq (sIf (cT (cIs "str" (cV 1))) (sRet (cAndV (cIs "str" (cV 0)) (cOp eqD (cV 0) (cV 1)))) sNx) (sSeq (sIf (cOr (cT (cOp neD (cIs "tuple" (cV 1)) (cIs "tuple" (cV 0)))) (cT (cOp neD (cIs "list" (cV 1)) (cIs "list" (cV 0))))) (sRet (cD (.bl false))) sNx) (sSeq (sIf (cT (cOp neD (cCall lenD (cC (cV 0) cN)) (cCall lenD (cC (cV 1) cN)))) (sRet (cD (.bl false))) sNx) (sSeq (sFor (iZ (cC (cV 0) (cC (cV 1) cN))) (gT 2 (gsC (gN 2) (gsC (gN 3) gsN))) (sIf (cNot (cT (cFn 2 f_REC (cC (cV 2) (cC (cV 3) cN))))) (sRet (cD (.bl false))) sNx)) (sRet (cD (.bl true)))))))))))
noncomputable def f_law_same_at : Nat → List D → Gh → M D
  | 0 => fun _ _ => none
  | n + 1 => fun ds g => noX (fnOf 4 (b_law_same (f_law_same_at n)) ds g)
theorem d_law_same_step {P : Program} {w : World} {K : PySem.W.Frag} {mg : Str → Option Value} {base : Heap} {m k : Nat} (hk : 1 ≤ k) (T : Txt P w K mg base) (A : DefAt K mg "_law_same" s_law_same ["actual", "due"]) (d_law_is_integer : DefOk P w K mg base CX0 "_law_is_integer" 1 1 f_law_is_integer) (d_REC : DefOk P w K mg base CX0 "_law_same" k 2 (f_law_same_at m)) : DefOk P w K mg base CX0 "_law_same" (k + 1) 2 (f_law_same_at (m + 1)) :=
  A.ok sc_law_same rfl (by decide) fun f cdv A outer s H E ah hr => by
    exact (pfss_cons (pfs_if (pft_cmp op_isN os_isN (pf_v 1) pf_non (nomark _)) (pfss_one (pfs_ret (pf_cmp op_isN os_isN (pf_v 0) pf_non (nomark _)))) pfss_nil) (pfss_cons (pfs_if (pft_cmp op_isBlA os_isBl (pf_v 1) pf_bl (nomark _)) (pfss_one (pfs_ret (pf_cmp op_isBlA os_isBl (pf_v 0) pf_bl (nomark _)))) pfss_nil) (pfss_cons (pfs_if (pft_cmp op_isBlA os_isBl (pf_v 1) pf_bl (nomark _)) (pfss_one (pfs_ret (pf_cmp op_isBlA os_isBl (pf_v 0) pf_bl (nomark _)))) pfss_nil) (pfss_cons (pfs_if (pft_val (pf_is (t := "int") (by simp) T.play T.b_isinstance T.b_int (by decide +kernel) (pf_v 1))) (pfss_one (pfs_ret (pf_and (pf_call d_law_is_integer (hr.mono (by omega)) (pfa_cons (pf_v 0) pfa_nil)) (pf_one (pf_cmp (op_eqD (hu64 hr)) os_eq (pf_v 0) (pf_v 1) (nomark _)))))) pfss_nil) (pfss_cons (pfs_if (pft_val (pf_is (t := "str") (by simp) T.play T.b_isinstance T.b_str (by decide +kernel) (pf_v 1))) (pfss_one (pfs_ret (pf_and (pf_is (t := "str") (by simp) T.play T.b_isinstance T.b_str (by decide +kernel) (pf_v 0)) (pf_one (pf_cmp (op_eqD (hu64 hr)) os_eq (pf_v 0) (pf_v 1) (nomark _)))))) pfss_nil) (pfss_cons (pfs_if (pft_w (pfw_or (pft_cmp (op_neD (hu64 hr)) os_ne (pf_is (t := "tuple") (by simp) T.play T.b_isinstance T.b_tuple (by decide +kernel) (pf_v 1)) (pf_is (t := "tuple") (by simp) T.play T.b_isinstance T.b_tuple (by decide +kernel) (pf_v 0)) (nomark _)) (pfw_or1 (pft_cmp (op_neD (hu64 hr)) os_ne (pf_is (t := "list") (by simp) T.play T.b_isinstance T.b_list (by decide +kernel) (pf_v 1)) (pf_is (t := "list") (by simp) T.play T.b_isinstance T.b_list (by decide +kernel) (pf_v 0)) (nomark _))))) (pfss_one (pfs_ret pf_bl)) pfss_nil) (pfss_cons (pfs_if (pft_cmp (op_neD (hu64 hr)) os_ne (pf_len T.b_len (pfa_cons (pf_v 0) pfa_nil)) (pf_len T.b_len (pfa_cons (pf_v 1) pfa_nil)) (nomark _)) (pfss_one (pfs_ret pf_bl)) pfss_nil) (pfss_cons (pfs_for PassesOwn.never rfl (pfi_zip T.b_zip (pfa_cons (pf_v 0) (pfa_cons (pf_v 1) pfa_nil))) (pfg_tup rfl (pfgs_cons (pfg_n 2 sc_law_same.nd) (pfgs_cons (pfg_n 3 sc_law_same.nd) pfgs_nil))) (pfss_one (pfs_if (pft_not (pft_val (pf_call d_REC (hr.mono (by omega)) (pfa_cons (pf_v 2) (pfa_cons (pf_v 3) pfa_nil))))) (pfss_one (pfs_ret pf_bl)) pfss_nil))) (pfss_one (pfs_ret pf_bl))))))))))
noncomputable def f_law_same : List D → Gh → M D := f_law_same_at 45
theorem d_law_same_all {P : Program} {w : World} {K : PySem.W.Frag} {mg : Str → Option Value} {base : Heap} (T : Txt P w K mg base) (A : DefAt K mg "_law_same" s_law_same ["actual", "due"]) (d_law_is_integer : DefOk P w K mg base CX0 "_law_is_integer" 1 1 f_law_is_integer) : ∀ m, DefOk P w K mg base CX0 "_law_same" (1 + m) 2 (f_law_same_at m)
  | 0 => by
    obtain ⟨f, fd, F, hm, hb⟩ := A
    exact ⟨f, fd, _, ⟨fun vs H Q E ⟨ah, S, g, ds, hl, R, hv, G⟩ => G.elim, fun A outer s H args us vs Q E hr h1 h2 h3 ⟨ah, S, g, ds, hl, R, hv, G⟩ => G.elim⟩, hm, F.kp, hb⟩
  | m + 1 => d_law_same_step (k := 1 + m) (by omega) T A d_law_is_integer (d_law_same_all T A d_law_is_integer m)
theorem d_law_same {P : Program} {w : World} {K : PySem.W.Frag} {mg : Str → Option Value} {base : Heap} (T : Txt P w K mg base) (A : DefAt K mg "_law_same" s_law_same ["actual", "due"]) (d_law_is_integer : DefOk P w K mg base CX0 "_law_is_integer" 1 1 f_law_is_integer) : DefOk P w K mg base CX0 "_law_same" 46 2 f_law_same := d_law_same_all T A d_law_is_integer 45
abbrev s_law_take : Stmt := top 27
theorem sc_law_take : FnScope ["hand", "many", "number", "cell", "found"] ["hand", "many"] (defScope s_law_take) := ⟨rfl, rfl, rfl, by decide +kernel, rfl, by decide +kernel, by decide +kernel⟩
noncomputable def b_law_take : FS := (sSeq (sH 0 4 (cOp addD (cH 0 4) (cD (.int 1)))) (sSeq (sIf (cAnd (cT (cOp eqD (cH 0 2) (cD (.int 0)))) (cT (cOp ltD (cH 0 1) (cCall lenD (cC (cH 0 0) cN))))) (sSeq (sAsg (cCall intOf (cC (cOp ixD (cH 0 0) (cH 0 1)) cN)) (gN 3)) (sSeq (sH 0 1 (cOp addD (cH 0 1) (cD (.int 1)))) (sIf (cT (cOp geD (cV 3) (cOp powD (cD (.int 10)) (cD (.int 18))))) (sH 0 2 (cV 3)) (sH 0 3 (cOp modD (cCall intOf (cC (cOp addD (cOp addD (cOp mulD (cH 0 3) (cD (.int 48271))) (cOp modD (cCall intOf (cC (cV 3) cN)) (cD (.int 2147483647)))) (cD (.int 1))) cN)) (cD (.int 2147483647))))))) sNx) (sSeq (sIf (cT (cOp gtD (cH 0 2) (cD (.int 0)))) (sSeq (sAsg (cOp modD (cCall intOf (cC (cH 0 2) cN)) (cV 1)) (gN 4)) (sSeq (sH 0 2 (cOp divD (cCall intOf (cC (cH 0 2) cN)) (cV 1))) (sRet (cV 4)))) sNx) (sSeq (sH 0 3 (cOp modD (cCall intOf (cC (cOp addD (cOp mulD (cH 0 3) (cD (.int 69621))) (cOp mulD (cD (.int 7919)) (cH 0 4))) cN)) (cD (.int 2147483647)))) (sSeq (sAsg (cOp modD (cCall intOf (cC (cOp mulD (cH 0 3) (cOp addD (cOp divD (cH 0 3) (cD (.int 1009))) (cD (.int 69621)))) cN)) (cD (.int 2147483647))) (gN 2)) (sSeq (sAsg (cOp modD (cCall intOf (cC (cOp mulD (cV 2) (cOp addD (cOp divD (cV 2) (cD (.int 2003))) (cD (.int 40692)))) cN)) (cD (.int 2147483399))) (gN 2)) (sRet (cOp modD (cCall intOf (cC (cOp divD (cV 2) (cD (.int 16))) cN)) (cV 1)))))))))
noncomputable def f_law_take : List D → Gh → M D := fun ds g => noX (fnOf 5 b_law_take ds g)
theorem d_law_take {P : Program} {w : World} {K : PySem.W.Frag} {mg : Str → Option Value} {base : Heap} (T : Txt P w K mg base) (A : DefAt K mg "_law_take" s_law_take ["hand", "many"])  : DefOk P w K mg base CX0 "_law_take" 1 2 f_law_take :=
  A.ok sc_law_take rfl (by decide) fun f cdv A outer s H E ah hr => by
    exact (pfss_cons (pfs_h 0 (pf_bin op_addD os_add (pf_h 0) pf_int)) (pfss_cons (pfs_if (pft_w (pfw_and (pft_cmp (op_eqD (hu64 hr)) os_eq (pf_h 0) pf_int (nomark _)) (pfw_and1 (pft_cmp op_lt os_lt (pf_h 0) (pf_len T.b_len (pfa_cons (pf_h 0) pfa_nil)) (nomark _))))) (pfss_cons (pfs_set 3 sc_law_take.nd (pf_callTy call_int1 cs_int T.b_int (by decide +kernel) (pfa_cons (pf_ix ix_D os_ix (pf_h 0) (pf_h 0) (fun _ _ => rfl)) pfa_nil))) (pfss_cons (pfs_h 0 (pf_bin op_addD os_add (pf_h 0) pf_int)) (pfss_one (pfs_if (pft_cmp op_ge os_ge (pf_v 3) (pf_bin op_pow os_pow pf_int pf_int) (nomark _)) (pfss_one (pfs_h 0 (pf_v 3))) (pfss_one (pfs_h 0 (pf_bin op_modN os_mod (pf_callTy call_int1 cs_int T.b_int (by decide +kernel) (pfa_cons (pf_bin op_addD os_add (pf_bin op_addD os_add (pf_bin op_mulD os_mul (pf_h 0) pf_int) (pf_bin op_modN os_mod (pf_callTy call_int1 cs_int T.b_int (by decide +kernel) (pfa_cons (pf_v 3) pfa_nil)) pf_int)) pf_int) pfa_nil)) pf_int))))))) pfss_nil) (pfss_cons (pfs_if (pft_cmp op_gt os_gt (pf_h 0) pf_int (nomark _)) (pfss_cons (pfs_set 4 sc_law_take.nd (pf_bin op_modN os_mod (pf_callTy call_int1 cs_int T.b_int (by decide +kernel) (pfa_cons (pf_h 0) pfa_nil)) (pf_v 1))) (pfss_cons (pfs_h 0 (pf_bin op_fdivN os_div (pf_callTy call_int1 cs_int T.b_int (by decide +kernel) (pfa_cons (pf_h 0) pfa_nil)) (pf_v 1))) (pfss_one (pfs_ret (pf_v 4))))) pfss_nil) (pfss_cons (pfs_h 0 (pf_bin op_modN os_mod (pf_callTy call_int1 cs_int T.b_int (by decide +kernel) (pfa_cons (pf_bin op_addD os_add (pf_bin op_mulD os_mul (pf_h 0) pf_int) (pf_bin op_mulD os_mul pf_int (pf_h 0))) pfa_nil)) pf_int)) (pfss_cons (pfs_set 2 sc_law_take.nd (pf_bin op_modN os_mod (pf_callTy call_int1 cs_int T.b_int (by decide +kernel) (pfa_cons (pf_bin op_mulD os_mul (pf_h 0) (pf_bin op_addD os_add (pf_bin op_fdivN os_div (pf_h 0) pf_int) pf_int)) pfa_nil)) pf_int)) (pfss_cons (pfs_set 2 sc_law_take.nd (pf_bin op_modN os_mod (pf_callTy call_int1 cs_int T.b_int (by decide +kernel) (pfa_cons (pf_bin op_mulD os_mul (pf_v 2) (pf_bin op_addD os_add (pf_bin op_fdivN os_div (pf_v 2) pf_int) pf_int)) pfa_nil)) pf_int)) (pfss_one (pfs_ret (pf_bin op_modN os_mod (pf_callTy call_int1 cs_int T.b_int (by decide +kernel) (pfa_cons (pf_bin op_fdivN os_div (pf_v 2) pf_int) pfa_nil)) (pf_v 1))))))))))
abbrev s_law_pick : Stmt := top 28
theorem sc_law_pick : FnScope ["hand", "things"] ["hand", "things"] (defScope s_law_pick) := ⟨rfl, rfl, rfl, by decide +kernel, rfl, by decide +kernel, by decide +kernel⟩
noncomputable def b_law_pick : FS := (sRet (cOp ixD (cV 1) (cFn 2 f_law_take (cC (cV 0) (cC (cCall lenD (cC (cV 1) cN)) cN)))))
noncomputable def f_law_pick : List D → Gh → M D := fun ds g => noX (fnOf 2 b_law_pick ds g)
theorem d_law_pick {P : Program} {w : World} {K : PySem.W.Frag} {mg : Str → Option Value} {base : Heap} (T : Txt P w K mg base) (A : DefAt K mg "_law_pick" s_law_pick ["hand", "things"]) (d_law_take : DefOk P w K mg base CX0 "_law_take" 1 2 f_law_take) : DefOk P w K mg base CX0 "_law_pick" 2 2 f_law_pick :=
  A.ok sc_law_pick rfl (by decide) fun f cdv A outer s H E ah hr => by
    exact (pfss_one (pfs_ret (pf_ix ix_D os_ix (pf_v 1) (pf_call d_law_take (hr.mono (by decide)) (pfa_cons (pf_v 0) (pfa_cons (pf_len T.b_len (pfa_cons (pf_v 1) pfa_nil)) pfa_nil))) (fun _ _ => rfl))))
abbrev s_law_script : Stmt := top 33
theorem sc_law_script : FnScope ["hand", "most", "found", "k"] ["hand", "most"] (defScope s_law_script) := ⟨rfl, rfl, rfl, by decide +kernel, rfl, by decide +kernel, by decide +kernel⟩
noncomputable def b_law_script : FS := (sSeq (sOwn 2) (sSeq (sFor (iR1 (cC (cFn 2 f_law_take (cC (cV 0) (cC (cOp addD (cV 1) (cD (.int 1))) cN))) cN)) (gN 3) (sIf (cT (cOp eqD (cFn 2 f_law_take (cC (cV 0) (cC (cD (.int 2)) cN))) (cD (.int 0)))) (sApp 2 (cTup (cC (cD (.str "see")) cN))) (sApp 2 (cTup (cC (cD (.str "put")) (cC (cFn 2 f_law_pick (cC (cV 0) (cC (cLst (cC (cD (.int 0)) (cC (cD (.int 1)) (cC (cD (.int 2)) (cC (cD (.int 7)) (cC (cD (.int 999)) (cC (cFn 2 f_law_take (cC (cV 0) (cC (cD (.int 1000)) cN))) cN))))))) cN))) cN)))))) (sFrz 2 (sRet (cCall tupleD (cC (cV 2) cN))))))
noncomputable def f_law_script : List D → Gh → M D := fun ds g => noX (fnOf 4 b_law_script ds g)
theorem d_law_script {P : Program} {w : World} {K : PySem.W.Frag} {mg : Str → Option Value} {base : Heap} (T : Txt P w K mg base) (A : DefAt K mg "_law_script" s_law_script ["hand", "most"]) (d_law_take : DefOk P w K mg base CX0 "_law_take" 1 2 f_law_take) (d_law_pick : DefOk P w K mg base CX0 "_law_pick" 2 2 f_law_pick) : DefOk P w K mg base CX0 "_law_script" 3 2 f_law_script :=
  A.ok sc_law_script rfl (by decide) fun f cdv A outer s H E ah hr => by
    exact (pfss_cons (pfs_own0 2 sc_law_script.nd) (pfss_cons (pfs_for PassesOwn.never rfl (pfi_rng1 T.b_range (pfa_cons (pf_call d_law_take (hr.mono (by decide)) (pfa_cons (pf_v 0) (pfa_cons (pf_bin op_addD os_add (pf_v 1) pf_int) pfa_nil))) pfa_nil)) (pfg_n 3 sc_law_script.nd) (pfss_one (pfs_if (pft_cmp (op_eqD (hu64 hr)) os_eq (pf_call d_law_take (hr.mono (by decide)) (pfa_cons (pf_v 0) (pfa_cons pf_int pfa_nil))) pf_int (nomark _)) (pfss_one (pfs_app 2 (pf_tup (pfa_cons pf_str pfa_nil)))) (pfss_one (pfs_app 2 (pf_tup (pfa_cons pf_str (pfa_cons (pf_call d_law_pick (hr.mono (by decide)) (pfa_cons (pf_v 0) (pfa_cons (pf_lst (pfa_cons pf_int (pfa_cons pf_int (pfa_cons pf_int (pfa_cons pf_int (pfa_cons pf_int (pfa_cons (pf_call d_law_take (hr.mono (by decide)) (pfa_cons (pf_v 0) (pfa_cons pf_int pfa_nil))) pfa_nil))))))) pfa_nil))) pfa_nil)))))))) (pfss_frz 2 (pfss_one (pfs_ret (pf_callTy call_tuple_of cs_tuple T.b_tuple (by decide +kernel) (pfa_cons (pf_v 2) pfa_nil)))))))
abbrev s_law_manner : Stmt := top 34
theorem sc_law_manner : FnScope ["hand", "many", "most", "k"] ["hand"] (defScope s_law_manner) := ⟨rfl, rfl, rfl, by decide +kernel, rfl, by decide +kernel, by decide +kernel⟩
noncomputable def b_law_manner : FS := (sSeq (sAsg (cFn 2 f_law_pick (cC (cV 0) (cC (cLst (cC (cD (.int 1)) (cC (cD (.int 2)) (cC (cD (.int 2)) (cC (cD (.int 3)) (cC (cD (.int 3)) (cC (cD (.int 4)) (cC (cD (.int 5)) cN)))))))) cN))) (gN 1)) (sSeq (sAsg (cFn 2 f_law_pick (cC (cV 0) (cC (cLst (cC (cD (.int 1)) (cC (cD (.int 2)) (cC (cD (.int 3)) (cC (cD (.int 6)) cN))))) cN))) (gN 2)) (sRet (cTup (cC (cFn 2 f_law_pick (cC (cV 0) (cC (cLst (cC (cD (.str "sweep")) (cC (cD (.str "twice")) (cC (cD (.str "borrow")) (cC (cD (.str "borrow")) cN))))) cN))) (cC (cCall tupleD (cC (cLc (iR1 (cC (cV 1) cN)) [3] (gN 3) tY (cFn 2 f_law_script (cC (cV 0) (cC (cV 2) cN)))) cN)) cN))))))
noncomputable def f_law_manner : List D → Gh → M D := fun ds g => noX (fnOf 4 b_law_manner ds g)
theorem d_law_manner {P : Program} {w : World} {K : PySem.W.Frag} {mg : Str → Option Value} {base : Heap} (T : Txt P w K mg base) (A : DefAt K mg "_law_manner" s_law_manner ["hand"]) (d_law_pick : DefOk P w K mg base CX0 "_law_pick" 2 2 f_law_pick) (d_law_script : DefOk P w K mg base CX0 "_law_script" 3 2 f_law_script) : DefOk P w K mg base CX0 "_law_manner" 4 1 f_law_manner :=
  A.ok sc_law_manner rfl (by decide) fun f cdv A outer s H E ah hr => by
    exact (pfss_cons (pfs_set 1 sc_law_manner.nd (pf_call d_law_pick (hr.mono (by decide)) (pfa_cons (pf_v 0) (pfa_cons (pf_lst (pfa_cons pf_int (pfa_cons pf_int (pfa_cons pf_int (pfa_cons pf_int (pfa_cons pf_int (pfa_cons pf_int (pfa_cons pf_int pfa_nil)))))))) pfa_nil)))) (pfss_cons (pfs_set 2 sc_law_manner.nd (pf_call d_law_pick (hr.mono (by decide)) (pfa_cons (pf_v 0) (pfa_cons (pf_lst (pfa_cons pf_int (pfa_cons pf_int (pfa_cons pf_int (pfa_cons pf_int pfa_nil))))) pfa_nil)))) (pfss_one (pfs_ret (pf_tup (pfa_cons (pf_call d_law_pick (hr.mono (by decide)) (pfa_cons (pf_v 0) (pfa_cons (pf_lst (pfa_cons pf_str (pfa_cons pf_str (pfa_cons pf_str (pfa_cons pf_str pfa_nil))))) pfa_nil))) (pfa_cons (pf_callTy call_tuple_of cs_tuple T.b_tuple (by decide +kernel) (pfa_cons (pf_lc [("k", 3)] sc_law_manner.nd (pfi_rng1 T.b_range (pfa_cons (pf_v 1) pfa_nil)) (fun _ => (pfg_n 3 sc_law_manner.nd)) (fun _ => pfts_nil) (fun _ => (pf_call d_law_script (hr.mono (by decide)) (pfa_cons (pf_v 0) (pfa_cons (pf_v 2) pfa_nil)))) (blkOk_by (N := ["hand", "many", "most", "k"]) (sc := defScope s_law_manner) (by decide +kernel))) pfa_nil)) pfa_nil)))))))
abbrev s_law_some_play : Stmt := top 35
theorem sc_law_some_play : FnScope ["hand", "turn", "many", "first", "names", "lots", "k", "number"] ["hand"] (defScope s_law_some_play) := ⟨rfl, rfl, rfl, by decide +kernel, rfl, by decide +kernel, by decide +kernel⟩
noncomputable def b_law_some_play : FS := (sSeq (sAsg (cFn 2 f_law_take (cC (cV 0) (cC (cD (.int 8)) cN))) (gN 1)) (sSeq (sAsg (cFn 2 f_law_pick (cC (cV 0) (cC (cLst (cC (cD (.int 1)) (cC (cD (.int 2)) (cC (cD (.int 3)) (cC (cD (.int 4)) (cC (cD (.int 5)) cN)))))) cN))) (gN 2)) (sSeq (sIf (cT (cOp eqD (cV 1) (cD (.int 0)))) (sRet (cTup (cC (cD (.str "levels")) (cC (cCall tupleD (cC (cLc (iR1 (cC (cV 2) cN)) [6] (gN 6) tY (cFn 2 f_law_take (cC (cV 0) (cC (cD (.int 1000)) cN)))) cN)) cN)))) sNx) (sSeq (sIf (cT (cOp eqD (cV 1) (cD (.int 1)))) (sSeq (sAsg (cFn 2 f_law_take (cC (cV 0) (cC (cD (.int 900)) cN))) (gN 3)) (sSeq (sAsg (cLc (iR1 (cC (cV 2) cN)) [6] (gN 6) tY (cOp addD (cV 3) (cOp mulD (cD (.int 17)) (cV 6)))) (gN 4)) (sSeq (sIf (cT (cOp eqD (cFn 2 f_law_take (cC (cV 0) (cC (cD (.int 2)) cN))) (cD (.int 0)))) (sAsg (cLc (iR1 (cC (cV 2) cN)) [6] (gN 6) tY (cOp ixD (cV 4) (cOp subD (cOp subD (cV 2) (cD (.int 1))) (cV 6)))) (gN 4)) sNx) (sRet (cTup (cC (cD (.str "names")) (cC (cCall tupleD (cC (cV 4) cN)) cN))))))) sNx) (sSeq (sIf (cT (cOp eqD (cV 1) (cD (.int 2)))) (sRet (cTup (cC (cD (.str "near")) (cC (cTup (cC (cOp addD (cD (.int 1)) (cFn 2 f_law_take (cC (cV 0) (cC (cD (.int 6)) cN)))) (cC (cCall tupleD (cC (cLc (iR1 (cC (cV 2) cN)) [6] (gN 6) tY (cOp subD (cFn 2 f_law_take (cC (cV 0) (cC (cD (.int 2001)) cN))) (cD (.int 1000)))) cN)) cN))) cN)))) sNx) (sSeq (sIf (cT (cOp eqD (cV 1) (cD (.int 3)))) (sSeq (sOwn 5) (sSeq (sFor (iR1 (cC (cV 2) cN)) (gN 6) (sApp 5 (cCall tupleD (cC (cLc (iR1 (cC (cD (.int 20)) cN)) [7] (gN 7) (cT (cOp eqD (cFn 2 f_law_take (cC (cV 0) (cC (cD (.int 5)) cN))) (cD (.int 0)))) (cV 7)) cN)))) (sFrz 5 (sRet (cTup (cC (cD (.str "chain")) (cC (cCall tupleD (cC (cV 5) cN)) cN))))))) sNx) (sRet (cFn 1 f_law_manner (cC (cV 0) cN)))))))))
noncomputable def f_law_some_play : List D → Gh → M D := fun ds g => noX (fnOf 8 b_law_some_play ds g)
theorem d_law_some_play {P : Program} {w : World} {K : PySem.W.Frag} {mg : Str → Option Value} {base : Heap} (T : Txt P w K mg base) (A : DefAt K mg "_law_some_play" s_law_some_play ["hand"]) (d_law_take : DefOk P w K mg base CX0 "_law_take" 1 2 f_law_take) (d_law_pick : DefOk P w K mg base CX0 "_law_pick" 2 2 f_law_pick) (d_law_manner : DefOk P w K mg base CX0 "_law_manner" 4 1 f_law_manner) : DefOk P w K mg base CX0 "_law_some_play" 5 1 f_law_some_play :=
  A.ok sc_law_some_play rfl (by decide) fun f cdv A outer s H E ah hr => by
    exact (pfss_cons (pfs_set 1 sc_law_some_play.nd (pf_call d_law_take (hr.mono (by decide)) (pfa_cons (pf_v 0) (pfa_cons pf_int pfa_nil)))) (pfss_cons (pfs_set 2 sc_law_some_play.nd (pf_call d_law_pick (hr.mono (by decide)) (pfa_cons (pf_v 0) (pfa_cons (pf_lst (pfa_cons pf_int (pfa_cons pf_int (pfa_cons pf_int (pfa_cons pf_int (pfa_cons pf_int pfa_nil)))))) pfa_nil)))) (pfss_cons (pfs_if (pft_cmp (op_eqD (hu64 hr)) os_eq (pf_v 1) pf_int (nomark _)) (pfss_one (pfs_ret (pf_tup (pfa_cons pf_str (pfa_cons (pf_callTy call_tuple_of cs_tuple T.b_tuple (by decide +kernel) (pfa_cons (pf_lc [("k", 6)] sc_law_some_play.nd (pfi_rng1 T.b_range (pfa_cons (pf_v 2) pfa_nil)) (fun _ => (pfg_n 6 sc_law_some_play.nd)) (fun _ => pfts_nil) (fun _ => (pf_call d_law_take (hr.mono (by decide)) (pfa_cons (pf_v 0) (pfa_cons pf_int pfa_nil)))) (blkOk_by (N := ["hand", "turn", "many", "first", "names", "lots", "k", "number"]) (sc := defScope s_law_some_play) (by decide +kernel))) pfa_nil)) pfa_nil))))) pfss_nil) (pfss_cons (pfs_if (pft_cmp (op_eqD (hu64 hr)) os_eq (pf_v 1) pf_int (nomark _)) (pfss_cons (pfs_set 3 sc_law_some_play.nd (pf_call d_law_take (hr.mono (by decide)) (pfa_cons (pf_v 0) (pfa_cons pf_int pfa_nil)))) (pfss_cons (pfs_set 4 sc_law_some_play.nd (pf_lc [("k", 6)] sc_law_some_play.nd (pfi_rng1 T.b_range (pfa_cons (pf_v 2) pfa_nil)) (fun _ => (pfg_n 6 sc_law_some_play.nd)) (fun _ => pfts_nil) (fun _ => (pf_bin op_addD os_add (pf_v 3) (pf_bin op_mulD os_mul pf_int (pf_v 6)))) (blkOk_by (N := ["hand", "turn", "many", "first", "names", "lots", "k", "number"]) (sc := defScope s_law_some_play) (by decide +kernel)))) (pfss_cons (pfs_if (pft_cmp (op_eqD (hu64 hr)) os_eq (pf_call d_law_take (hr.mono (by decide)) (pfa_cons (pf_v 0) (pfa_cons pf_int pfa_nil))) pf_int (nomark _)) (pfss_one (pfs_set 4 sc_law_some_play.nd (pf_lc [("k", 6)] sc_law_some_play.nd (pfi_rng1 T.b_range (pfa_cons (pf_v 2) pfa_nil)) (fun _ => (pfg_n 6 sc_law_some_play.nd)) (fun _ => pfts_nil) (fun _ => (pf_ix ix_D os_ix (pf_v 4) (pf_bin op_sub os_sub (pf_bin op_sub os_sub (pf_v 2) pf_int) (pf_v 6)) (fun _ _ => rfl))) (blkOk_by (N := ["hand", "turn", "many", "first", "names", "lots", "k", "number"]) (sc := defScope s_law_some_play) (by decide +kernel))))) pfss_nil) (pfss_one (pfs_ret (pf_tup (pfa_cons pf_str (pfa_cons (pf_callTy call_tuple_of cs_tuple T.b_tuple (by decide +kernel) (pfa_cons (pf_v 4) pfa_nil)) pfa_nil)))))))) pfss_nil) (pfss_cons (pfs_if (pft_cmp (op_eqD (hu64 hr)) os_eq (pf_v 1) pf_int (nomark _)) (pfss_one (pfs_ret (pf_tup (pfa_cons pf_str (pfa_cons (pf_tup (pfa_cons (pf_bin op_addD os_add pf_int (pf_call d_law_take (hr.mono (by decide)) (pfa_cons (pf_v 0) (pfa_cons pf_int pfa_nil)))) (pfa_cons (pf_callTy call_tuple_of cs_tuple T.b_tuple (by decide +kernel) (pfa_cons (pf_lc [("k", 6)] sc_law_some_play.nd (pfi_rng1 T.b_range (pfa_cons (pf_v 2) pfa_nil)) (fun _ => (pfg_n 6 sc_law_some_play.nd)) (fun _ => pfts_nil) (fun _ => (pf_bin op_sub os_sub (pf_call d_law_take (hr.mono (by decide)) (pfa_cons (pf_v 0) (pfa_cons pf_int pfa_nil))) pf_int)) (blkOk_by (N := ["hand", "turn", "many", "first", "names", "lots", "k", "number"]) (sc := defScope s_law_some_play) (by decide +kernel))) pfa_nil)) pfa_nil))) pfa_nil))))) pfss_nil) (pfss_cons (pfs_if (pft_cmp (op_eqD (hu64 hr)) os_eq (pf_v 1) pf_int (nomark _)) (pfss_cons (pfs_own0 5 sc_law_some_play.nd) (pfss_cons (pfs_for PassesOwn.never rfl (pfi_rng1 T.b_range (pfa_cons (pf_v 2) pfa_nil)) (pfg_n 6 sc_law_some_play.nd) (pfss_one (pfs_app 5 (pf_callTy call_tuple_of cs_tuple T.b_tuple (by decide +kernel) (pfa_cons (pf_lc [("number", 7)] sc_law_some_play.nd (pfi_rng1 T.b_range (pfa_cons pf_int pfa_nil)) (fun _ => (pfg_n 7 sc_law_some_play.nd)) (fun _ => (pfts_one (pft_cmp (op_eqD (hu64 hr)) os_eq (pf_call d_law_take (hr.mono (by decide)) (pfa_cons (pf_v 0) (pfa_cons pf_int pfa_nil))) pf_int (nomark _)))) (fun _ => (pf_v 7)) (blkOk_by (N := ["hand", "turn", "many", "first", "names", "lots", "k", "number"]) (sc := defScope s_law_some_play) (by decide +kernel))) pfa_nil))))) (pfss_frz 5 (pfss_one (pfs_ret (pf_tup (pfa_cons pf_str (pfa_cons (pf_callTy call_tuple_of cs_tuple T.b_tuple (by decide +kernel) (pfa_cons (pf_v 5) pfa_nil)) pfa_nil)))))))) pfss_nil) (pfss_one (pfs_ret (pf_call d_law_manner (hr.mono (by decide)) (pfa_cons (pf_v 0) pfa_nil))))))))))
abbrev s_law_many : Stmt := top 36
theorem sc_law_many : FnScope ["kind", "inputs"] ["kind", "inputs"] (defScope s_law_many) := ⟨rfl, rfl, rfl, by decide +kernel, rfl, by decide +kernel, by decide +kernel⟩
noncomputable def b_law_many : FS := (sSeq (sIf (cT (cOp eqD (cV 0) (cD (.str "near")))) (sRet (cCall lenD (cC (cOp ixD (cV 1) (cD (.int 1))) cN))) sNx) (sRet (cCall lenD (cC (cV 1) cN))))
noncomputable def f_law_many : List D → Gh → M D := fun ds g => noX (fnOf 2 b_law_many ds g)
theorem d_law_many {P : Program} {w : World} {K : PySem.W.Frag} {mg : Str → Option Value} {base : Heap} (T : Txt P w K mg base) (A : DefAt K mg "_law_many" s_law_many ["kind", "inputs"])  : DefOk P w K mg base CX0 "_law_many" 1 2 f_law_many :=
  A.ok sc_law_many rfl (by decide) fun f cdv A outer s H E ah hr => by
    exact (pfss_cons (pfs_if (pft_cmp (op_eqD (hu64 hr)) os_eq (pf_v 0) pf_str (nomark _)) (pfss_one (pfs_ret (pf_len T.b_len (pfa_cons (pf_ix ix_D os_ix (pf_v 1) pf_int (fun _ _ => rfl)) pfa_nil)))) pfss_nil) (pfss_one (pfs_ret (pf_len T.b_len (pfa_cons (pf_v 1) pfa_nil)))))
abbrev s_law_is_within : Stmt := top 30
theorem sc_law_is_within : FnScope ["thing", "least", "most"] ["thing", "least", "most"] (defScope s_law_is_within) := ⟨rfl, rfl, rfl, by decide +kernel, rfl, by decide +kernel, by decide +kernel⟩
noncomputable def b_law_is_within : FS := (sRet (cAndV (cFn 1 f_law_is_integer (cC (cV 0) cN)) (cAndV (cOp leD (cV 1) (cV 0)) (cOp leD (cV 0) (cV 2)))))
noncomputable def f_law_is_within : List D → Gh → M D := fun ds g => noX (fnOf 3 b_law_is_within ds g)
theorem d_law_is_within {P : Program} {w : World} {K : PySem.W.Frag} {mg : Str → Option Value} {base : Heap} (T : Txt P w K mg base) (A : DefAt K mg "_law_is_within" s_law_is_within ["thing", "least", "most"]) (d_law_is_integer : DefOk P w K mg base CX0 "_law_is_integer" 1 1 f_law_is_integer) : DefOk P w K mg base CX0 "_law_is_within" 2 3 f_law_is_within :=
  A.ok sc_law_is_within rfl (by decide) fun f cdv A outer s H E ah hr => by
    exact (pfss_one (pfs_ret (pf_and (pf_call d_law_is_integer (hr.mono (by decide)) (pfa_cons (pf_v 0) pfa_nil)) (pf_and (pf_cmp op_le os_le (pf_v 1) (pf_v 0) (nomark _)) (pf_one (pf_cmp op_le os_le (pf_v 0) (pf_v 2) (nomark _)))))))
abbrev s_law_deed_right : Stmt := top 37
theorem sc_law_deed_right : FnScope ["thing"] ["thing"] (defScope s_law_deed_right) := ⟨rfl, rfl, rfl, by decide +kernel, rfl, by decide +kernel, by decide +kernel⟩
noncomputable def b_law_deed_right : FS := (sSeq (sIf (cOr (cNot (cT (cIs "tuple" (cV 0)))) (cOr (cT (cOp ltD (cCall lenD (cC (cV 0) cN)) (cD (.int 1)))) (cNot (cT (cIs "str" (cOp ixD (cV 0) (cD (.int 0)))))))) (sRet (cD (.bl false))) sNx) (sSeq (sIf (cT (cOp eqD (cOp ixD (cV 0) (cD (.int 0))) (cD (.str "see")))) (sRet (cOp eqD (cCall lenD (cC (cV 0) cN)) (cD (.int 1)))) sNx) (sRet (cAndV (cOp eqD (cOp ixD (cV 0) (cD (.int 0))) (cD (.str "put"))) (cAndV (cOp eqD (cCall lenD (cC (cV 0) cN)) (cD (.int 2))) (cFn 3 f_law_is_within (cC (cOp ixD (cV 0) (cD (.int 1))) (cC (cD (.int 0)) (cC (cD (.int 999)) cN)))))))))
noncomputable def f_law_deed_right : List D → Gh → M D := fun ds g => noX (fnOf 1 b_law_deed_right ds g)
theorem d_law_deed_right {P : Program} {w : World} {K : PySem.W.Frag} {mg : Str → Option Value} {base : Heap} (T : Txt P w K mg base) (A : DefAt K mg "_law_deed_right" s_law_deed_right ["thing"]) (d_law_is_within : DefOk P w K mg base CX0 "_law_is_within" 2 3 f_law_is_within) : DefOk P w K mg base CX0 "_law_deed_right" 3 1 f_law_deed_right :=
  A.ok sc_law_deed_right rfl (by decide) fun f cdv A outer s H E ah hr => by
    exact (pfss_cons (pfs_if (pft_w (pfw_or (pft_not (pft_val (pf_is (t := "tuple") (by simp) T.play T.b_isinstance T.b_tuple (by decide +kernel) (pf_v 0)))) (pfw_or (pft_cmp op_lt os_lt (pf_len T.b_len (pfa_cons (pf_v 0) pfa_nil)) pf_int (nomark _)) (pfw_or1 (pft_not (pft_val (pf_is (t := "str") (by simp) T.play T.b_isinstance T.b_str (by decide +kernel) (pf_ix ix_D os_ix (pf_v 0) pf_int (fun _ _ => rfl))))))))) (pfss_one (pfs_ret pf_bl)) pfss_nil) (pfss_cons (pfs_if (pft_cmp (op_eqD (hu64 hr)) os_eq (pf_ix ix_D os_ix (pf_v 0) pf_int (fun _ _ => rfl)) pf_str (nomark _)) (pfss_one (pfs_ret (pf_cmp (op_eqD (hu64 hr)) os_eq (pf_len T.b_len (pfa_cons (pf_v 0) pfa_nil)) pf_int (nomark _)))) pfss_nil) (pfss_one (pfs_ret (pf_and (pf_cmp (op_eqD (hu64 hr)) os_eq (pf_ix ix_D os_ix (pf_v 0) pf_int (fun _ _ => rfl)) pf_str (nomark _)) (pf_and (pf_cmp (op_eqD (hu64 hr)) os_eq (pf_len T.b_len (pfa_cons (pf_v 0) pfa_nil)) pf_int (nomark _)) (pf_one (pf_call d_law_is_within (hr.mono (by decide)) (pfa_cons (pf_ix ix_D os_ix (pf_v 0) pf_int (fun _ _ => rfl)) (pfa_cons pf_int (pfa_cons pf_int pfa_nil)))))))))))
abbrev s_law_lot_right : Stmt := top 38
theorem sc_law_lot_right : FnScope ["thing", "k"] ["thing"] (defScope s_law_lot_right) := ⟨rfl, rfl, rfl, by decide +kernel, rfl, by decide +kernel, by decide +kernel⟩
noncomputable def b_law_lot_right : FS := (sSeq (sIf (cNot (cT (cIs "tuple" (cV 0)))) (sRet (cD (.bl false))) sNx) (sSeq (sFor (iR1 (cC (cCall lenD (cC (cV 0) cN)) cN)) (gN 1) (sIf (cOr (cNot (cT (cFn 3 f_law_is_within (cC (cOp ixD (cV 0) (cV 1)) (cC (cD (.int 0)) (cC (cD (.int 19)) cN)))))) (cAnd (cT (cOp gtD (cV 1) (cD (.int 0)))) (cT (cOp leD (cOp ixD (cV 0) (cV 1)) (cOp ixD (cV 0) (cOp subD (cV 1) (cD (.int 1)))))))) (sRet (cD (.bl false))) sNx)) (sRet (cD (.bl true)))))
noncomputable def f_law_lot_right : List D → Gh → M D := fun ds g => noX (fnOf 2 b_law_lot_right ds g)
theorem d_law_lot_right {P : Program} {w : World} {K : PySem.W.Frag} {mg : Str → Option Value} {base : Heap} (T : Txt P w K mg base) (A : DefAt K mg "_law_lot_right" s_law_lot_right ["thing"]) (d_law_is_within : DefOk P w K mg base CX0 "_law_is_within" 2 3 f_law_is_within) : DefOk P w K mg base CX0 "_law_lot_right" 3 1 f_law_lot_right :=
  A.ok sc_law_lot_right rfl (by decide) fun f cdv A outer s H E ah hr => by
    exact (pfss_cons (pfs_if (pft_not (pft_val (pf_is (t := "tuple") (by simp) T.play T.b_isinstance T.b_tuple (by decide +kernel) (pf_v 0)))) (pfss_one (pfs_ret pf_bl)) pfss_nil) (pfss_cons (pfs_for PassesOwn.never rfl (pfi_rng1 T.b_range (pfa_cons (pf_len T.b_len (pfa_cons (pf_v 0) pfa_nil)) pfa_nil)) (pfg_n 1 sc_law_lot_right.nd) (pfss_one (pfs_if (pft_w (pfw_or (pft_not (pft_val (pf_call d_law_is_within (hr.mono (by decide)) (pfa_cons (pf_ix ix_D os_ix (pf_v 0) (pf_v 1) (fun _ _ => rfl)) (pfa_cons pf_int (pfa_cons pf_int pfa_nil)))))) (pfw_or1 (pft_w (pfw_and (pft_cmp op_gt os_gt (pf_v 1) pf_int (nomark _)) (pfw_and1 (pft_cmp op_le os_le (pf_ix ix_D os_ix (pf_v 0) (pf_v 1) (fun _ _ => rfl)) (pf_ix ix_D os_ix (pf_v 0) (pf_bin op_sub os_sub (pf_v 1) pf_int) (fun _ _ => rfl)) (nomark _)))))))) (pfss_one (pfs_ret pf_bl)) pfss_nil))) (pfss_one (pfs_ret pf_bl))))
abbrev s_law_item_right : Stmt := top 39
theorem sc_law_item_right : FnScope ["kind", "thing", "deed"] ["kind", "thing"] (defScope s_law_item_right) := ⟨rfl, rfl, rfl, by decide +kernel, rfl, by decide +kernel, by decide +kernel⟩
noncomputable def b_law_item_right : FS := (sSeq (sIf (cT (cOp inD (cV 0) (cLst (cC (cD (.str "sweep")) (cC (cD (.str "twice")) (cC (cD (.str "borrow")) cN)))))) (sSeq (sIf (cOr (cNot (cT (cIs "tuple" (cV 1)))) (cT (cOp gtD (cCall lenD (cC (cV 1) cN)) (cD (.int 6))))) (sRet (cD (.bl false))) sNx) (sRet (cOp eqD (cCall lenD (cC (cLc (iS (cV 1)) [2] (gN 2) (cNot (cT (cFn 1 f_law_deed_right (cC (cV 2) cN)))) (cV 2)) cN)) (cD (.int 0))))) sNx) (sSeq (sIf (cT (cOp eqD (cV 0) (cD (.str "chain")))) (sRet (cFn 1 f_law_lot_right (cC (cV 1) cN))) sNx) (sSeq (sIf (cT (cOp eqD (cV 0) (cD (.str "near")))) (sRet (cFn 3 f_law_is_within (cC (cV 1) (cC (c1 negD (cD (.int 1000))) (cC (cD (.int 1000)) cN))))) sNx) (sRet (cFn 3 f_law_is_within (cC (cV 1) (cC (cD (.int 0)) (cC (cD (.int 999)) cN))))))))
noncomputable def f_law_item_right : List D → Gh → M D := fun ds g => noX (fnOf 3 b_law_item_right ds g)
theorem d_law_item_right {P : Program} {w : World} {K : PySem.W.Frag} {mg : Str → Option Value} {base : Heap} (T : Txt P w K mg base) (A : DefAt K mg "_law_item_right" s_law_item_right ["kind", "thing"]) (d_law_deed_right : DefOk P w K mg base CX0 "_law_deed_right" 3 1 f_law_deed_right) (d_law_lot_right : DefOk P w K mg base CX0 "_law_lot_right" 3 1 f_law_lot_right) (d_law_is_within : DefOk P w K mg base CX0 "_law_is_within" 2 3 f_law_is_within) : DefOk P w K mg base CX0 "_law_item_right" 4 2 f_law_item_right :=
  A.ok sc_law_item_right rfl (by decide) fun f cdv A outer s H E ah hr => by
    exact (pfss_cons (pfs_if (pft_cmp op_in_seq os_in (pf_v 0) (pf_lst (pfa_cons pf_str (pfa_cons pf_str (pfa_cons pf_str pfa_nil)))) rfl) (pfss_cons (pfs_if (pft_w (pfw_or (pft_not (pft_val (pf_is (t := "tuple") (by simp) T.play T.b_isinstance T.b_tuple (by decide +kernel) (pf_v 1)))) (pfw_or1 (pft_cmp op_gt os_gt (pf_len T.b_len (pfa_cons (pf_v 1) pfa_nil)) pf_int (nomark _))))) (pfss_one (pfs_ret pf_bl)) pfss_nil) (pfss_one (pfs_ret (pf_cmp (op_eqD (hu64 hr)) os_eq (pf_len T.b_len (pfa_cons (pf_lc [("deed", 2)] sc_law_item_right.nd (pfi_seq (pf_v 1)) (fun _ => (pfg_n 2 sc_law_item_right.nd)) (fun _ => (pfts_one (pft_not (pft_val (pf_call d_law_deed_right (hr.mono (by decide)) (pfa_cons (pf_v 2) pfa_nil)))))) (fun _ => (pf_v 2)) (blkOk_by (N := ["kind", "thing", "deed"]) (sc := defScope s_law_item_right) (by decide +kernel))) pfa_nil)) pf_int (nomark _))))) pfss_nil) (pfss_cons (pfs_if (pft_cmp (op_eqD (hu64 hr)) os_eq (pf_v 0) pf_str (nomark _)) (pfss_one (pfs_ret (pf_call d_law_lot_right (hr.mono (by decide)) (pfa_cons (pf_v 1) pfa_nil)))) pfss_nil) (pfss_cons (pfs_if (pft_cmp (op_eqD (hu64 hr)) os_eq (pf_v 0) pf_str (nomark _)) (pfss_one (pfs_ret (pf_call d_law_is_within (hr.mono (by decide)) (pfa_cons (pf_v 1) (pfa_cons (pf_neg pf_int) (pfa_cons pf_int pfa_nil)))))) pfss_nil) (pfss_one (pfs_ret (pf_call d_law_is_within (hr.mono (by decide)) (pfa_cons (pf_v 1) (pfa_cons pf_int (pfa_cons pf_int pfa_nil)))))))))
abbrev s_law_inputs_right : Stmt := top 40
theorem sc_law_inputs_right : FnScope ["kind", "thing", "item"] ["kind", "thing"] (defScope s_law_inputs_right) := ⟨rfl, rfl, rfl, by decide +kernel, rfl, by decide +kernel, by decide +kernel⟩
noncomputable def b_law_inputs_right : FS := (sSeq (sIf (cT (cOp eqD (cV 0) (cD (.str "near")))) (sSeq (sIf (cOr (cNot (cT (cIs "tuple" (cV 1)))) (cOr (cT (cOp neD (cCall lenD (cC (cV 1) cN)) (cD (.int 2)))) (cNot (cT (cFn 3 f_law_is_within (cC (cOp ixD (cV 1) (cD (.int 0))) (cC (cD (.int 1)) (cC (cD (.int 6)) cN)))))))) (sRet (cD (.bl false))) sNx) (sAsg (cOp ixD (cV 1) (cD (.int 1))) (gN 1))) sNx) (sSeq (sIf (cOr (cNot (cT (cIs "tuple" (cV 1)))) (cOr (cT (cOp ltD (cCall lenD (cC (cV 1) cN)) (cD (.int 1)))) (cT (cOp gtD (cCall lenD (cC (cV 1) cN)) (cD (.int 5)))))) (sRet (cD (.bl false))) sNx) (sSeq (sIf (cT (cOp gtD (cCall lenD (cC (cLc (iS (cV 1)) [2] (gN 2) (cNot (cT (cFn 2 f_law_item_right (cC (cV 0) (cC (cV 2) cN))))) (cV 2)) cN)) (cD (.int 0)))) (sRet (cD (.bl false))) sNx) (sRet (cOrV (cOp neD (cV 0) (cD (.str "names"))) (cOp eqD (cCall lenD (cC (c1 sortSetD (cV 1)) cN)) (cCall lenD (cC (cV 1) cN))))))))
noncomputable def f_law_inputs_right : List D → Gh → M D := fun ds g => noX (fnOf 3 b_law_inputs_right ds g)
theorem d_law_inputs_right {P : Program} {w : World} {K : PySem.W.Frag} {mg : Str → Option Value} {base : Heap} (T : Txt P w K mg base) (A : DefAt K mg "_law_inputs_right" s_law_inputs_right ["kind", "thing"]) (d_law_is_within : DefOk P w K mg base CX0 "_law_is_within" 2 3 f_law_is_within) (d_law_item_right : DefOk P w K mg base CX0 "_law_item_right" 4 2 f_law_item_right) : DefOk P w K mg base CX0 "_law_inputs_right" 5 2 f_law_inputs_right :=
  A.ok sc_law_inputs_right rfl (by decide) fun f cdv A outer s H E ah hr => by
    exact (pfss_cons (pfs_if (pft_cmp (op_eqD (hu64 hr)) os_eq (pf_v 0) pf_str (nomark _)) (pfss_cons (pfs_if (pft_w (pfw_or (pft_not (pft_val (pf_is (t := "tuple") (by simp) T.play T.b_isinstance T.b_tuple (by decide +kernel) (pf_v 1)))) (pfw_or (pft_cmp (op_neD (hu64 hr)) os_ne (pf_len T.b_len (pfa_cons (pf_v 1) pfa_nil)) pf_int (nomark _)) (pfw_or1 (pft_not (pft_val (pf_call d_law_is_within (hr.mono (by decide)) (pfa_cons (pf_ix ix_D os_ix (pf_v 1) pf_int (fun _ _ => rfl)) (pfa_cons pf_int (pfa_cons pf_int pfa_nil)))))))))) (pfss_one (pfs_ret pf_bl)) pfss_nil) (pfss_one (pfs_set 1 sc_law_inputs_right.nd (pf_ix ix_D os_ix (pf_v 1) pf_int (fun _ _ => rfl))))) pfss_nil) (pfss_cons (pfs_if (pft_w (pfw_or (pft_not (pft_val (pf_is (t := "tuple") (by simp) T.play T.b_isinstance T.b_tuple (by decide +kernel) (pf_v 1)))) (pfw_or (pft_cmp op_lt os_lt (pf_len T.b_len (pfa_cons (pf_v 1) pfa_nil)) pf_int (nomark _)) (pfw_or1 (pft_cmp op_gt os_gt (pf_len T.b_len (pfa_cons (pf_v 1) pfa_nil)) pf_int (nomark _)))))) (pfss_one (pfs_ret pf_bl)) pfss_nil) (pfss_cons (pfs_if (pft_cmp op_gt os_gt (pf_len T.b_len (pfa_cons (pf_lc [("item", 2)] sc_law_inputs_right.nd (pfi_seq (pf_v 1)) (fun _ => (pfg_n 2 sc_law_inputs_right.nd)) (fun _ => (pfts_one (pft_not (pft_val (pf_call d_law_item_right (hr.mono (by decide)) (pfa_cons (pf_v 0) (pfa_cons (pf_v 2) pfa_nil))))))) (fun _ => (pf_v 2)) (blkOk_by (N := ["kind", "thing", "item"]) (sc := defScope s_law_inputs_right) (by decide +kernel))) pfa_nil)) pf_int (nomark _)) (pfss_one (pfs_ret pf_bl)) pfss_nil) (pfss_one (pfs_ret (pf_or (pf_cmp (op_neD (hu64 hr)) os_ne (pf_v 0) pf_str (nomark _)) (pf_one (pf_cmp (op_eqD (hu64 hr)) os_eq (pf_len T.b_len (pfa_cons (pf_sortSet T.b_sorted T.b_set (pf_v 1)) pfa_nil)) (pf_len T.b_len (pfa_cons (pf_v 1) pfa_nil)) (nomark _)))))))))
abbrev s_law_bad : Stmt := top 41
theorem sc_law_bad : FnScope ["kind", "inputs"] ["kind", "inputs"] (defScope s_law_bad) := ⟨rfl, rfl, rfl, by decide +kernel, rfl, by decide +kernel, by decide +kernel⟩
noncomputable def b_law_bad : FS := (sSeq (sIf (cOr (cNot (cT (cIs "str" (cV 0)))) (cT (cOp notInD (cV 0) (cLst (cC (cD (.str "sweep")) (cC (cD (.str "twice")) (cC (cD (.str "borrow")) (cC (cD (.str "levels")) (cC (cD (.str "names")) (cC (cD (.str "near")) (cC (cD (.str "chain")) cN))))))))))) (sRet (cD (.str "kind"))) sNx) (sSeq (sIf (cNot (cT (cFn 2 f_law_inputs_right (cC (cV 0) (cC (cV 1) cN))))) (sRet (cD (.str "inputs"))) sNx) (sRet (cD .non))))
noncomputable def f_law_bad : List D → Gh → M D := fun ds g => noX (fnOf 2 b_law_bad ds g)
theorem d_law_bad {P : Program} {w : World} {K : PySem.W.Frag} {mg : Str → Option Value} {base : Heap} (T : Txt P w K mg base) (A : DefAt K mg "_law_bad" s_law_bad ["kind", "inputs"]) (d_law_inputs_right : DefOk P w K mg base CX0 "_law_inputs_right" 5 2 f_law_inputs_right) : DefOk P w K mg base CX0 "_law_bad" 6 2 f_law_bad :=
  A.ok sc_law_bad rfl (by decide) fun f cdv A outer s H E ah hr => by
    exact (pfss_cons (pfs_if (pft_w (pfw_or (pft_not (pft_val (pf_is (t := "str") (by simp) T.play T.b_isinstance T.b_str (by decide +kernel) (pf_v 0)))) (pfw_or1 (pft_cmp op_notIn_seq os_notIn (pf_v 0) (pf_lst (pfa_cons pf_str (pfa_cons pf_str (pfa_cons pf_str (pfa_cons pf_str (pfa_cons pf_str (pfa_cons pf_str (pfa_cons pf_str pfa_nil)))))))) rfl)))) (pfss_one (pfs_ret pf_str)) pfss_nil) (pfss_cons (pfs_if (pft_not (pft_val (pf_call d_law_inputs_right (hr.mono (by decide)) (pfa_cons (pf_v 0) (pfa_cons (pf_v 1) pfa_nil))))) (pfss_one (pfs_ret pf_str)) pfss_nil) (pfss_one (pfs_ret pf_non))))
abbrev s_is_word_of : Stmt := top 7
theorem sc_is_word_of : FnScope ["words", "thing"] ["words", "thing"] (defScope s_is_word_of) := ⟨rfl, rfl, rfl, by decide +kernel, rfl, by decide +kernel, by decide +kernel⟩
noncomputable def b_is_word_of : FS := (sRet (cAndV (cIs "str" (cV 1)) (cOp inD (cV 1) (cV 0))))
noncomputable def f_is_word_of : List D → Gh → M D := fun ds g => noX (fnOf 2 b_is_word_of ds g)
theorem d_is_word_of {P : Program} {w : World} {K : PySem.W.Frag} {mg : Str → Option Value} {base : Heap} (T : Txt P w K mg base) (A : DefAt K mg "is_word_of" s_is_word_of ["words", "thing"])  : DefOk P w K mg base CX0 "is_word_of" 1 2 f_is_word_of :=
  A.ok sc_is_word_of rfl (by decide) fun f cdv A outer s H E ah hr => by
    exact (pfss_one (pfs_ret (pf_and (pf_is (t := "str") (by simp) T.play T.b_isinstance T.b_str (by decide +kernel) (pf_v 1)) (pf_one (pf_cmp op_in_seq os_in (pf_v 1) (pf_v 0) rfl)))))
abbrev s_is_whole : Stmt := top 4
theorem sc_is_whole : FnScope ["thing"] ["thing"] (defScope s_is_whole) := ⟨rfl, rfl, rfl, by decide +kernel, rfl, by decide +kernel, by decide +kernel⟩
noncomputable def b_is_whole : FS := (sRet (cAndV (cIs "int" (cV 0)) (c1 nB (cIs "bool" (cV 0)))))
noncomputable def f_is_whole : List D → Gh → M D := fun ds g => noX (fnOf 1 b_is_whole ds g)
theorem d_is_whole {P : Program} {w : World} {K : PySem.W.Frag} {mg : Str → Option Value} {base : Heap} (T : Txt P w K mg base) (A : DefAt K mg "is_whole" s_is_whole ["thing"])  : DefOk P w K mg base CX0 "is_whole" 1 1 f_is_whole :=
  A.ok sc_is_whole rfl (by decide) fun f cdv A outer s H E ah hr => by
    exact (pfss_one (pfs_ret (pf_and (pf_is (t := "int") (by simp) T.play T.b_isinstance T.b_int (by decide +kernel) (pf_v 0)) (pf_one (pf_not (pf_is (t := "bool") (by simp) T.play T.b_isinstance T.b_bool (by decide +kernel) (pf_v 0)))))))
abbrev s_is_whole_within : Stmt := top 5
theorem sc_is_whole_within : FnScope ["least", "most", "thing"] ["least", "most", "thing"] (defScope s_is_whole_within) := ⟨rfl, rfl, rfl, by decide +kernel, rfl, by decide +kernel, by decide +kernel⟩
noncomputable def b_is_whole_within : FS := (sRet (cAndV (cFn 1 f_is_whole (cC (cV 2) cN)) (cChain leD leD (cV 0) (cV 2) (cV 1))))
noncomputable def f_is_whole_within : List D → Gh → M D := fun ds g => noX (fnOf 3 b_is_whole_within ds g)
theorem d_is_whole_within {P : Program} {w : World} {K : PySem.W.Frag} {mg : Str → Option Value} {base : Heap} (T : Txt P w K mg base) (A : DefAt K mg "is_whole_within" s_is_whole_within ["least", "most", "thing"]) (d_is_whole : DefOk P w K mg base CX0 "is_whole" 1 1 f_is_whole) : DefOk P w K mg base CX0 "is_whole_within" 2 3 f_is_whole_within :=
  A.ok sc_is_whole_within rfl (by decide) fun f cdv A outer s H E ah hr => by
    exact (pfss_one (pfs_ret (pf_and (pf_call d_is_whole (hr.mono (by decide)) (pfa_cons (pf_v 2) pfa_nil)) (pf_one (pf_chain op_le op_le fs_int os_le (pf_v 0) (pf_v 2) (pf_v 1))))))
abbrev s_is_number_below : Stmt := top 6
theorem sc_is_number_below : FnScope ["limit", "thing"] ["limit", "thing"] (defScope s_is_number_below) := ⟨rfl, rfl, rfl, by decide +kernel, rfl, by decide +kernel, by decide +kernel⟩
noncomputable def b_is_number_below : FS := (sRet (cFn 3 f_is_whole_within (cC (cD (.int 0)) (cC (cOp subD (cV 0) (cD (.int 1))) (cC (cV 1) cN)))))
noncomputable def f_is_number_below : List D → Gh → M D := fun ds g => noX (fnOf 2 b_is_number_below ds g)
theorem d_is_number_below {P : Program} {w : World} {K : PySem.W.Frag} {mg : Str → Option Value} {base : Heap} (T : Txt P w K mg base) (A : DefAt K mg "is_number_below" s_is_number_below ["limit", "thing"]) (d_is_whole_within : DefOk P w K mg base CX0 "is_whole_within" 2 3 f_is_whole_within) : DefOk P w K mg base CX0 "is_number_below" 3 2 f_is_number_below :=
  A.ok sc_is_number_below rfl (by decide) fun f cdv A outer s H E ah hr => by
    exact (pfss_one (pfs_ret (pf_call d_is_whole_within (hr.mono (by decide)) (pfa_cons pf_int (pfa_cons (pf_bin op_sub os_sub (pf_v 0) pf_int) (pfa_cons (pf_v 1) pfa_nil))))))
abbrev s_is_lot_below : Stmt := top 8
theorem sc_is_lot_below : FnScope ["limit", "thing", "item", "one", "other"] ["limit", "thing"] (defScope s_is_lot_below) := ⟨rfl, rfl, rfl, by decide +kernel, rfl, by decide +kernel, by decide +kernel⟩
noncomputable def b_is_lot_below : FS := (sSeq (sIf (cNot (cT (cIs "tuple" (cV 1)))) (sRet (cD (.bl false))) sNx) (sSeq (sIf (cNot (cT (cCall allD (cC (cLc (iS (cV 1)) [2] (gN 2) tY (cFn 2 f_is_number_below (cC (cV 0) (cC (cV 2) cN)))) cN)))) (sRet (cD (.bl false))) sNx) (sRet (cCall allD (cC (cLc (iZ (cC (cV 1) (cC (cSl (cV 1) (oS (cD (.int 1))) oN) cN))) [3, 4] (gT 2 (gsC (gN 3) (gsC (gN 4) gsN))) tY (cOp ltD (cV 3) (cV 4))) cN)))))
noncomputable def f_is_lot_below : List D → Gh → M D := fun ds g => noX (fnOf 5 b_is_lot_below ds g)
theorem d_is_lot_below {P : Program} {w : World} {K : PySem.W.Frag} {mg : Str → Option Value} {base : Heap} (T : Txt P w K mg base) (A : DefAt K mg "is_lot_below" s_is_lot_below ["limit", "thing"]) (d_is_number_below : DefOk P w K mg base CX0 "is_number_below" 3 2 f_is_number_below) : DefOk P w K mg base CX0 "is_lot_below" 4 2 f_is_lot_below :=
  A.ok sc_is_lot_below rfl (by decide) fun f cdv A outer s H E ah hr => by
    exact (pfss_cons (pfs_if (pft_not (pft_val (pf_is (t := "tuple") (by simp) T.play T.b_isinstance T.b_tuple (by decide +kernel) (pf_v 1)))) (pfss_one (pfs_ret pf_bl)) pfss_nil) (pfss_cons (pfs_if (pft_not (pft_val (pf_callB (cr_all rfl) cs_all T.b_all (by decide +kernel) (pfa_cons (pf_lc [("item", 2)] sc_is_lot_below.nd (pfi_seq (pf_v 1)) (fun _ => (pfg_n 2 sc_is_lot_below.nd)) (fun _ => pfts_nil) (fun _ => (pf_call d_is_number_below (hr.mono (by decide)) (pfa_cons (pf_v 0) (pfa_cons (pf_v 2) pfa_nil)))) (blkOk_by (N := ["limit", "thing", "item", "one", "other"]) (sc := defScope s_is_lot_below) (by decide +kernel))) pfa_nil)))) (pfss_one (pfs_ret pf_bl)) pfss_nil) (pfss_one (pfs_ret (pf_callB (cr_all rfl) cs_all T.b_all (by decide +kernel) (pfa_cons (pf_lc [("one", 3), ("other", 4)] sc_is_lot_below.nd (pfi_zip T.b_zip (pfa_cons (pf_v 1) (pfa_cons (pf_sl (pf_v 1) (pfo_some pf_int) pfo_none) pfa_nil))) (fun _ => (pfg_tup rfl (pfgs_cons (pfg_n 3 sc_is_lot_below.nd) (pfgs_cons (pfg_n 4 sc_is_lot_below.nd) pfgs_nil)))) (fun _ => pfts_nil) (fun _ => (pf_cmp op_lt os_lt (pf_v 3) (pf_v 4) (nomark _))) (blkOk_by (N := ["limit", "thing", "item", "one", "other"]) (sc := defScope s_is_lot_below) (by decide +kernel))) pfa_nil))))))
abbrev s_is_row_of_hands : Stmt := top 21
theorem sc_is_row_of_hands : FnScope ["thing"] ["thing"] (defScope s_is_row_of_hands) := ⟨rfl, rfl, rfl, by decide +kernel, rfl, by decide +kernel, by decide +kernel⟩
noncomputable def b_is_row_of_hands : FS := (sRet (cAndV (cIs "tuple" (cV 0)) (cChain leD leD (cD (.int 1)) (cCall lenD (cC (cV 0) cN)) (cD k_MOST_HANDS))))
noncomputable def f_is_row_of_hands : List D → Gh → M D := fun ds g => noX (fnOf 1 b_is_row_of_hands ds g)
theorem d_is_row_of_hands {P : Program} {w : World} {K : PySem.W.Frag} {mg : Str → Option Value} {base : Heap} (T : Txt P w K mg base) (A : DefAt K mg "is_row_of_hands" s_is_row_of_hands ["thing"])  : DefOk P w K mg base CX0 "is_row_of_hands" 1 1 f_is_row_of_hands :=
  A.ok sc_is_row_of_hands rfl (by decide) fun f cdv A outer s H E ah hr => by
    exact (pfss_one (pfs_ret (pf_and (pf_is (t := "tuple") (by simp) T.play T.b_isinstance T.b_tuple (by decide +kernel) (pf_v 0)) (pf_one (pf_chain op_le op_le fs_int os_le pf_int (pf_len T.b_len (pfa_cons (pf_v 0) pfa_nil)) (pf_const T.c_MOST_HANDS))))))
abbrev s_is_near : Stmt := top 22
theorem sc_is_near : FnScope ["thing", "rounds", "values", "value"] ["thing"] (defScope s_is_near) := ⟨rfl, rfl, rfl, by decide +kernel, rfl, by decide +kernel, by decide +kernel⟩
noncomputable def b_is_near : FS := (sSeq (sIf (cOr (cNot (cT (cIs "tuple" (cV 0)))) (cT (cOp neD (cCall lenD (cC (cV 0) cN)) (cD (.int 2))))) (sRet (cD (.bl false))) sNx) (sSeq (sAsg (cV 0) (gT 2 (gsC (gN 1) (gsC (gN 2) gsN)))) (sSeq (sIf (cOr (cNot (cT (cFn 3 f_is_whole_within (cC (cD (.int 1)) (cC (cD k_MOST_ROUNDS) (cC (cV 1) cN)))))) (cNot (cT (cFn 1 f_is_row_of_hands (cC (cV 2) cN))))) (sRet (cD (.bl false))) sNx) (sRet (cCall allD (cC (cLc (iS (cV 2)) [3] (gN 3) tY (cFn 3 f_is_whole_within (cC (c1 negD (cD k_NEAR_MOST)) (cC (cD k_NEAR_MOST) (cC (cV 3) cN))))) cN))))))
noncomputable def f_is_near : List D → Gh → M D := fun ds g => noX (fnOf 4 b_is_near ds g)
theorem d_is_near {P : Program} {w : World} {K : PySem.W.Frag} {mg : Str → Option Value} {base : Heap} (T : Txt P w K mg base) (A : DefAt K mg "is_near" s_is_near ["thing"]) (d_is_whole_within : DefOk P w K mg base CX0 "is_whole_within" 2 3 f_is_whole_within) (d_is_row_of_hands : DefOk P w K mg base CX0 "is_row_of_hands" 1 1 f_is_row_of_hands) : DefOk P w K mg base CX0 "is_near" 3 1 f_is_near :=
  A.ok sc_is_near rfl (by decide) fun f cdv A outer s H E ah hr => by
    exact (pfss_cons (pfs_if (pft_w (pfw_or (pft_not (pft_val (pf_is (t := "tuple") (by simp) T.play T.b_isinstance T.b_tuple (by decide +kernel) (pf_v 0)))) (pfw_or1 (pft_cmp (op_neD (hu64 hr)) os_ne (pf_len T.b_len (pfa_cons (pf_v 0) pfa_nil)) pf_int (nomark _))))) (pfss_one (pfs_ret pf_bl)) pfss_nil) (pfss_cons (pfs_asg (pf_v 0) (pfg_tup rfl (pfgs_cons (pfg_n 1 sc_is_near.nd) (pfgs_cons (pfg_n 2 sc_is_near.nd) pfgs_nil)))) (pfss_cons (pfs_if (pft_w (pfw_or (pft_not (pft_val (pf_call d_is_whole_within (hr.mono (by decide)) (pfa_cons pf_int (pfa_cons (pf_const T.c_MOST_ROUNDS) (pfa_cons (pf_v 1) pfa_nil)))))) (pfw_or1 (pft_not (pft_val (pf_call d_is_row_of_hands (hr.mono (by decide)) (pfa_cons (pf_v 2) pfa_nil))))))) (pfss_one (pfs_ret pf_bl)) pfss_nil) (pfss_one (pfs_ret (pf_callB (cr_all rfl) cs_all T.b_all (by decide +kernel) (pfa_cons (pf_lc [("value", 3)] sc_is_near.nd (pfi_seq (pf_v 2)) (fun _ => (pfg_n 3 sc_is_near.nd)) (fun _ => pfts_nil) (fun _ => (pf_call d_is_whole_within (hr.mono (by decide)) (pfa_cons (pf_neg (pf_const T.c_NEAR_MOST)) (pfa_cons (pf_const T.c_NEAR_MOST) (pfa_cons (pf_v 3) pfa_nil))))) (blkOk_by (N := ["thing", "rounds", "values", "value"]) (sc := defScope s_is_near) (by decide +kernel))) pfa_nil)))))))
abbrev s_is_deed : Stmt := top 24
theorem sc_is_deed : FnScope ["thing"] ["thing"] (defScope s_is_deed) := ⟨rfl, rfl, rfl, by decide +kernel, rfl, by decide +kernel, by decide +kernel⟩
noncomputable def b_is_deed : FS := (sSeq (sIf (cNot (cT (cIs "tuple" (cV 0)))) (sRet (cD (.bl false))) sNx) (sSeq (sIf (cT (cOp eqD (cCall lenD (cC (cV 0) cN)) (cD (.int 1)))) (sRet (cFn 2 f_is_word_of (cC (cTup (cC (cD (.str "see")) cN)) (cC (cOp ixD (cV 0) (cD (.int 0))) cN)))) sNx) (sRet (cAndV (cOp eqD (cCall lenD (cC (cV 0) cN)) (cD (.int 2))) (cAndV (cFn 2 f_is_word_of (cC (cTup (cC (cD (.str "put")) cN)) (cC (cOp ixD (cV 0) (cD (.int 0))) cN))) (cFn 2 f_is_number_below (cC (cD k_NUMBER_LIMIT) (cC (cOp ixD (cV 0) (cD (.int 1))) cN))))))))
noncomputable def f_is_deed : List D → Gh → M D := fun ds g => noX (fnOf 1 b_is_deed ds g)
theorem d_is_deed {P : Program} {w : World} {K : PySem.W.Frag} {mg : Str → Option Value} {base : Heap} (T : Txt P w K mg base) (A : DefAt K mg "is_deed" s_is_deed ["thing"]) (d_is_word_of : DefOk P w K mg base CX0 "is_word_of" 1 2 f_is_word_of) (d_is_number_below : DefOk P w K mg base CX0 "is_number_below" 3 2 f_is_number_below) : DefOk P w K mg base CX0 "is_deed" 4 1 f_is_deed :=
  A.ok sc_is_deed rfl (by decide) fun f cdv A outer s H E ah hr => by
    exact (pfss_cons (pfs_if (pft_not (pft_val (pf_is (t := "tuple") (by simp) T.play T.b_isinstance T.b_tuple (by decide +kernel) (pf_v 0)))) (pfss_one (pfs_ret pf_bl)) pfss_nil) (pfss_cons (pfs_if (pft_cmp (op_eqD (hu64 hr)) os_eq (pf_len T.b_len (pfa_cons (pf_v 0) pfa_nil)) pf_int (nomark _)) (pfss_one (pfs_ret (pf_call d_is_word_of (hr.mono (by decide)) (pfa_cons (pf_tup (pfa_cons pf_str pfa_nil)) (pfa_cons (pf_ix ix_D os_ix (pf_v 0) pf_int (fun _ _ => rfl)) pfa_nil))))) pfss_nil) (pfss_one (pfs_ret (pf_and (pf_cmp (op_eqD (hu64 hr)) os_eq (pf_len T.b_len (pfa_cons (pf_v 0) pfa_nil)) pf_int (nomark _)) (pf_and (pf_call d_is_word_of (hr.mono (by decide)) (pfa_cons (pf_tup (pfa_cons pf_str pfa_nil)) (pfa_cons (pf_ix ix_D os_ix (pf_v 0) pf_int (fun _ _ => rfl)) pfa_nil))) (pf_one (pf_call d_is_number_below (hr.mono (by decide)) (pfa_cons (pf_const T.c_NUMBER_LIMIT) (pfa_cons (pf_ix ix_D os_ix (pf_v 0) pf_int (fun _ _ => rfl)) pfa_nil))))))))))
abbrev s_is_script : Stmt := top 23
theorem sc_is_script : FnScope ["thing", "item"] ["thing"] (defScope s_is_script) := ⟨rfl, rfl, rfl, by decide +kernel, rfl, by decide +kernel, by decide +kernel⟩
noncomputable def b_is_script : FS := (sSeq (sIf (cOr (cNot (cT (cIs "tuple" (cV 0)))) (cT (cOp gtD (cCall lenD (cC (cV 0) cN)) (cD k_MOST_DEEDS)))) (sRet (cD (.bl false))) sNx) (sRet (cCall allD (cC (cLc (iS (cV 0)) [1] (gN 1) tY (cFn 1 f_is_deed (cC (cV 1) cN))) cN))))
noncomputable def f_is_script : List D → Gh → M D := fun ds g => noX (fnOf 2 b_is_script ds g)
theorem d_is_script {P : Program} {w : World} {K : PySem.W.Frag} {mg : Str → Option Value} {base : Heap} (T : Txt P w K mg base) (A : DefAt K mg "is_script" s_is_script ["thing"]) (d_is_deed : DefOk P w K mg base CX0 "is_deed" 4 1 f_is_deed) : DefOk P w K mg base CX0 "is_script" 5 1 f_is_script :=
  A.ok sc_is_script rfl (by decide) fun f cdv A outer s H E ah hr => by
    exact (pfss_cons (pfs_if (pft_w (pfw_or (pft_not (pft_val (pf_is (t := "tuple") (by simp) T.play T.b_isinstance T.b_tuple (by decide +kernel) (pf_v 0)))) (pfw_or1 (pft_cmp op_gt os_gt (pf_len T.b_len (pfa_cons (pf_v 0) pfa_nil)) (pf_const T.c_MOST_DEEDS) (nomark _))))) (pfss_one (pfs_ret pf_bl)) pfss_nil) (pfss_one (pfs_ret (pf_callB (cr_all rfl) cs_all T.b_all (by decide +kernel) (pfa_cons (pf_lc [("item", 1)] sc_is_script.nd (pfi_seq (pf_v 0)) (fun _ => (pfg_n 1 sc_is_script.nd)) (fun _ => pfts_nil) (fun _ => (pf_call d_is_deed (hr.mono (by decide)) (pfa_cons (pf_v 1) pfa_nil))) (blkOk_by (N := ["thing", "item"]) (sc := defScope s_is_script) (by decide +kernel))) pfa_nil)))))
abbrev s_is_inputs : Stmt := top 20
theorem sc_is_inputs : FnScope ["kind", "thing", "item"] ["kind", "thing"] (defScope s_is_inputs) := ⟨rfl, rfl, rfl, by decide +kernel, rfl, by decide +kernel, by decide +kernel⟩
noncomputable def b_is_inputs : FS := (sSeq (sIf (cT (cOp eqD (cV 0) (cD (.str "near")))) (sRet (cFn 1 f_is_near (cC (cV 1) cN))) sNx) (sSeq (sIf (cNot (cT (cFn 1 f_is_row_of_hands (cC (cV 1) cN)))) (sRet (cD (.bl false))) sNx) (sSeq (sIf (cT (cOp inD (cV 0) (cD k_MANNERS))) (sRet (cCall allD (cC (cLc (iS (cV 1)) [2] (gN 2) tY (cFn 1 f_is_script (cC (cV 2) cN))) cN))) sNx) (sSeq (sIf (cT (cOp eqD (cV 0) (cD (.str "chain")))) (sRet (cCall allD (cC (cLc (iS (cV 1)) [2] (gN 2) tY (cFn 2 f_is_lot_below (cC (cD k_LOT_LIMIT) (cC (cV 2) cN)))) cN))) sNx) (sSeq (sIf (cNot (cT (cCall allD (cC (cLc (iS (cV 1)) [2] (gN 2) tY (cFn 2 f_is_number_below (cC (cD k_NUMBER_LIMIT) (cC (cV 2) cN)))) cN)))) (sRet (cD (.bl false))) sNx) (sRet (cOrV (cOp eqD (cV 0) (cD (.str "levels"))) (cOp eqD (c1 lenSetD (cV 1)) (cCall lenD (cC (cV 1) cN))))))))))
noncomputable def f_is_inputs : List D → Gh → M D := fun ds g => noX (fnOf 3 b_is_inputs ds g)
theorem d_is_inputs {P : Program} {w : World} {K : PySem.W.Frag} {mg : Str → Option Value} {base : Heap} (T : Txt P w K mg base) (A : DefAt K mg "is_inputs" s_is_inputs ["kind", "thing"]) (d_is_near : DefOk P w K mg base CX0 "is_near" 3 1 f_is_near) (d_is_row_of_hands : DefOk P w K mg base CX0 "is_row_of_hands" 1 1 f_is_row_of_hands) (d_is_script : DefOk P w K mg base CX0 "is_script" 5 1 f_is_script) (d_is_lot_below : DefOk P w K mg base CX0 "is_lot_below" 4 2 f_is_lot_below) (d_is_number_below : DefOk P w K mg base CX0 "is_number_below" 3 2 f_is_number_below) : DefOk P w K mg base CX0 "is_inputs" 6 2 f_is_inputs :=
  A.ok sc_is_inputs rfl (by decide) fun f cdv A outer s H E ah hr => by
    exact (pfss_cons (pfs_if (pft_cmp (op_eqD (hu64 hr)) os_eq (pf_v 0) pf_str (nomark _)) (pfss_one (pfs_ret (pf_call d_is_near (hr.mono (by decide)) (pfa_cons (pf_v 1) pfa_nil)))) pfss_nil) (pfss_cons (pfs_if (pft_not (pft_val (pf_call d_is_row_of_hands (hr.mono (by decide)) (pfa_cons (pf_v 1) pfa_nil)))) (pfss_one (pfs_ret pf_bl)) pfss_nil) (pfss_cons (pfs_if (pft_cmp op_in_seq os_in (pf_v 0) (pf_const T.c_MANNERS) rfl) (pfss_one (pfs_ret (pf_callB (cr_all rfl) cs_all T.b_all (by decide +kernel) (pfa_cons (pf_lc [("item", 2)] sc_is_inputs.nd (pfi_seq (pf_v 1)) (fun _ => (pfg_n 2 sc_is_inputs.nd)) (fun _ => pfts_nil) (fun _ => (pf_call d_is_script (hr.mono (by decide)) (pfa_cons (pf_v 2) pfa_nil))) (blkOk_by (N := ["kind", "thing", "item"]) (sc := defScope s_is_inputs) (by decide +kernel))) pfa_nil)))) pfss_nil) (pfss_cons (pfs_if (pft_cmp (op_eqD (hu64 hr)) os_eq (pf_v 0) pf_str (nomark _)) (pfss_one (pfs_ret (pf_callB (cr_all rfl) cs_all T.b_all (by decide +kernel) (pfa_cons (pf_lc [("item", 2)] sc_is_inputs.nd (pfi_seq (pf_v 1)) (fun _ => (pfg_n 2 sc_is_inputs.nd)) (fun _ => pfts_nil) (fun _ => (pf_call d_is_lot_below (hr.mono (by decide)) (pfa_cons (pf_const T.c_LOT_LIMIT) (pfa_cons (pf_v 2) pfa_nil)))) (blkOk_by (N := ["kind", "thing", "item"]) (sc := defScope s_is_inputs) (by decide +kernel))) pfa_nil)))) pfss_nil) (pfss_cons (pfs_if (pft_not (pft_val (pf_callB (cr_all rfl) cs_all T.b_all (by decide +kernel) (pfa_cons (pf_lc [("item", 2)] sc_is_inputs.nd (pfi_seq (pf_v 1)) (fun _ => (pfg_n 2 sc_is_inputs.nd)) (fun _ => pfts_nil) (fun _ => (pf_call d_is_number_below (hr.mono (by decide)) (pfa_cons (pf_const T.c_NUMBER_LIMIT) (pfa_cons (pf_v 2) pfa_nil)))) (blkOk_by (N := ["kind", "thing", "item"]) (sc := defScope s_is_inputs) (by decide +kernel))) pfa_nil)))) (pfss_one (pfs_ret pf_bl)) pfss_nil) (pfss_one (pfs_ret (pf_or (pf_cmp (op_eqD (hu64 hr)) os_eq (pf_v 0) pf_str (nomark _)) (pf_one (pf_cmp (op_eqD (hu64 hr)) os_eq (pf_lenSet T.b_len T.b_set (pf_v 1)) (pf_len T.b_len (pfa_cons (pf_v 1) pfa_nil)) (nomark _)))))))))))
abbrev s_Play_init : Stmt := inClass (top 18) 0
theorem sc_Play_init : FnScope ["self", "kind", "inputs"] ["self", "kind", "inputs"] (defScope s_Play_init) := ⟨rfl, rfl, rfl, by decide +kernel, rfl, by decide +kernel, by decide +kernel⟩
noncomputable def f_Play : List D → Gh → M D := mkF2 "Play" "kind" "inputs" (cNot (cT (cFn 2 f_is_word_of (cC (cD k_KINDS) (cC (cV 1) cN))))) (sRaise "BadPlay" "part" (cD (.str "kind"))) (cNot (cT (cFn 2 f_is_inputs (cC (cV 1) (cC (cV 2) cN))))) (sRaise "BadPlay" "part" (cD (.str "inputs"))) 3
theorem d_MK {P : Program} {w : World} {K : PySem.W.Frag} {mg : Str → Option Value} {base : Heap} (T : Txt P w K mg base) {C f : Addr} {fd : FuncData} (F : Fun K "__init__" "Play.__init__" s_Play_init f fd) (hm : mg "Play" = some (.ref C)) (M : Mk K C f) (hb : Binds K fd ["self", "kind", "inputs"] []) (d_is_word_of : DefOk P w K mg base CX0 "is_word_of" 1 2 f_is_word_of) (d_is_inputs : DefOk P w K mg base CX0 "is_inputs" 6 2 f_is_inputs) : MkOk P w K mg base "Play" 7 2 f_Play := by
  refine ⟨C, f, fd, _, mk_ok2 F sc_Play_init rfl (T.play C hm).cl (T.play_kind C hm) (T.play_inputs C hm) (by decide +kernel) hm rfl rfl rfl rfl (by decide) (by decide) (by decide) (by decide) (fun cdv A outer s H E ah hr => ⟨?_, ?_, ?_, ?_⟩), hm, M, hb⟩
  · exact (pft_not (pft_val (pf_call d_is_word_of (hr.mono (by decide)) (pfa_cons (pf_const T.c_KINDS) (pfa_cons (pf_v 1) pfa_nil)))))
  · exact (pfs_raise rfl (takes_of rfl rfl rfl rfl) T.x_BadPlay (hr.mono (by decide)) pf_str)
  · exact (pft_not (pft_val (pf_call d_is_inputs (hr.mono (by decide)) (pfa_cons (pf_v 1) (pfa_cons (pf_v 2) pfa_nil)))))
  · exact (pfs_raise rfl (takes_of rfl rfl rfl rfl) T.x_BadPlay (hr.mono (by decide)) pf_str)
abbrev s_Play_eq : Stmt := inClass (top 18) 1
theorem sc_Play_eq : FnScope ["self", "other"] ["self", "other"] (defScope s_Play_eq) := ⟨rfl, rfl, rfl, by decide +kernel, rfl, by decide +kernel, by decide +kernel⟩
noncomputable def b_Play___eq__ : FS := (sRet (cAndV (cTyEq (cV 0) (cV 1)) (cAndV (cOp eqD (c1 (fldD "kind") (cV 0)) (c1 (fldD "kind") (cV 1))) (cOp eqD (c1 (fldD "inputs") (cV 0)) (c1 (fldD "inputs") (cV 1))))))
noncomputable def f_Play___eq__ : List D → Gh → M D := fun ds g => noX (fnOf 2 b_Play___eq__ ds g)
theorem d_EQ {P : Program} {w : World} {K : PySem.W.Frag} {mg : Str → Option Value} {base : Heap} (T : Txt P w K mg base) {C f : Addr} {fd : FuncData} (F : Fun K "__eq__" "Play.__eq__" s_Play_eq f fd) (hm : mg "Play" = some (.ref C)) (hb : Binds K fd ["self", "other"] []) (h1 : PySem.W.findIn K (.ref C) "__eq__" = some (some (.ref f))) (h2 : PySem.W.isFn K (.ref f) = true) (h3 : PySem.W.subIn K (.type "tuple") (.ref C) = some false) : EqOk P w K mg base 1 f_Play___eq__ :=
  ⟨C, f, fd, _, hm, fd_ok F sc_Play_eq rfl (by decide) (fun cdv A outer s H E ah hr => by
    exact (pfss_one (pfs_ret (pf_and (pf_tyEq T.b_type (pf_v 0) (pf_v 1)) (pf_and (pf_cmp (op_eqD (hu64 hr)) os_eq (pf_fld (fun C h => ⟨(T.play C h).cl, T.play_kind C h⟩) (pf_v 0)) (pf_fld (fun C h => ⟨(T.play C h).cl, T.play_kind C h⟩) (pf_v 1)) (nomark _)) (pf_one (pf_cmp (op_eqD (hu64 hr)) os_eq (pf_fld (fun C h => ⟨(T.play C h).cl, T.play_inputs C h⟩) (pf_v 0)) (pf_fld (fun C h => ⟨(T.play C h).cl, T.play_inputs C h⟩) (pf_v 1)) (nomark _)))))))), hb, h1, h2, h3⟩
abbrev s_law_odd : Stmt := top 32
theorem sc_law_odd : FnScope ["hand", "turn"] ["hand"] (defScope s_law_odd) := ⟨rfl, rfl, rfl, by decide +kernel, rfl, by decide +kernel, by decide +kernel⟩
noncomputable def b_law_odd : FS := (sSeq (sAsg (cFn 2 f_law_take (cC (cV 0) (cC (cD (.int 19)) cN))) (gN 1)) (sSeq (sIf (cT (cOp ltD (cV 1) (cD (.int 6)))) (sRet (cOp ixD (cLst (cC (cD .non) (cC (cD (.bl true)) (cC (cD (.bl false)) (cC (cD (.str "")) (cC (cD (.str "put")) (cC (cD (.str "0")) cN))))))) (cV 1))) sNx) (sSeq (sIf (cT (cOp ltD (cV 1) (cD (.int 12)))) (sRet (cOp ixD (cLst (cC (cTup cN) (cC (cLst cN) (cC (cD .emp) (cC (cTup (cC (cD (.int 0)) cN)) (cC (cLst (cC (cD (.int 0)) (cC (cD (.int 0)) cN))) (cC (cTup (cC (cTup cN) cN)) cN))))))) (cOp subD (cV 1) (cD (.int 6))))) sNx) (sSeq (sIf (cT (cOp eqD (cV 1) (cD (.int 18)))) (sRet (cFn 2 f_Play (cC (cD (.str "levels")) (cC (cTup (cC (cD (.int 3)) cN)) cN)))) sNx) (sRet (cOp ixD (cLst (cC (c1 negD (cD (.int 1))) (cC (cD (.int 1000)) (cC (cOp subD (cOp powD (cD (.int 10)) (cD (.int 20))) (cD (.int 1))) (cC (cTup (cC (cD (.int 0)) (cC (cD (.int 1)) cN))) (cC (cTup (cC (cD (.str "see")) cN)) (cC (cTup (cC (cTup (cC (cD (.int 0)) (cC (cD (.int 0)) cN))) cN)) cN))))))) (cOp subD (cV 1) (cD (.int 12)))))))))
noncomputable def f_law_odd : List D → Gh → M D := fun ds g => noX (fnOf 2 b_law_odd ds g)
theorem d_law_odd {P : Program} {w : World} {K : PySem.W.Frag} {mg : Str → Option Value} {base : Heap} (T : Txt P w K mg base) (A : DefAt K mg "_law_odd" s_law_odd ["hand"]) (d_law_take : DefOk P w K mg base CX0 "_law_take" 1 2 f_law_take) (d_MK : MkOk P w K mg base "Play" 7 2 f_Play) : DefOk P w K mg base CX0 "_law_odd" 9 1 f_law_odd :=
  A.ok sc_law_odd rfl (by decide) fun f cdv A outer s H E ah hr => by
    exact (pfss_cons (pfs_set 1 sc_law_odd.nd (pf_call d_law_take (hr.mono (by decide)) (pfa_cons (pf_v 0) (pfa_cons pf_int pfa_nil)))) (pfss_cons (pfs_if (pft_cmp op_lt os_lt (pf_v 1) pf_int (nomark _)) (pfss_one (pfs_ret (pf_ix ix_D os_ix (pf_lst (pfa_cons pf_non (pfa_cons pf_bl (pfa_cons pf_bl (pfa_cons pf_str (pfa_cons pf_str (pfa_cons pf_str pfa_nil))))))) (pf_v 1) (fun _ _ => rfl)))) pfss_nil) (pfss_cons (pfs_if (pft_cmp op_lt os_lt (pf_v 1) pf_int (nomark _)) (pfss_one (pfs_ret (pf_ix ix_D os_ix (pf_lst (pfa_cons (pf_tup pfa_nil) (pfa_cons (pf_lst pfa_nil) (pfa_cons pf_emp (pfa_cons (pf_tup (pfa_cons pf_int pfa_nil)) (pfa_cons (pf_lst (pfa_cons pf_int (pfa_cons pf_int pfa_nil))) (pfa_cons (pf_tup (pfa_cons (pf_tup pfa_nil) pfa_nil)) pfa_nil))))))) (pf_bin op_sub os_sub (pf_v 1) pf_int) (fun _ _ => rfl)))) pfss_nil) (pfss_cons (pfs_if (pft_cmp (op_eqD (hu64 hr)) os_eq (pf_v 1) pf_int (nomark _)) (pfss_one (pfs_ret (pf_mk d_MK (hr.mono (by decide)) (pfa_cons pf_str (pfa_cons (pf_tup (pfa_cons pf_int pfa_nil)) pfa_nil))))) pfss_nil) (pfss_one (pfs_ret (pf_ix ix_D os_ix (pf_lst (pfa_cons (pf_neg pf_int) (pfa_cons pf_int (pfa_cons (pf_bin op_sub os_sub (pf_bin op_pow os_pow pf_int pf_int) pf_int) (pfa_cons (pf_tup (pfa_cons pf_int (pfa_cons pf_int pfa_nil))) (pfa_cons (pf_tup (pfa_cons pf_str pfa_nil)) (pfa_cons (pf_tup (pfa_cons (pf_tup (pfa_cons pf_int (pfa_cons pf_int pfa_nil))) pfa_nil)) pfa_nil))))))) (pf_bin op_sub os_sub (pf_v 1) pf_int) (fun _ _ => rfl))))))))
abbrev s_law_bent_item : Stmt := top 42
theorem sc_law_bent_item : FnScope ["hand", "kind", "item", "at", "deed", "menu"] ["hand", "kind", "item"] (defScope s_law_bent_item) := ⟨rfl, rfl, rfl, by decide +kernel, rfl, by decide +kernel, by decide +kernel⟩
noncomputable def b_law_bent_item : FS := (sSeq (sIf (cAnd (cT (cOp inD (cV 1) (cLst (cC (cD (.str "sweep")) (cC (cD (.str "twice")) (cC (cD (.str "borrow")) cN)))))) (cAnd (cT (cOp gtD (cCall lenD (cC (cV 2) cN)) (cD (.int 0)))) (cT (cOp gtD (cFn 2 f_law_take (cC (cV 0) (cC (cD (.int 3)) cN))) (cD (.int 0)))))) (sSeq (sAsg (cFn 2 f_law_take (cC (cV 0) (cC (cCall lenD (cC (cV 2) cN)) cN))) (gN 3)) (sSeq (sAsg (cOp ixD (cV 2) (cV 3)) (gN 4)) (sSeq (sAsg (cLst (cC (cTup (cC (cD (.str "put")) (cC (cD (.int 1000)) cN))) (cC (cTup (cC (cD (.str "put")) (cC (c1 negD (cD (.int 1))) cN))) (cC (cTup (cC (cD (.str "put")) (cC (cD (.bl true)) cN))) (cC (cTup (cC (cD (.str "put")) cN)) (cC (cTup (cC (cD (.str "see")) (cC (cD (.int 0)) cN))) (cC (cTup (cC (cD (.str "See")) cN)) (cC (cCall listD (cC (cV 4) cN)) (cC (cTup cN) (cC (cFn 1 f_law_odd (cC (cV 0) cN)) (cC (cTup (cC (cD (.str "put")) (cC (cD (.int 999)) cN))) cN))))))))))) (gN 5)) (sRet (cOp addD (cOp addD (cSl (cV 2) oN (oS (cV 3))) (cTup (cC (cFn 2 f_law_pick (cC (cV 0) (cC (cV 5) cN))) cN))) (cSl (cV 2) (oS (cOp addD (cV 3) (cD (.int 1)))) oN)))))) sNx) (sSeq (sIf (cT (cOp inD (cV 1) (cLst (cC (cD (.str "sweep")) (cC (cD (.str "twice")) (cC (cD (.str "borrow")) cN)))))) (sRet (cFn 2 f_law_pick (cC (cV 0) (cC (cLst (cC (cCall listD (cC (cV 2) cN)) (cC (cOp mulD (cTup (cC (cTup (cC (cD (.str "see")) cN)) cN)) (cD (.int 7))) (cC (cOp mulD (cTup (cC (cTup (cC (cD (.str "see")) cN)) cN)) (cD (.int 6))) (cC (cFn 1 f_law_odd (cC (cV 0) cN)) (cC (cTup (cC (cD (.str "see")) cN)) cN)))))) cN)))) sNx) (sSeq (sIf (cT (cOp eqD (cV 1) (cD (.str "chain")))) (sRet (cFn 2 f_law_pick (cC (cV 0) (cC (cLst (cC (cOp addD (cV 2) (cTup (cC (cD (.int 20)) cN))) (cC (cOp addD (cV 2) (cTup (cC (cD (.int 19)) cN))) (cC (cTup (cC (cD (.int 3)) (cC (cD (.int 2)) cN))) (cC (cTup (cC (cD (.int 2)) (cC (cD (.int 2)) cN))) (cC (cTup (cC (cD (.bl true)) cN)) (cC (cCall listD (cC (cV 2) cN)) (cC (cTup (cC (c1 negD (cD (.int 1))) cN)) (cC (cFn 1 f_law_odd (cC (cV 0) cN)) cN))))))))) cN)))) sNx) (sSeq (sIf (cT (cOp eqD (cV 1) (cD (.str "near")))) (sRet (cFn 2 f_law_pick (cC (cV 0) (cC (cLst (cC (cD (.int 1000)) (cC (cD (.int 1001)) (cC (c1 negD (cD (.int 1000))) (cC (c1 negD (cD (.int 1001))) (cC (cD (.bl true)) (cC (cFn 1 f_law_odd (cC (cV 0) cN)) cN))))))) cN)))) sNx) (sRet (cFn 2 f_law_pick (cC (cV 0) (cC (cLst (cC (cD (.int 999)) (cC (cD (.int 1000)) (cC (cD (.int 0)) (cC (c1 negD (cD (.int 1))) (cC (cD (.bl true)) (cC (cFn 1 f_law_odd (cC (cV 0) cN)) cN))))))) cN))))))))
noncomputable def f_law_bent_item : List D → Gh → M D := fun ds g => noX (fnOf 6 b_law_bent_item ds g)
theorem d_law_bent_item {P : Program} {w : World} {K : PySem.W.Frag} {mg : Str → Option Value} {base : Heap} (T : Txt P w K mg base) (A : DefAt K mg "_law_bent_item" s_law_bent_item ["hand", "kind", "item"]) (d_law_take : DefOk P w K mg base CX0 "_law_take" 1 2 f_law_take) (d_law_odd : DefOk P w K mg base CX0 "_law_odd" 9 1 f_law_odd) (d_law_pick : DefOk P w K mg base CX0 "_law_pick" 2 2 f_law_pick) : DefOk P w K mg base CX0 "_law_bent_item" 10 3 f_law_bent_item :=
  A.ok sc_law_bent_item rfl (by decide) fun f cdv A outer s H E ah hr => by
    exact (pfss_cons (pfs_if (pft_w (pfw_and (pft_cmp op_in_seq os_in (pf_v 1) (pf_lst (pfa_cons pf_str (pfa_cons pf_str (pfa_cons pf_str pfa_nil)))) rfl) (pfw_and (pft_cmp op_gt os_gt (pf_len T.b_len (pfa_cons (pf_v 2) pfa_nil)) pf_int (nomark _)) (pfw_and1 (pft_cmp op_gt os_gt (pf_call d_law_take (hr.mono (by decide)) (pfa_cons (pf_v 0) (pfa_cons pf_int pfa_nil))) pf_int (nomark _)))))) (pfss_cons (pfs_set 3 sc_law_bent_item.nd (pf_call d_law_take (hr.mono (by decide)) (pfa_cons (pf_v 0) (pfa_cons (pf_len T.b_len (pfa_cons (pf_v 2) pfa_nil)) pfa_nil)))) (pfss_cons (pfs_set 4 sc_law_bent_item.nd (pf_ix ix_D os_ix (pf_v 2) (pf_v 3) (fun _ _ => rfl))) (pfss_cons (pfs_set 5 sc_law_bent_item.nd (pf_lst (pfa_cons (pf_tup (pfa_cons pf_str (pfa_cons pf_int pfa_nil))) (pfa_cons (pf_tup (pfa_cons pf_str (pfa_cons (pf_neg pf_int) pfa_nil))) (pfa_cons (pf_tup (pfa_cons pf_str (pfa_cons pf_bl pfa_nil))) (pfa_cons (pf_tup (pfa_cons pf_str pfa_nil)) (pfa_cons (pf_tup (pfa_cons pf_str (pfa_cons pf_int pfa_nil))) (pfa_cons (pf_tup (pfa_cons pf_str pfa_nil)) (pfa_cons (pf_callTy call_list_of cs_list T.b_list (by decide +kernel) (pfa_cons (pf_v 4) pfa_nil)) (pfa_cons (pf_tup pfa_nil) (pfa_cons (pf_call d_law_odd (hr.mono (by decide)) (pfa_cons (pf_v 0) pfa_nil)) (pfa_cons (pf_tup (pfa_cons pf_str (pfa_cons pf_int pfa_nil))) pfa_nil)))))))))))) (pfss_one (pfs_ret (pf_bin op_addD os_add (pf_bin op_addD os_add (pf_sl (pf_v 2) pfo_none (pfo_some (pf_v 3))) (pf_tup (pfa_cons (pf_call d_law_pick (hr.mono (by decide)) (pfa_cons (pf_v 0) (pfa_cons (pf_v 5) pfa_nil))) pfa_nil))) (pf_sl (pf_v 2) (pfo_some (pf_bin op_addD os_add (pf_v 3) pf_int)) pfo_none))))))) pfss_nil) (pfss_cons (pfs_if (pft_cmp op_in_seq os_in (pf_v 1) (pf_lst (pfa_cons pf_str (pfa_cons pf_str (pfa_cons pf_str pfa_nil)))) rfl) (pfss_one (pfs_ret (pf_call d_law_pick (hr.mono (by decide)) (pfa_cons (pf_v 0) (pfa_cons (pf_lst (pfa_cons (pf_callTy call_list_of cs_list T.b_list (by decide +kernel) (pfa_cons (pf_v 2) pfa_nil)) (pfa_cons (pf_bin op_mulD os_mul (pf_tup (pfa_cons (pf_tup (pfa_cons pf_str pfa_nil)) pfa_nil)) pf_int) (pfa_cons (pf_bin op_mulD os_mul (pf_tup (pfa_cons (pf_tup (pfa_cons pf_str pfa_nil)) pfa_nil)) pf_int) (pfa_cons (pf_call d_law_odd (hr.mono (by decide)) (pfa_cons (pf_v 0) pfa_nil)) (pfa_cons (pf_tup (pfa_cons pf_str pfa_nil)) pfa_nil)))))) pfa_nil))))) pfss_nil) (pfss_cons (pfs_if (pft_cmp (op_eqD (hu64 hr)) os_eq (pf_v 1) pf_str (nomark _)) (pfss_one (pfs_ret (pf_call d_law_pick (hr.mono (by decide)) (pfa_cons (pf_v 0) (pfa_cons (pf_lst (pfa_cons (pf_bin op_addD os_add (pf_v 2) (pf_tup (pfa_cons pf_int pfa_nil))) (pfa_cons (pf_bin op_addD os_add (pf_v 2) (pf_tup (pfa_cons pf_int pfa_nil))) (pfa_cons (pf_tup (pfa_cons pf_int (pfa_cons pf_int pfa_nil))) (pfa_cons (pf_tup (pfa_cons pf_int (pfa_cons pf_int pfa_nil))) (pfa_cons (pf_tup (pfa_cons pf_bl pfa_nil)) (pfa_cons (pf_callTy call_list_of cs_list T.b_list (by decide +kernel) (pfa_cons (pf_v 2) pfa_nil)) (pfa_cons (pf_tup (pfa_cons (pf_neg pf_int) pfa_nil)) (pfa_cons (pf_call d_law_odd (hr.mono (by decide)) (pfa_cons (pf_v 0) pfa_nil)) pfa_nil))))))))) pfa_nil))))) pfss_nil) (pfss_cons (pfs_if (pft_cmp (op_eqD (hu64 hr)) os_eq (pf_v 1) pf_str (nomark _)) (pfss_one (pfs_ret (pf_call d_law_pick (hr.mono (by decide)) (pfa_cons (pf_v 0) (pfa_cons (pf_lst (pfa_cons pf_int (pfa_cons pf_int (pfa_cons (pf_neg pf_int) (pfa_cons (pf_neg pf_int) (pfa_cons pf_bl (pfa_cons (pf_call d_law_odd (hr.mono (by decide)) (pfa_cons (pf_v 0) pfa_nil)) pfa_nil))))))) pfa_nil))))) pfss_nil) (pfss_one (pfs_ret (pf_call d_law_pick (hr.mono (by decide)) (pfa_cons (pf_v 0) (pfa_cons (pf_lst (pfa_cons pf_int (pfa_cons pf_int (pfa_cons pf_int (pfa_cons (pf_neg pf_int) (pfa_cons pf_bl (pfa_cons (pf_call d_law_odd (hr.mono (by decide)) (pfa_cons (pf_v 0) pfa_nil)) pfa_nil))))))) pfa_nil)))))))))
abbrev s_law_spoilt : Stmt := top 43
theorem sc_law_spoilt : FnScope ["hand", "kind", "inputs", "turn", "at", "values"] ["hand", "kind", "inputs"] (defScope s_law_spoilt) := ⟨rfl, rfl, rfl, by decide +kernel, rfl, by decide +kernel, by decide +kernel⟩
noncomputable def b_law_spoilt : FS := (sSeq (sAsg (cFn 2 f_law_take (cC (cV 0) (cC (cD (.int 9)) cN))) (gN 3)) (sSeq (sIf (cT (cOp eqD (cV 3) (cD (.int 0)))) (sRet (cTup (cC (cFn 2 f_law_pick (cC (cV 0) (cC (cLst (cC (cD (.str "Sweep")) (cC (cD (.str "borrow")) (cC (cD (.str "levels")) (cC (cD (.str "names")) (cC (cD (.str "near")) (cC (cD (.str "chain")) (cC (cD (.str "")) (cC (cD .non) (cC (cD (.int 0)) (cC (cFn 1 f_law_odd (cC (cV 0) cN)) cN))))))))))) cN))) (cC (cV 2) cN)))) sNx) (sSeq (sIf (cT (cOp eqD (cV 3) (cD (.int 1)))) (sRet (cTup (cC (cV 1) (cC (cFn 2 f_law_pick (cC (cV 0) (cC (cLst (cC (cCall listD (cC (cV 2) cN)) (cC (cFn 1 f_law_odd (cC (cV 0) cN)) (cC (cTup cN) (cC (cD .non) cN))))) cN))) cN)))) sNx) (sSeq (sIf (cT (cOp eqD (cV 1) (cD (.str "near")))) (sSeq (sIf (cT (cOp eqD (cV 3) (cD (.int 2)))) (sRet (cTup (cC (cV 1) (cC (cTup (cC (cFn 2 f_law_pick (cC (cV 0) (cC (cLst (cC (cD (.int 0)) (cC (cD (.int 7)) (cC (cD (.int 6)) (cC (cD (.int 1)) (cC (cD (.bl true)) (cC (cFn 1 f_law_odd (cC (cV 0) cN)) cN))))))) cN))) (cC (cOp ixD (cV 2) (cD (.int 1))) cN))) cN)))) sNx) (sSeq (sIf (cT (cOp eqD (cV 3) (cD (.int 3)))) (sRet (cTup (cC (cV 1) (cC (cFn 2 f_law_pick (cC (cV 0) (cC (cLst (cC (cOp addD (cV 2) (cTup (cC (cD (.int 0)) cN))) (cC (cSl (cV 2) oN (oS (cD (.int 1)))) (cC (cTup (cC (cOp ixD (cV 2) (cD (.int 0))) (cC (cCall listD (cC (cOp ixD (cV 2) (cD (.int 1))) cN)) cN))) (cC (cTup (cC (cOp ixD (cV 2) (cD (.int 0))) (cC (cTup cN) cN))) cN))))) cN))) cN)))) sNx) (sSeq (sAsg (cOp ixD (cV 2) (cD (.int 1))) (gN 5)) (sSeq (sAsg (cFn 2 f_law_take (cC (cV 0) (cC (cCall lenD (cC (cV 5) cN)) cN))) (gN 4)) (sSeq (sIf (cT (cOp eqD (cV 3) (cD (.int 4)))) (sRet (cTup (cC (cV 1) (cC (cTup (cC (cOp ixD (cV 2) (cD (.int 0))) (cC (cSl (cOp mulD (cV 5) (cD (.int 6))) oN (oS (cOp addD (cD (.int 5)) (cFn 2 f_law_take (cC (cV 0) (cC (cD (.int 2)) cN)))))) cN))) cN)))) sNx) (sRet (cTup (cC (cV 1) (cC (cTup (cC (cOp ixD (cV 2) (cD (.int 0))) (cC (cOp addD (cOp addD (cSl (cV 5) oN (oS (cV 4))) (cTup (cC (cFn 3 f_law_bent_item (cC (cV 0) (cC (cV 1) (cC (cOp ixD (cV 5) (cV 4)) cN)))) cN))) (cSl (cV 5) (oS (cOp addD (cV 4) (cD (.int 1)))) oN)) cN))) cN))))))))) sNx) (sSeq (sAsg (cFn 2 f_law_take (cC (cV 0) (cC (cCall lenD (cC (cV 2) cN)) cN))) (gN 4)) (sSeq (sIf (cT (cOp eqD (cV 3) (cD (.int 2)))) (sRet (cTup (cC (cV 1) (cC (cSl (cOp mulD (cV 2) (cD (.int 6))) oN (oS (cOp addD (cD (.int 5)) (cFn 2 f_law_take (cC (cV 0) (cC (cD (.int 2)) cN)))))) cN)))) sNx) (sSeq (sIf (cT (cOp eqD (cV 3) (cD (.int 3)))) (sRet (cTup (cC (cV 1) (cC (cOp addD (cV 2) (cSl (cV 2) (oS (cV 4)) (oS (cOp addD (cV 4) (cD (.int 1)))))) cN)))) sNx) (sRet (cTup (cC (cV 1) (cC (cOp addD (cOp addD (cSl (cV 2) oN (oS (cV 4))) (cTup (cC (cFn 3 f_law_bent_item (cC (cV 0) (cC (cV 1) (cC (cOp ixD (cV 2) (cV 4)) cN)))) cN))) (cSl (cV 2) (oS (cOp addD (cV 4) (cD (.int 1)))) oN)) cN)))))))))))
noncomputable def f_law_spoilt : List D → Gh → M D := fun ds g => noX (fnOf 6 b_law_spoilt ds g)
theorem d_law_spoilt {P : Program} {w : World} {K : PySem.W.Frag} {mg : Str → Option Value} {base : Heap} (T : Txt P w K mg base) (A : DefAt K mg "_law_spoilt" s_law_spoilt ["hand", "kind", "inputs"]) (d_law_take : DefOk P w K mg base CX0 "_law_take" 1 2 f_law_take) (d_law_odd : DefOk P w K mg base CX0 "_law_odd" 9 1 f_law_odd) (d_law_pick : DefOk P w K mg base CX0 "_law_pick" 2 2 f_law_pick) (d_law_bent_item : DefOk P w K mg base CX0 "_law_bent_item" 10 3 f_law_bent_item) : DefOk P w K mg base CX0 "_law_spoilt" 11 3 f_law_spoilt :=
  A.ok sc_law_spoilt rfl (by decide) fun f cdv A outer s H E ah hr => by
    exact (pfss_cons (pfs_set 3 sc_law_spoilt.nd (pf_call d_law_take (hr.mono (by decide)) (pfa_cons (pf_v 0) (pfa_cons pf_int pfa_nil)))) (pfss_cons (pfs_if (pft_cmp (op_eqD (hu64 hr)) os_eq (pf_v 3) pf_int (nomark _)) (pfss_one (pfs_ret (pf_tup (pfa_cons (pf_call d_law_pick (hr.mono (by decide)) (pfa_cons (pf_v 0) (pfa_cons (pf_lst (pfa_cons pf_str (pfa_cons pf_str (pfa_cons pf_str (pfa_cons pf_str (pfa_cons pf_str (pfa_cons pf_str (pfa_cons pf_str (pfa_cons pf_non (pfa_cons pf_int (pfa_cons (pf_call d_law_odd (hr.mono (by decide)) (pfa_cons (pf_v 0) pfa_nil)) pfa_nil))))))))))) pfa_nil))) (pfa_cons (pf_v 2) pfa_nil))))) pfss_nil) (pfss_cons (pfs_if (pft_cmp (op_eqD (hu64 hr)) os_eq (pf_v 3) pf_int (nomark _)) (pfss_one (pfs_ret (pf_tup (pfa_cons (pf_v 1) (pfa_cons (pf_call d_law_pick (hr.mono (by decide)) (pfa_cons (pf_v 0) (pfa_cons (pf_lst (pfa_cons (pf_callTy call_list_of cs_list T.b_list (by decide +kernel) (pfa_cons (pf_v 2) pfa_nil)) (pfa_cons (pf_call d_law_odd (hr.mono (by decide)) (pfa_cons (pf_v 0) pfa_nil)) (pfa_cons (pf_tup pfa_nil) (pfa_cons pf_non pfa_nil))))) pfa_nil))) pfa_nil))))) pfss_nil) (pfss_cons (pfs_if (pft_cmp (op_eqD (hu64 hr)) os_eq (pf_v 1) pf_str (nomark _)) (pfss_cons (pfs_if (pft_cmp (op_eqD (hu64 hr)) os_eq (pf_v 3) pf_int (nomark _)) (pfss_one (pfs_ret (pf_tup (pfa_cons (pf_v 1) (pfa_cons (pf_tup (pfa_cons (pf_call d_law_pick (hr.mono (by decide)) (pfa_cons (pf_v 0) (pfa_cons (pf_lst (pfa_cons pf_int (pfa_cons pf_int (pfa_cons pf_int (pfa_cons pf_int (pfa_cons pf_bl (pfa_cons (pf_call d_law_odd (hr.mono (by decide)) (pfa_cons (pf_v 0) pfa_nil)) pfa_nil))))))) pfa_nil))) (pfa_cons (pf_ix ix_D os_ix (pf_v 2) pf_int (fun _ _ => rfl)) pfa_nil))) pfa_nil))))) pfss_nil) (pfss_cons (pfs_if (pft_cmp (op_eqD (hu64 hr)) os_eq (pf_v 3) pf_int (nomark _)) (pfss_one (pfs_ret (pf_tup (pfa_cons (pf_v 1) (pfa_cons (pf_call d_law_pick (hr.mono (by decide)) (pfa_cons (pf_v 0) (pfa_cons (pf_lst (pfa_cons (pf_bin op_addD os_add (pf_v 2) (pf_tup (pfa_cons pf_int pfa_nil))) (pfa_cons (pf_sl (pf_v 2) pfo_none (pfo_some pf_int)) (pfa_cons (pf_tup (pfa_cons (pf_ix ix_D os_ix (pf_v 2) pf_int (fun _ _ => rfl)) (pfa_cons (pf_callTy call_list_of cs_list T.b_list (by decide +kernel) (pfa_cons (pf_ix ix_D os_ix (pf_v 2) pf_int (fun _ _ => rfl)) pfa_nil)) pfa_nil))) (pfa_cons (pf_tup (pfa_cons (pf_ix ix_D os_ix (pf_v 2) pf_int (fun _ _ => rfl)) (pfa_cons (pf_tup pfa_nil) pfa_nil))) pfa_nil))))) pfa_nil))) pfa_nil))))) pfss_nil) (pfss_cons (pfs_set 5 sc_law_spoilt.nd (pf_ix ix_D os_ix (pf_v 2) pf_int (fun _ _ => rfl))) (pfss_cons (pfs_set 4 sc_law_spoilt.nd (pf_call d_law_take (hr.mono (by decide)) (pfa_cons (pf_v 0) (pfa_cons (pf_len T.b_len (pfa_cons (pf_v 5) pfa_nil)) pfa_nil)))) (pfss_cons (pfs_if (pft_cmp (op_eqD (hu64 hr)) os_eq (pf_v 3) pf_int (nomark _)) (pfss_one (pfs_ret (pf_tup (pfa_cons (pf_v 1) (pfa_cons (pf_tup (pfa_cons (pf_ix ix_D os_ix (pf_v 2) pf_int (fun _ _ => rfl)) (pfa_cons (pf_sl (pf_bin op_mulD os_mul (pf_v 5) pf_int) pfo_none (pfo_some (pf_bin op_addD os_add pf_int (pf_call d_law_take (hr.mono (by decide)) (pfa_cons (pf_v 0) (pfa_cons pf_int pfa_nil)))))) pfa_nil))) pfa_nil))))) pfss_nil) (pfss_one (pfs_ret (pf_tup (pfa_cons (pf_v 1) (pfa_cons (pf_tup (pfa_cons (pf_ix ix_D os_ix (pf_v 2) pf_int (fun _ _ => rfl)) (pfa_cons (pf_bin op_addD os_add (pf_bin op_addD os_add (pf_sl (pf_v 5) pfo_none (pfo_some (pf_v 4))) (pf_tup (pfa_cons (pf_call d_law_bent_item (hr.mono (by decide)) (pfa_cons (pf_v 0) (pfa_cons (pf_v 1) (pfa_cons (pf_ix ix_D os_ix (pf_v 5) (pf_v 4) (fun _ _ => rfl)) pfa_nil)))) pfa_nil))) (pf_sl (pf_v 5) (pfo_some (pf_bin op_addD os_add (pf_v 4) pf_int)) pfo_none)) pfa_nil))) pfa_nil)))))))))) pfss_nil) (pfss_cons (pfs_set 4 sc_law_spoilt.nd (pf_call d_law_take (hr.mono (by decide)) (pfa_cons (pf_v 0) (pfa_cons (pf_len T.b_len (pfa_cons (pf_v 2) pfa_nil)) pfa_nil)))) (pfss_cons (pfs_if (pft_cmp (op_eqD (hu64 hr)) os_eq (pf_v 3) pf_int (nomark _)) (pfss_one (pfs_ret (pf_tup (pfa_cons (pf_v 1) (pfa_cons (pf_sl (pf_bin op_mulD os_mul (pf_v 2) pf_int) pfo_none (pfo_some (pf_bin op_addD os_add pf_int (pf_call d_law_take (hr.mono (by decide)) (pfa_cons (pf_v 0) (pfa_cons pf_int pfa_nil)))))) pfa_nil))))) pfss_nil) (pfss_cons (pfs_if (pft_cmp (op_eqD (hu64 hr)) os_eq (pf_v 3) pf_int (nomark _)) (pfss_one (pfs_ret (pf_tup (pfa_cons (pf_v 1) (pfa_cons (pf_bin op_addD os_add (pf_v 2) (pf_sl (pf_v 2) (pfo_some (pf_v 4)) (pfo_some (pf_bin op_addD os_add (pf_v 4) pf_int)))) pfa_nil))))) pfss_nil) (pfss_one (pfs_ret (pf_tup (pfa_cons (pf_v 1) (pfa_cons (pf_bin op_addD os_add (pf_bin op_addD os_add (pf_sl (pf_v 2) pfo_none (pfo_some (pf_v 4))) (pf_tup (pfa_cons (pf_call d_law_bent_item (hr.mono (by decide)) (pfa_cons (pf_v 0) (pfa_cons (pf_v 1) (pfa_cons (pf_ix ix_D os_ix (pf_v 2) (pf_v 4) (fun _ _ => rfl)) pfa_nil)))) pfa_nil))) (pf_sl (pf_v 2) (pfo_some (pf_bin op_addD os_add (pf_v 4) pf_int)) pfo_none)) pfa_nil))))))))))))
abbrev s_law_made : Stmt := top 44
theorem sc_law_made : FnScope ["kind", "inputs", "error", "play"] ["kind", "inputs"] (defScope s_law_made) := ⟨rfl, rfl, rfl, by decide +kernel, rfl, by decide +kernel, by decide +kernel⟩
noncomputable def b_law_made : FS := (sTry1 (sSeq (sAsg (cFnX 2 f_Play (cC (cV 0) (cC (cV 1) cN))) (gN 3)) (sNoX (sRet (cTup (cC (cD (.str "told")) (cC (c1 (fldD "kind") (cV 3)) (cC (c1 (fldD "inputs") (cV 3)) cN))))))) "BadPlay" "part" 2 (.str "BadPlay"))
noncomputable def f_law_made : List D → Gh → M D := fun ds g => noX (fnOf 4 b_law_made ds g)
theorem d_law_made {P : Program} {w : World} {K : PySem.W.Frag} {mg : Str → Option Value} {base : Heap} (T : Txt P w K mg base) (A : DefAt K mg "_law_made" s_law_made ["kind", "inputs"]) (d_MK : MkOk P w K mg base "Play" 7 2 f_Play) : DefOk P w K mg base CX0 "_law_made" 9 2 f_law_made :=
  A.ok sc_law_made rfl (by decide) fun f cdv A outer s H E ah hr => by
    exact (pfss_one (pfs_try1 2 sc_law_made.nd T.x_BadPlay (fun W pn xe tk hp => (pfws_cons (pfw_set 3 sc_law_made.nd (pf_mkX tk d_MK (hr.mono (by decide)) (pfa_cons (pf_v 0) (pfa_cons (pf_v 1) pfa_nil)))) (pfss_one (pfs_ret (pf_tup (pfa_cons pf_str (pfa_cons (pf_fld (fun C h => ⟨(T.play C h).cl, T.play_kind C h⟩) (pf_v 3)) (pfa_cons (pf_fld (fun C h => ⟨(T.play C h).cl, T.play_inputs C h⟩) (pf_v 3)) pfa_nil))))))))))
abbrev s_law : Stmt := top 45
theorem sc_law : FnScope ["script", "hand", "play", "k", "kind", "inputs", "pair", "bad", "due"] ["script"] (defScope s_law) := ⟨rfl, rfl, rfl, by decide +kernel, rfl, by decide +kernel, by decide +kernel⟩
noncomputable def b_law : FS := (sSeq (sAsg (cFn 1 f_law_some_play (cC (cV 1) cN)) (gT 2 (gsC (gN 4) (gsC (gN 5) gsN)))) (sSeq (sAsg (cFn 2 f_Play (cC (cV 4) (cC (cV 5) cN))) (gN 2)) (sSeq (sIf (cOr (cNot (cT (cFn 2 f_law_same (cC (cFn 1 f_many_hands (cC (cV 2) cN)) (cC (cFn 2 f_law_many (cC (cV 4) (cC (cV 5) cN))) cN))))) (cOr (cNot (cT (cEqP f_Play___eq__ (cV 2) (cFn 2 f_Play (cC (cV 4) (cC (cV 5) cN)))))) (cT (cEqP f_Play___eq__ (cV 2) (cTup (cC (cV 4) (cC (cV 5) cN))))))) (sRet (cD (.bl false))) sNx) (sSeq (sFor (iR1 (cC (cD (.int 6)) cN)) (gN 3) (sSeq (sAsg (cFn 3 f_law_spoilt (cC (cV 1) (cC (cV 4) (cC (cV 5) cN)))) (gN 6)) (sSeq (sAsg (cFn 2 f_law_bad (cC (cOp ixD (cV 6) (cD (.int 0))) (cC (cOp ixD (cV 6) (cD (.int 1))) cN))) (gN 7)) (sSeq (sAsg (cTup (cC (cD (.str "BadPlay")) (cC (cV 7) cN))) (gN 8)) (sSeq (sIf (cT (cOp isND (cV 7) (cD .non))) (sAsg (cTup (cC (cD (.str "told")) (cC (cOp ixD (cV 6) (cD (.int 0))) (cC (cOp ixD (cV 6) (cD (.int 1))) cN)))) (gN 8)) sNx) (sSeq (sIf (cNot (cT (cFn 2 f_law_same (cC (cFn 2 f_law_made (cC (cOp ixD (cV 6) (cD (.int 0))) (cC (cOp ixD (cV 6) (cD (.int 1))) cN))) (cC (cV 8) cN))))) (sRet (cD (.bl false))) sNx) (sIf (cAnd (cT (cOp isND (cV 7) (cD .non))) (cT (cOp neD (cEqP f_Play___eq__ (cFn 2 f_Play (cC (cOp ixD (cV 6) (cD (.int 0))) (cC (cOp ixD (cV 6) (cD (.int 1))) cN))) (cV 2)) (cOp eqD (cV 6) (cTup (cC (cV 4) (cC (cV 5) cN))))))) (sRet (cD (.bl false))) sNx))))))) (sRet (cFn 2 f_law_same (cC (cTup (cC (c1 (fldD "kind") (cV 2)) (cC (c1 (fldD "inputs") (cV 2)) cN))) (cC (cTup (cC (cV 4) (cC (cV 5) cN))) cN))))))))
abbrev s_law_hand : Stmt := top 26
theorem sc_law_hand : FnScope ["script"] ["script"] (defScope s_law_hand) := ⟨rfl, rfl, rfl, by decide +kernel, rfl, by decide +kernel, by decide +kernel⟩
theorem d_law {P : Program} {w : World} {K : PySem.W.Frag} {mg : Str → Option Value} {base : Heap} (T : Txt P w K mg base) {f fh : Addr} {fd fdh : FuncData} (F : Fun K "law" "law" s_law f fd) (Fh : Fun K "_law_hand" "_law_hand" s_law_hand fh fdh) (hmh : mg "_law_hand" = some (.ref fh)) (hbh : Binds K fdh ["script"] []) (hli : mg "list" = none) (d_law_some_play : DefOk P w K mg base CX0 "_law_some_play" 5 1 f_law_some_play) (d_law_many : DefOk P w K mg base CX0 "_law_many" 1 2 f_law_many) (d_many_hands : DefOk P w K mg base CX0 "many_hands" 1 1 f_many_hands) (d_law_same : DefOk P w K mg base CX0 "_law_same" 46 2 f_law_same) (d_law_spoilt : DefOk P w K mg base CX0 "_law_spoilt" 11 3 f_law_spoilt) (d_law_bad : DefOk P w K mg base CX0 "_law_bad" 6 2 f_law_bad) (d_law_made : DefOk P w K mg base CX0 "_law_made" 9 2 f_law_made) (d_MK : MkOk P w K mg base "Play" 7 2 f_Play) (d_EQ : EqOk P w K mg base 1 f_Play___eq__)
    (main : ∀ ns : List Int, ns.length ≤ 63 → ∃ g, b_law (.un :: .dt .hnd :: List.replicate 7 .un) ⟨ns, 0, 0, 1, 0⟩ = some (.ok (.rt (.bl true)) g)) : FnOk P w K mg base CX0 47 f fd ["script"] (spLaw K) := by
  refine law_ok (k := 46) F sc_law rfl (by decide) (hand_ok Fh sc_law_hand hli rfl rfl rfl (by decide) (by decide)) hmh Fh.kp hbh rfl rfl rfl (by first | exact Or.inl rfl | exact Or.inr rfl) (by decide) (by decide) (by decide) (fun cdv A outer s H E ah hr => ?_) (fun cdv A outer s H E => rfl) main
  exact (pfss_cons (pfs_asg (pf_call d_law_some_play (hr.mono (by decide)) (pfa_cons (pf_v 1) pfa_nil)) (pfg_tup rfl (pfgs_cons (pfg_n 4 sc_law.nd) (pfgs_cons (pfg_n 5 sc_law.nd) pfgs_nil)))) (pfss_cons (pfs_set 2 sc_law.nd (pf_mk d_MK (hr.mono (by decide)) (pfa_cons (pf_v 4) (pfa_cons (pf_v 5) pfa_nil)))) (pfss_cons (pfs_if (pft_w (pfw_or (pft_not (pft_val (pf_call d_law_same (hr.mono (by decide)) (pfa_cons (pf_call d_many_hands (hr.mono (by decide)) (pfa_cons (pf_v 2) pfa_nil)) (pfa_cons (pf_call d_law_many (hr.mono (by decide)) (pfa_cons (pf_v 4) (pfa_cons (pf_v 5) pfa_nil))) pfa_nil))))) (pfw_or (pft_not (pft_eqP (hr.mono (by decide)) d_EQ (pf_v 2) (pf_mk d_MK (hr.mono (by decide)) (pfa_cons (pf_v 4) (pfa_cons (pf_v 5) pfa_nil))))) (pfw_or1 (pft_eqP (hr.mono (by decide)) d_EQ (pf_v 2) (pf_tup (pfa_cons (pf_v 4) (pfa_cons (pf_v 5) pfa_nil)))))))) (pfss_one (pfs_ret pf_bl)) pfss_nil) (pfss_cons (pfs_for PassesOwn.never rfl (pfi_rng1 T.b_range (pfa_cons pf_int pfa_nil)) (pfg_n 3 sc_law.nd) (pfss_cons (pfs_set 6 sc_law.nd (pf_call d_law_spoilt (hr.mono (by decide)) (pfa_cons (pf_v 1) (pfa_cons (pf_v 4) (pfa_cons (pf_v 5) pfa_nil))))) (pfss_cons (pfs_set 7 sc_law.nd (pf_call d_law_bad (hr.mono (by decide)) (pfa_cons (pf_ix ix_D os_ix (pf_v 6) pf_int (fun _ _ => rfl)) (pfa_cons (pf_ix ix_D os_ix (pf_v 6) pf_int (fun _ _ => rfl)) pfa_nil)))) (pfss_cons (pfs_set 8 sc_law.nd (pf_tup (pfa_cons pf_str (pfa_cons (pf_v 7) pfa_nil)))) (pfss_cons (pfs_if (pft_cmp op_isN os_isN (pf_v 7) pf_non (nomark _)) (pfss_one (pfs_set 8 sc_law.nd (pf_tup (pfa_cons pf_str (pfa_cons (pf_ix ix_D os_ix (pf_v 6) pf_int (fun _ _ => rfl)) (pfa_cons (pf_ix ix_D os_ix (pf_v 6) pf_int (fun _ _ => rfl)) pfa_nil)))))) pfss_nil) (pfss_cons (pfs_if (pft_not (pft_val (pf_call d_law_same (hr.mono (by decide)) (pfa_cons (pf_call d_law_made (hr.mono (by decide)) (pfa_cons (pf_ix ix_D os_ix (pf_v 6) pf_int (fun _ _ => rfl)) (pfa_cons (pf_ix ix_D os_ix (pf_v 6) pf_int (fun _ _ => rfl)) pfa_nil))) (pfa_cons (pf_v 8) pfa_nil))))) (pfss_one (pfs_ret pf_bl)) pfss_nil) (pfss_one (pfs_if (pft_w (pfw_and (pft_cmp op_isN os_isN (pf_v 7) pf_non (nomark _)) (pfw_and1 (pft_cmp (op_neD (hu64 hr)) os_ne (pf_eqP (hr.mono (by decide)) d_EQ (pf_mk d_MK (hr.mono (by decide)) (pfa_cons (pf_ix ix_D os_ix (pf_v 6) pf_int (fun _ _ => rfl)) (pfa_cons (pf_ix ix_D os_ix (pf_v 6) pf_int (fun _ _ => rfl)) pfa_nil))) (pf_v 2)) (pf_cmp (op_eqD (hu64 hr)) os_eq (pf_v 6) (pf_tup (pfa_cons (pf_v 4) (pfa_cons (pf_v 5) pfa_nil))) (nomark _)) (nomark _))))) (pfss_one (pfs_ret pf_bl)) pfss_nil)))))))) (pfss_one (pfs_ret (pf_call d_law_same (hr.mono (by decide)) (pfa_cons (pf_tup (pfa_cons (pf_fld (fun C h => ⟨(T.play C h).cl, T.play_kind C h⟩) (pf_v 2)) (pfa_cons (pf_fld (fun C h => ⟨(T.play C h).cl, T.play_inputs C h⟩) (pf_v 2)) pfa_nil))) (pfa_cons (pf_tup (pfa_cons (pf_v 4) (pfa_cons (pf_v 5) pfa_nil))) pfa_nil)))))))))
end Kk01
set_option Elab.async false
set_option linter.all false
set_option maxRecDepth 100000
set_option maxHeartbeats 2000000
namespace Kk01
open PySem L2 FD
theorem fmod_lt {a b : Int} (h : 0 < b) : 0 ≤ a.fmod b ∧ a.fmod b < b := by
  rw [Int.fmod_eq_emod_of_nonneg a (by omega)]
  exact ⟨Int.emod_nonneg a (by omega), Int.emod_lt_of_pos a h⟩
theorem take_ok {g : Gh} {m : Int} (hg : HOK g) (h0 : 0 < m) (h1 : m < 1073741824) : Sat (f_law_take [.hnd, .int m] g) fun d g' => ∃ v, d = .int v ∧ 0 ≤ v ∧ v < m ∧ HOK g' := by
  have hm : m ≠ 0 := by omega
  have hm2 : m.natAbs < 1073741824 := by omega
  have big : powD (.int 10) (.int 18) = some (.int 1000000000000000000) := by
    show (if (0:Int) ≤ 18 ∧ (18:Int) ≤ 1000000 ∧ (10:Int).natAbs < 2 ^ 64 then some (D.int ((10:Int) ^ (18:Int).toNat)) else none) = _
    rw [if_pos (by decide)]
    rfl
  have m1 : ∀ a : Int, modD (.int a) (.int m) = some (.int (a.fmod m)) := fun a => modD_int hm
  have m2 : ∀ a : Int, modD (.int a) (.int 2147483647) = some (.int (a.fmod 2147483647)) := fun a => modD_int (by decide)
  have m3 : ∀ a : Int, modD (.int a) (.int 2147483399) = some (.int (a.fmod 2147483399)) := fun a => modD_int (by decide)
  have d1 : ∀ a : Int, divD (.int a) (.int m) = some (.int (a.fdiv m)) := fun a => divD_int hm hm2
  have d2 : ∀ a : Int, divD (.int a) (.int 1009) = some (.int (a.fdiv 1009)) := fun a => divD_int (by decide) (by decide)
  have d3 : ∀ a : Int, divD (.int a) (.int 2003) = some (.int (a.fdiv 2003)) := fun a => divD_int (by decide) (by decide)
  have d4 : ∀ a : Int, divD (.int a) (.int 16) = some (.int (a.fdiv 16)) := fun a => divD_int (by decide) (by decide)
  have u1 : ∀ a : Int, mulD (.int a) (.int 48271) = some (.int (a * 48271)) := fun a => mulD_int (.inr (by decide))
  have u2 : ∀ a : Int, mulD (.int a) (.int 69621) = some (.int (a * 69621)) := fun a => mulD_int (.inr (by decide))
  have u3 : ∀ a : Int, mulD (.int 7919) (.int a) = some (.int (7919 * a)) := fun a => mulD_int (.inl (by decide))
  have u4 : ∀ a b : Int, 0 ≤ a → a < 2147483647 → mulD (.int a) (.int b) = some (.int (a * b)) := fun a b h1 h2 => mulD_int (.inl ⟨by omega, by omega⟩)
  obtain ⟨xs, i, c, r, n⟩ := g
  obtain ⟨i0, r0, r1⟩ := hg
  simp only at i0 r0 r1
  have key : Sat (b_law_take [.dt .hnd, .dt (.int m), .un, .un, .un] ⟨xs, i, c, r, n⟩) fun f g' => ∃ v, f = .rt (.int v) ∧ 0 ≤ v ∧ v < m ∧ HOK g' := by
    unfold b_law_take
    refine Sat.seq (P := fun f g => f = .nx [.dt .hnd, .dt (.int m), .un, .un, .un] ∧ g = ⟨xs, i, c, r, n + 1⟩) ?_ ?_
    · simp [handD, handPut]
      exact Sat.ok ⟨rfl, rfl⟩
    rintro f g1 ⟨rfl, rfl⟩
    refine .inl ⟨_, rfl, ?_⟩
    refine Sat.seq (P := fun f g => (∃ x, f = .nx [.dt .hnd, .dt (.int m), .un, x, .un]) ∧ HOK g) ?_ ?_
    · by_cases hc : c = 0
      · by_cases hi : i < (xs.length : Int)
        · have hx : ∃ z, (xs.map D.int)[i.toNat]? = some (.int z) := by
            have : i.toNat < xs.length := by omega
            exact ⟨xs[i.toNat], by simp [this]⟩
          obtain ⟨z, hz⟩ := hx
          simp [handD, hc, hi, sSeq, ixD_lst i0, hz, handPut, big]
          by_cases hb : (1000000000000000000 : Int) ≤ z
          · simp [hb]
            exact Sat.ok ⟨⟨_, rfl⟩, by simp only; omega, r0, r1⟩
          · have w := fmod_lt (a := r * 48271 + z.fmod 2147483647 + 1) (b := 2147483647) (by decide)
            simp [hb, u1, m2]
            exact Sat.ok ⟨⟨_, rfl⟩, by simp only; omega, w.1, w.2⟩
        · simp [handD, hc, hi]
          exact Sat.ok ⟨⟨_, rfl⟩, i0, r0, r1⟩
      · simp [handD, hc]
        exact Sat.ok ⟨⟨_, rfl⟩, i0, r0, r1⟩
    rintro f ⟨xs', i', c', r', n'⟩ ⟨⟨x, rfl⟩, i0', r0', r1'⟩
    simp only at i0' r0' r1'
    refine .inl ⟨_, rfl, ?_⟩
    by_cases hc : 0 < c'
    · have w := fmod_lt (a := c') h0
      simp [handD, hc, sSeq, m1, d1, handPut]
      exact Sat.ok ⟨_, rfl, w.1, w.2, i0', r0', r1'⟩
    · have w := fmod_lt (a := r' * 69621 + 7919 * n') (b := 2147483647) (by decide)
      generalize hr : (r' * 69621 + 7919 * n').fmod 2147483647 = r2 at w
      have w2 := fmod_lt (a := r2 * (r2.fdiv 1009 + 69621)) (b := 2147483647) (by decide)
      have z1 := u4 r2 (r2.fdiv 1009 + 69621) w.1 w.2
      generalize hr2 : (r2 * (r2.fdiv 1009 + 69621)).fmod 2147483647 = r3 at w2
      have z2 := u4 r3 (r3.fdiv 2003 + 40692) w2.1 w2.2
      generalize hr3 : (r3 * (r3.fdiv 2003 + 40692)).fmod 2147483399 = r4
      have w4 := fmod_lt (a := r4.fdiv 16) h0
      simp [handD, hc, sSeq, u2, u3, m2, m3, d2, d3, d4, m1, handPut, hr, z1, hr2, z2, hr3]
      exact Sat.ok ⟨_, rfl, w4.1, w4.2, i0', w.1, w.2⟩
  obtain ⟨f, g', e, v, rfl, hv⟩ := key
  refine ⟨.int v, g', ?_, v, rfl, hv⟩
  show noX (fnOf 5 b_law_take [.hnd, .int m] _) = _
  unfold fnOf
  rw [show ([D.hnd, .int m].map En.dt ++ List.replicate (5 - [D.hnd, .int m].length) En.un) = [.dt .hnd, .dt (.int m), .un, .un, .un] from rfl, e]
  rfl
end Kk01
set_option Elab.async false
set_option linter.all false
set_option maxRecDepth 100000
set_option maxHeartbeats 2000000
namespace Kk01
open PySem L2 FD
/-! ### things that are judged -/
mutual
def fine : D → Bool
  | .non => true
  | .bl _ => true
  | .int _ => true
  | .str z => okStr z
  | .tup xs => decide (xs.length ≤ 500) && fines xs
  | .lst xs => decide (xs.length ≤ 500) && fines xs
  | .emp => true
  | .obj c _ _ => c == "Play"
  | .hnd => false
def fines : List D → Bool
  | [] => true
  | d :: ds => fine d && fines ds
end
theorem fines_mem {ds : List D} : fines ds = true ↔ ∀ d ∈ ds, fine d = true := by
  induction ds with
  | nil => simp [fines]
  | cons d ds ih => simp [fines, ih]
theorem fine_tup {xs : List D} : fine (.tup xs) = true ↔ xs.length ≤ 500 ∧ ∀ d ∈ xs, fine d = true := by simp [fine, fines_mem]
theorem fine_lst {xs : List D} : fine (.lst xs) = true ↔ xs.length ≤ 500 ∧ ∀ d ∈ xs, fine d = true := by simp [fine, fines_mem]
def isInt : D → Bool
  | .int _ => true
  | _ => false
theorem is_whole_eq {d : D} (h : fine d = true) (g : Gh) : f_is_whole [d] g = some (.ok (.bl (isInt d)) g) := by
  cases d <;> simp_all [f_is_whole, b_is_whole, fnOf, isTyD, isTyB, isInt, fine]
theorem law_is_integer_eq {d : D} (h : fine d = true) (g : Gh) : f_law_is_integer [d] g = some (.ok (.bl (isInt d)) g) := by
  cases d <;> simp_all [f_law_is_integer, b_law_is_integer, fnOf, isTyD, isTyB, isInt, fine]
def inR (a b : Int) : D → Bool
  | .int i => decide (a ≤ i) && decide (i ≤ b)
  | _ => false
theorem is_whole_within_eq (a b : Int) {d : D} (h : fine d = true) (g : Gh) : f_is_whole_within [.int a, .int b, d] g = some (.ok (.bl (inR a b d)) g) := by
  have := is_whole_eq h g
  simp [f_is_whole_within, b_is_whole_within, fnOf, this]
  cases d <;> simp [isInt, inR]
  rename_i i
  by_cases h1 : a ≤ i <;> simp [h1]
theorem law_is_within_eq (a b : Int) {d : D} (h : fine d = true) (g : Gh) : f_law_is_within [d, .int a, .int b] g = some (.ok (.bl (inR a b d)) g) := by
  have := law_is_integer_eq h g
  simp [f_law_is_within, b_law_is_within, fnOf, this]
  cases d <;> simp [isInt, inR]
  rename_i i
  by_cases h1 : a ≤ i <;> simp [h1]
theorem is_number_below_eq (l : Int) {d : D} (h : fine d = true) (g : Gh) : f_is_number_below [.int l, d] g = some (.ok (.bl (inR 0 (l - 1) d)) g) := by
  simp [f_is_number_below, b_is_number_below, fnOf, is_whole_within_eq 0 (l - 1) h g]
/-- one of these words -/
def isW (ws : List Str) : D → Bool
  | .str z => ws.contains z
  | _ => false
theorem inV_strs (z : Str) : ∀ ws : List Str, inV (.str z) (ws.map V.str) = ws.contains z
  | [] => rfl
  | w :: ws => by
    have ih := inV_strs z ws
    simp only [inV] at ih
    simp only [List.map_cons, inV, List.any_cons, ih, List.contains_cons, eqV]
    congr 1
    exact Bool.beq_comm
theorem inD_strs (z : Str) (ws : List Str) : inD (.str z) (.tup (ws.map .str)) = some (.bl (ws.contains z)) := by
  have h1 : (ws.map D.str).all flatD = true := by simp [flatD]
  have h2 : (ws.map D.str).map toV = ws.map V.str := by simp [toV]
  simp [inD, inB, flatD, h1, h2, inV_strs, toV]
theorem inD_strsL (z : Str) (ws : List Str) : inD (.str z) (.lst (ws.map .str)) = some (.bl (ws.contains z)) := by
  have h1 : (ws.map D.str).all flatD = true := by simp [flatD]
  have h2 : (ws.map D.str).map toV = ws.map V.str := by simp [toV]
  simp [inD, inB, flatD, h1, h2, inV_strs, toV]
theorem notInD_strsL (z : Str) (ws : List Str) : notInD (.str z) (.lst (ws.map .str)) = some (.bl (!ws.contains z)) := by
  have h1 : (ws.map D.str).all flatD = true := by simp [flatD]
  have h2 : (ws.map D.str).map toV = ws.map V.str := by simp [toV]
  simp [notInD, inB, flatD, h1, h2, inV_strs, toV]
theorem is_word_of_eq (ws : List Str) {d : D} (h : fine d = true) (g : Gh) : f_is_word_of [.tup (ws.map .str), d] g = some (.ok (.bl (isW ws d)) g) := by
  cases d <;> simp_all [f_is_word_of, b_is_word_of, fnOf, isTyD, isTyB, isW, fine, inD_strs]
/-! deeds -/
def deedB : D → Bool
  | .tup [x] => isW ["see"] x
  | .tup [x, y] => isW ["put"] x && inR 0 999 y
  | _ => false
theorem is_word_one (w : Str) {d : D} (h : fine d = true) (g : Gh) : f_is_word_of [.tup [.str w], d] g = some (.ok (.bl (isW [w] d)) g) := is_word_of_eq [w] h g
theorem is_deed_eq {d : D} (h : fine d = true) (g : Gh) : f_is_deed [d] g = some (.ok (.bl (deedB d)) g) := by
  cases d with
  | tup xs =>
    obtain ⟨hl, hm⟩ := fine_tup.mp h
    match xs, hl, hm with
    | [], _, _ => simp [f_is_deed, b_is_deed, fnOf, isTyD, isTyB, sSeq, deedB]
    | [x], _, hm =>
      have hx := hm x (by simp)
      simp [f_is_deed, b_is_deed, fnOf, isTyD, isTyB, sSeq, deedB, ixD_tup, is_word_one, hx]
    | [x, y], _, hm =>
      have hx := hm x (by simp)
      have hy := hm y (by simp)
      have hb := is_number_below_eq 1000 hy g
      simp [f_is_deed, b_is_deed, fnOf, isTyD, isTyB, sSeq, deedB, ixD_tup, is_word_one, hx, hb, k_NUMBER_LIMIT]
      cases isW [Str.ofString "put"] x <;> simp
    | x :: y :: z :: r, hl, _ =>
      have e1 : ((r.length : Int) + 1 + 1 + 1 == 1) = false := by simp; omega
      have e2 : ((r.length : Int) + 1 + 1 + 1 == 2) = false := by simp; omega
      simp [f_is_deed, b_is_deed, fnOf, isTyD, isTyB, sSeq, deedB, e1, e2]
  | hnd => simp [fine] at h
  | obj c ks ds => simp_all [f_is_deed, b_is_deed, fnOf, isTyD, isTyB, sSeq, deedB, fine]
  | _ => simp [f_is_deed, b_is_deed, fnOf, isTyD, isTyB, sSeq, deedB]
end Kk01
set_option Elab.async false
set_option linter.all false
set_option maxRecDepth 100000
set_option maxHeartbeats 2000000
namespace Kk01
open PySem L2 FD
theorem okS {z : Str} (h : z.cps.all (· < 0x110000) = true) : okStr z = true := by
  unfold okStr
  simpa [PyData.canLay0, PyData.strOk] using h
theorem law_deed_right_eq {d : D} (h : fine d = true) (g : Gh) : f_law_deed_right [d] g = some (.ok (.bl (deedB d)) g) := by
  have ks : okStr (Str.ofString "see") = true := okS (by decide +kernel)
  have kp : okStr (Str.ofString "put") = true := okS (by decide +kernel)
  have ne : ¬ Str.ofString "see" = Str.ofString "put" := by decide +kernel
  cases d with
  | tup xs =>
    obtain ⟨hl, hm⟩ := fine_tup.mp h
    match xs, hl, hm with
    | [], _, _ => simp [f_law_deed_right, b_law_deed_right, fnOf, isTyD, isTyB, sSeq, deedB]
    | x :: r, hl, hm =>
      have hx := hm x (by simp)
      have e0 : ¬ (r.length : Int) + 1 < 1 := by omega
      have other : isTyD "str" x = some (.bl false) → isW ["see"] x = false → isW ["put"] x = false → f_law_deed_right [.tup (x :: r)] g = some (.ok (.bl (deedB (.tup (x :: r)))) g) := fun h0 h1 h2 => by
        have t : deedB (.tup (x :: r)) = false := by
          match r with
          | [] => exact h1
          | [y] => simp [deedB, h2]
          | _ :: _ :: _ => rfl
        have it : isTyD "tuple" (.tup (x :: r)) = some (.bl true) := rfl
        simp [f_law_deed_right, b_law_deed_right, fnOf, sSeq, ixD_tup, e0, t, it, h0]
      cases x with
      | str z =>
        have hz : okStr z = true := hx
        by_cases hs : z = Str.ofString "see"
        · subst hs
          have hse := eqD_str ks ks
          match r, hl, hm with
          | [], _, _ => simp [f_law_deed_right, b_law_deed_right, fnOf, isTyD, isTyB, sSeq, deedB, ixD_tup, hse, isW]
          | [y], _, hm => simp [f_law_deed_right, b_law_deed_right, fnOf, isTyD, isTyB, sSeq, deedB, ixD_tup, hse, isW, ne]
          | y :: w :: r, hl, _ =>
            have e1 : ((r.length : Int) + 1 + 1 + 1 == 1) = false := by simp; omega
            have e2 : ¬ (r.length : Int) + 1 + 1 + 1 < 1 := by omega
            simp [f_law_deed_right, b_law_deed_right, fnOf, isTyD, isTyB, sSeq, deedB, ixD_tup, hse, isW, e1, e2]
        · have hse : eqD (.str z) (.str "see") = some (.bl false) := by rw [eqD_str hz ks]; simp [hs]
          by_cases hq : z = Str.ofString "put"
          · subst hq
            have hp := eqD_str kp kp
            match r, hl, hm with
            | [], _, _ => simp [f_law_deed_right, b_law_deed_right, fnOf, isTyD, isTyB, sSeq, deedB, ixD_tup, hse, hp, isW, hs]
            | [y], _, hm =>
              have hy := hm y (by simp)
              have hb := law_is_within_eq 0 999 hy g
              simp [f_law_deed_right, b_law_deed_right, fnOf, isTyD, isTyB, sSeq, deedB, ixD_tup, hse, hp, isW, hb]
            | y :: w :: r, hl, _ =>
              have e1 : ((r.length : Int) + 1 + 1 + 1 == 2) = false := by simp; omega
              have e2 : ¬ (r.length : Int) + 1 + 1 + 1 < 1 := by omega
              simp [f_law_deed_right, b_law_deed_right, fnOf, isTyD, isTyB, sSeq, deedB, ixD_tup, hse, hp, isW, e1, e2]
          · have hp : eqD (.str z) (.str "put") = some (.bl false) := by rw [eqD_str hz kp]; simp [hq]
            have t : deedB (.tup (.str z :: r)) = false := by
              match r with
              | [] => simp [deedB, isW, hs]
              | [y] => simp [deedB, isW, hq]
              | _ :: _ :: _ => rfl
            simp [f_law_deed_right, b_law_deed_right, fnOf, isTyD, isTyB, sSeq, t, ixD_tup, hse, hp, e0]
      | hnd => simp [fine] at hx
      | obj c ks ds =>
        have hc : c = "Play" := by simpa [fine] using hx
        subst hc
        exact other rfl rfl rfl
      | non => exact other rfl rfl rfl
      | bl b => exact other rfl rfl rfl
      | int i => exact other rfl rfl rfl
      | tup ys => exact other rfl rfl rfl
      | lst ys => exact other rfl rfl rfl
      | emp => exact other rfl rfl rfl
  | hnd => simp [fine] at h
  | obj c ks ds => simp_all [f_law_deed_right, b_law_deed_right, fnOf, isTyD, isTyB, sSeq, deedB, fine]
  | _ => simp [f_law_deed_right, b_law_deed_right, fnOf, isTyD, isTyB, sSeq, deedB]
/-! scripts -/
def scriptB : D → Bool
  | .tup xs => decide (xs.length ≤ 6) && xs.all deedB
  | _ => false
theorem is_script_eq {d : D} (h : fine d = true) (g : Gh) : f_is_script [d] g = some (.ok (.bl (scriptB d)) g) := by
  cases d with
  | tup xs =>
    obtain ⟨hl, hm⟩ := fine_tup.mp h
    have hc : compD (gN 1) tY (cFn 1 f_is_deed (cC (cV 1) cN)) xs (blkE [.dt (.tup xs), .un] [1]) g = some (.ok (xs.map fun d => .bl (deedB d)) g) := by
      refine compD_map fun d hd => ⟨_, rfl, ?_⟩
      have := is_deed_eq (hm d hd) g
      simp [blkE, wipeE, hideE, this]
    by_cases h6 : xs.length ≤ 6
    · have e1 : ¬ (6 : Int) < xs.length := by omega
      have e2 : xs.length ≤ 1000 := by omega
      simp [f_is_script, b_is_script, fnOf, isTyD, isTyB, sSeq, scriptB, k_MOST_DEEDS, e1, hc, h6, e2, allD_map]
    · have e1 : (6 : Int) < xs.length := by omega
      simp [f_is_script, b_is_script, fnOf, isTyD, isTyB, sSeq, scriptB, k_MOST_DEEDS, e1, h6]
  | hnd => simp [fine] at h
  | obj c ks ds => simp_all [f_is_script, b_is_script, fnOf, isTyD, isTyB, sSeq, scriptB, fine]
  | _ => simp [f_is_script, b_is_script, fnOf, isTyD, isTyB, sSeq, scriptB]
/-! lots -/
def ascI : List D → Bool
  | .int a :: .int b :: r => decide (a < b) && ascI (.int b :: r)
  | _ => true
def lotB : D → Bool
  | .tup xs => xs.all (inR 0 19) && ascI xs
  | _ => false
theorem asc_zip : ∀ {xs : List D}, (∀ d ∈ xs, ∃ i, d = .int i) → ∃ ps : List (Int × Int), (xs.zip (xs.drop 1)) = ps.map (fun p => (.int p.1, .int p.2)) ∧ ps.all (fun p => decide (p.1 < p.2)) = ascI xs
  | [], _ => ⟨[], rfl, rfl⟩
  | [x], h => ⟨[], rfl, by obtain ⟨i, rfl⟩ := h x (by simp); rfl⟩
  | x :: y :: r, h => by
    obtain ⟨ps, h1, h2⟩ := asc_zip (xs := y :: r) fun d hd => h d (by simp only [List.mem_cons] at hd ⊢; exact .inr hd)
    obtain ⟨i, rfl⟩ := h x (by simp)
    obtain ⟨j, rfl⟩ := h y (by simp)
    refine ⟨(i, j) :: ps, ?_, ?_⟩
    · simp at h1 ⊢
      exact h1
    · simp [h2, ascI]
theorem inR_int {a b : Int} {d : D} (h : inR a b d = true) : ∃ i, d = .int i ∧ a ≤ i ∧ i ≤ b := by
  cases d <;> simp [inR] at h
  exact ⟨_, rfl, h.1, h.2⟩
theorem is_lot_below_eq {d : D} (h : fine d = true) (g : Gh) : f_is_lot_below [.int 20, d] g = some (.ok (.bl (lotB d)) g) := by
  cases d with
  | tup xs =>
    obtain ⟨hl, hm⟩ := fine_tup.mp h
    have hc : compD (gN 2) tY (cFn 2 f_is_number_below (cC (cV 0) (cC (cV 2) cN))) xs (blkE [.dt (.int 20), .dt (.tup xs), .un, .un, .un] [2]) g = some (.ok (xs.map fun d => .bl (inR 0 19 d)) g) := by
      refine compD_map fun d hd => ⟨_, rfl, ?_⟩
      have := is_number_below_eq 20 (hm d hd) g
      simp [blkE, wipeE, hideE, this]
    have e2 : xs.length ≤ 1000 := by omega
    by_cases ha : xs.all (inR 0 19) = true
    · obtain ⟨ps, h1, h2⟩ := asc_zip (xs := xs) fun d hd => by
        obtain ⟨i, rfl, _⟩ := inR_int (List.all_eq_true.mp ha d hd)
        exact ⟨i, rfl⟩
      have hz : zipD [.tup xs, .tup (cutD xs (some 1) none)] = some (ps.map fun p => .tup [.int p.1, .int p.2]) := by
        have : cutD xs (some 1) none = xs.drop 1 := by
          unfold cutD HT.sIx
          cases xs with
          | nil => rfl
          | cons x r => simp
        rw [this]
        show some ((xs.zip (xs.drop 1)).map _) = _
        rw [h1]
        simp
      have hl2 : ps.length ≤ 1000 := by
        have := congrArg List.length h1
        simp at this
        omega
      have hc2 : compD (gT 2 (gsC (gN 3) (gsC (gN 4) gsN))) tY (cOp ltD (cV 3) (cV 4)) (ps.map fun p => .tup [.int p.1, .int p.2]) (blkE [.dt (.int 20), .dt (.tup xs), .un, .un, .un] [3, 4]) g = some (.ok ((ps.map fun p => D.tup [.int p.1, .int p.2]).map fun d => match d with
        | .tup [.int a, .int b] => .bl (decide (a < b))
        | _ => .non) g) := by
        refine compD_map fun d hd => ?_
        obtain ⟨p, _, rfl⟩ := List.mem_map.mp hd
        exact ⟨_, rfl, by simp [blkE, wipeE, hideE]⟩
      have hf : ((ps.map fun p => D.tup [.int p.1, .int p.2]).map fun d => match d with
        | .tup [.int a, .int b] => D.bl (decide (a < b))
        | _ => .non) = ps.map fun p => D.bl (decide (p.1 < p.2)) := by simp
      rw [hf] at hc2
      simp [f_is_lot_below, b_is_lot_below, fnOf, isTyD, isTyB, sSeq, lotB, hc, e2, allD_map, ha, slD, hz, hc2, hl2, h2]
    · have ha' : xs.all (inR 0 19) = false := by simpa using ha
      simp [f_is_lot_below, b_is_lot_below, fnOf, isTyD, isTyB, sSeq, lotB, hc, e2, allD_map, ha']
  | hnd => simp [fine] at h
  | obj c ks ds => simp_all [f_is_lot_below, b_is_lot_below, fnOf, isTyD, isTyB, sSeq, lotB, fine]
  | _ => simp [f_is_lot_below, b_is_lot_below, fnOf, isTyD, isTyB, sSeq, lotB]
end Kk01
set_option Elab.async false
set_option linter.all false
set_option maxRecDepth 100000
set_option maxHeartbeats 2000000
namespace Kk01
open PySem L2 FD
theorem rngD_cons (lo : Int) (n : Nat) : rngD lo (n + 1) = .int lo :: rngD (lo + 1) n := by
  unfold rngD
  rw [List.range_succ_eq_map]
  simp only [List.map_cons, List.map_map, List.cons.injEq, Int.natCast_zero, Int.add_zero, true_and]
  refine List.map_congr_left fun k _ => ?_
  simp only [Function.comp]
  congr 1
  omega
theorem rngD_zero (lo : Int) : rngD lo 0 = [] := rfl
def ascF : Option Int → List D → Bool
  | _, [] => true
  | none, .int i :: r => (decide (0 ≤ i) && decide (i ≤ 19)) && ascF (some i) r
  | some p, .int i :: r => (decide (0 ≤ i) && decide (i ≤ 19)) && (decide (p < i) && ascF (some i) r)
  | _, _ => false
theorem ascF_some : ∀ {r : List D} {p : Int}, ascF (some p) r = (r.all (inR 0 19) && ascI (.int p :: r))
  | [], p => rfl
  | .int i :: r, p => by
    rw [ascF, ascF_some, ascI]
    simp only [List.all_cons, inR]
    cases decide (0 ≤ i) <;> cases decide (i ≤ 19) <;> cases decide (p < i) <;> cases r.all (inR 0 19) <;> rfl
  | .non :: r, p => by simp [ascF, inR]
  | .bl _ :: r, p => by simp [ascF, inR]
  | .str _ :: r, p => by simp [ascF, inR]
  | .tup _ :: r, p => by simp [ascF, inR]
  | .lst _ :: r, p => by simp [ascF, inR]
  | .emp :: r, p => by simp [ascF, inR]
  | .obj _ _ _ :: r, p => by simp [ascF, inR]
  | .hnd :: r, p => by simp [ascF, inR]
theorem ascF_none {xs : List D} : ascF none xs = (xs.all (inR 0 19) && ascI xs) := by
  match xs with
  | [] => rfl
  | .int i :: r =>
    rw [ascF, ascF_some]
    simp only [List.all_cons, inR]
    cases decide (0 ≤ i) <;> cases decide (i ≤ 19) <;> cases r.all (inR 0 19) <;> rfl
  | .non :: r => simp [ascF, inR]
  | .bl _ :: r => simp [ascF, inR]
  | .str _ :: r => simp [ascF, inR]
  | .tup _ :: r => simp [ascF, inR]
  | .lst _ :: r => simp [ascF, inR]
  | .emp :: r => simp [ascF, inR]
  | .obj _ _ _ :: r => simp [ascF, inR]
  | .hnd :: r => simp [ascF, inR]
noncomputable abbrev lotBody : FS := (sIf (cOr (cNot (cT (cFn 3 f_law_is_within (cC (cOp ixD (cV 0) (cV 1)) (cC (cD (.int 0)) (cC (cD (.int 19)) cN)))))) (cAnd (cT (cOp gtD (cV 1) (cD (.int 0)))) (cT (cOp leD (cOp ixD (cV 0) (cV 1)) (cOp ixD (cV 0) (cOp subD (cV 1) (cD (.int 1)))))))) (sRet (cD (.bl false))) sNx)
theorem ix_here {pre r : List D} {d : D} : ixD (.tup (pre ++ d :: r)) (.int (pre.length : Nat)) = some d := by
  show atI (pre ++ d :: r) ((pre.length : Nat) : Int) = _
  rw [FD.atI_nat]; simp
theorem lot_loop {g : Gh} : ∀ (suf pre : List D) (x : En) (p : Option Int), (∀ d ∈ suf, fine d = true) → (match p with | none => pre = [] | some i => ∃ pre', pre = pre' ++ [.int i]) →
    ∃ x', loopD (gN 1) lotBody (rngD (pre.length : Nat) suf.length) [.dt (.tup (pre ++ suf)), x] g = some (.ok (if ascF p suf = true then .nx [.dt (.tup (pre ++ suf)), x'] else .rt (.bl false)) g)
  | [], pre, x, p, _, _ => by
    refine ⟨x, ?_⟩
    cases p <;> simp [rngD_zero, loopD, ascF]
  | d :: r, pre, x, p, hf, hp => by
    have hd := hf d (by simp)
    have hb := law_is_within_eq 0 19 hd g
    have hx := ix_here (pre := pre) (r := r) (d := d)
    rw [List.length_cons, rngD_cons]
    by_cases hi : inR 0 19 d = true
    · obtain ⟨i, rfl, h0, h1⟩ := inR_int hi
      have key : ∀ ok : Bool, lotBody [.dt (.tup (pre ++ .int i :: r)), .dt (.int (pre.length : Nat))] g = some (.ok (if ok = true then .nx [.dt (.tup (pre ++ .int i :: r)), .dt (.int (pre.length : Nat))] else .rt (.bl false)) g) →
          (ascF p (.int i :: r) = (ok && ascF (some i) r)) → ∃ x', loopD (gN 1) lotBody (.int (pre.length : Nat) :: rngD ((pre.length : Nat) + 1) r.length) [.dt (.tup (pre ++ .int i :: r)), x] g = some (.ok (if ascF p (.int i :: r) = true then .nx [.dt (.tup (pre ++ .int i :: r)), x'] else .rt (.bl false)) g) := fun ok hbody hasc => by
        unfold loopD
        simp only [gN, List.set]
        rw [hbody]
        cases ok with
        | false => exact ⟨x, by simp [hasc]⟩
        | true =>
          obtain ⟨x', e⟩ := lot_loop (g := g) r (pre ++ [.int i]) (.dt (.int (pre.length : Nat))) (some i) (fun d hd => hf d (by simp [hd])) ⟨pre, rfl⟩
          refine ⟨x', ?_⟩
          have e2 : ((pre ++ [D.int i]).length : Int) = (pre.length : Int) + 1 := by simp
          rw [show ((((pre ++ [D.int i]).length : Nat)) : Int) = (pre.length : Int) + 1 from e2] at e
          rw [List.append_assoc] at e
          simp only [List.cons_append, List.nil_append] at e
          rw [hasc]
          simpa using e
      cases p with
      | none =>
        subst hp
        refine key true ?_ (by simp [ascF, h0, h1])
        simp at hx hb
        simp [lotBody, hx, hb, inR, h0, h1]
      | some q =>
        obtain ⟨pre', rfl⟩ := hp
        have hx2 : ixD (.tup (pre' ++ [.int q] ++ .int i :: r)) (.int (((pre' ++ [.int q] : List D).length : Nat) - 1)) = some (.int q) := by
          have e3 : ((((pre' ++ [.int q] : List D).length : Nat) : Int) - 1) = ((pre'.length : Nat) : Int) := by simp
          rw [e3, List.append_assoc]
          exact ix_here
        have hpos : (0 : Int) < ((pre' ++ [.int q] : List D).length : Nat) := by simp
        refine key (decide (q < i)) ?_ (by simp [ascF, h0, h1])
        generalize hN : (((pre' ++ [.int q] : List D).length : Nat) : Int) = N at hx hx2 hpos
        have hr : inR 0 19 (.int i) = true := hi
        rw [hr] at hb
        simp only [lotBody, sIf, cOr, cNot, cT, cFn, cC, cN, cOp, cV, cD, cAnd, M.bd, List.getElem?_cons_zero, List.getElem?_cons_succ, lift, hx, hb, noX_ok, toB, List.length_cons, List.length_nil, gtD_int, subD_int, hx2, leD_int, hpos]
        by_cases hq : q < i
        · have : ¬ i ≤ q := by omega
          simp [hq, this]
        · have : i ≤ q := by omega
          simp [hq, this]
    · have hi' : inR 0 19 d = false := by simpa using hi
      have ha : ascF p (d :: r) = false := by
        cases p <;> cases d <;> simp [ascF, inR] at hi' ⊢ <;> intros <;> omega
      refine ⟨x, ?_⟩
      unfold loopD
      rw [hi'] at hb
      simp [lotBody, hx, hb, ha]
end Kk01
set_option Elab.async false
set_option linter.all false
set_option maxRecDepth 100000
set_option maxHeartbeats 2000000
namespace Kk01
open PySem L2 FD
theorem llr_tup {xs : List D} (h : fine (.tup xs) = true) (g : Gh) : f_law_lot_right [.tup xs] g = some (.ok (.bl (lotB (.tup xs))) g) := by
  obtain ⟨hl, hm⟩ := fine_tup.mp h
  obtain ⟨x', e⟩ := lot_loop (g := g) xs [] .un none hm rfl
  simp only [List.nil_append, List.length_nil, Int.natCast_zero, ascF_none] at e
  have hr : rng1 [.int (xs.length : Nat)] = some (rngD 0 xs.length) := rng1_nat (Nat.le_trans hl (by decide))
  have key : b_law_lot_right [.dt (.tup xs), .un] g = some (.ok (.rt (.bl (xs.all (inR 0 19) && ascI xs))) g) := by
    unfold b_law_lot_right
    refine (sSeq_nx (ρ1 := [.dt (.tup xs), .un]) (g1 := g) (by simp [isTyD, isTyB])).trans ?_
    have hf : sFor (iR1 (cC (cCall lenD (cC (cV 0) cN)) cN)) (gN 1) lotBody [.dt (.tup xs), .un] g = loopD (gN 1) lotBody (rngD 0 xs.length) [.dt (.tup xs), .un] g := by
      simp only [sFor, iR1, cC, cCall, cV, cN, M.bd, List.getElem?_cons_zero, lift, lenD_tup, hr]
    by_cases ha : (xs.all (inR 0 19) && ascI xs) = true
    · rw [if_pos ha] at e
      rw [ha]
      exact (sSeq_nx (hf.trans e)).trans (by simp)
    · rw [if_neg ha] at e
      have ha' : (xs.all (inR 0 19) && ascI xs) = false := by simpa using ha
      rw [ha']
      exact sSeq_rt (hf.trans e)
  show noX (fnOf 2 b_law_lot_right [.tup xs] g) = _
  unfold fnOf
  rw [show ([D.tup xs].map En.dt ++ List.replicate (2 - [D.tup xs].length) En.un) = [.dt (.tup xs), .un] from rfl, key]
  rfl
theorem law_lot_right_eq {d : D} (h : fine d = true) (g : Gh) : f_law_lot_right [d] g = some (.ok (.bl (lotB d)) g) := by
  cases d with
  | tup xs => exact llr_tup h g
  | hnd => simp [fine] at h
  | obj c ks ds =>
    have hc : c = "Play" := by simpa [fine] using h
    subst hc
    simp [f_law_lot_right, b_law_lot_right, fnOf, isTyD, isTyB, sSeq, lotB]
  | _ => simp [f_law_lot_right, b_law_lot_right, fnOf, isTyD, isTyB, sSeq, lotB]
end Kk01
set_option Elab.async false
set_option linter.all false
set_option maxRecDepth 100000
set_option maxHeartbeats 2000000
namespace Kk01
open PySem L2 FD
/-! rows of hands -/
def rowB : D → Bool
  | .tup xs => decide (1 ≤ xs.length) && decide (xs.length ≤ 5)
  | _ => false
theorem is_row_eq {d : D} (h : fine d = true) (g : Gh) : f_is_row_of_hands [d] g = some (.ok (.bl (rowB d)) g) := by
  cases d with
  | tup xs =>
    by_cases h1 : 1 ≤ xs.length
    · have e1 : (1 : Int) ≤ xs.length := by omega
      have e2 : (decide ((xs.length : Int) ≤ 5)) = decide (xs.length ≤ 5) := by
        by_cases h5 : xs.length ≤ 5
        · rw [decide_eq_true h5, decide_eq_true (by omega)]
        · rw [decide_eq_false h5, decide_eq_false (by omega)]
      simp [f_is_row_of_hands, b_is_row_of_hands, fnOf, isTyD, isTyB, rowB, k_MOST_HANDS, e1, h1, e2]
    · have e1 : ¬ (1 : Int) ≤ xs.length := by omega
      simp [f_is_row_of_hands, b_is_row_of_hands, fnOf, isTyD, isTyB, rowB, k_MOST_HANDS, e1, h1]
  | hnd => simp [fine] at h
  | obj c ks ds =>
    have hc : c = "Play" := by simpa [fine] using h
    subst hc
    simp [f_is_row_of_hands, b_is_row_of_hands, fnOf, isTyD, isTyB, rowB]
  | _ => simp [f_is_row_of_hands, b_is_row_of_hands, fnOf, isTyD, isTyB, rowB]
def nearB : D → Bool
  | .tup [r, .tup xs] => inR 1 6 r && (rowB (.tup xs) && xs.all (inR (-1000) 1000))
  | _ => false
theorem is_near_eq {d : D} (h : fine d = true) (g : Gh) : f_is_near [d] g = some (.ok (.bl (nearB d)) g) := by
  cases d with
  | tup xs =>
    obtain ⟨hl, hm⟩ := fine_tup.mp h
    match xs, hl, hm with
    | [], _, _ => simp [f_is_near, b_is_near, fnOf, isTyD, isTyB, sSeq, nearB]
    | [x], _, _ => simp [f_is_near, b_is_near, fnOf, isTyD, isTyB, sSeq, nearB]
    | [r, v], _, hm =>
      have hr := is_whole_within_eq 1 6 (hm r (by simp)) g
      have hv := is_row_eq (hm v (by simp)) g
      have fv := hm v (by simp)
      by_cases h1 : inR 1 6 r = true
      · by_cases h2 : rowB v = true
        · cases v with
          | tup ys =>
            obtain ⟨hl2, hm2⟩ := fine_tup.mp fv
            have hc : compD (gN 3) tY (cFn 3 f_is_whole_within (cC (c1 negD (cD k_NEAR_MOST)) (cC (cD k_NEAR_MOST) (cC (cV 3) cN)))) ys (blkE [.dt (.tup [r, .tup ys]), .dt r, .dt (.tup ys), .un] [3]) g = some (.ok (ys.map fun d => .bl (inR (-1000) 1000 d)) g) := by
              refine compD_map fun d hd => ⟨_, rfl, ?_⟩
              have := is_whole_within_eq (-1000) 1000 (hm2 d hd) g
              simp [blkE, wipeE, hideE, k_NEAR_MOST, this]
            have e2 : ys.length ≤ 1000 := by omega
            simp [f_is_near, b_is_near, fnOf, isTyD, isTyB, sSeq, nearB, k_MOST_ROUNDS, hr, hv, h1, h2, hc, e2, allD_map]
          | _ => simp [rowB] at h2
        · have h2' : rowB v = false := by simpa using h2
          have hn : nearB (.tup [r, v]) = false := by
            cases v <;> simp [nearB]
            intro _ z
            rw [z] at h2'; cases h2'
          simp [f_is_near, b_is_near, fnOf, isTyD, isTyB, sSeq, hn, k_MOST_ROUNDS, hr, hv, h1, h2']
      · have h1' : inR 1 6 r = false := by simpa using h1
        have hn : nearB (.tup [r, v]) = false := by cases v <;> simp [nearB, h1']
        simp [f_is_near, b_is_near, fnOf, isTyD, isTyB, sSeq, hn, k_MOST_ROUNDS, hr, h1']
    | x :: y :: z :: r, hl, _ =>
      have e1 : ((r.length : Int) + 1 + 1 + 1 == 2) = false := by simp; omega
      simp [f_is_near, b_is_near, fnOf, isTyD, isTyB, sSeq, nearB, e1]
  | hnd => simp [fine] at h
  | obj c ks ds =>
    have hc : c = "Play" := by simpa [fine] using h
    subst hc
    simp [f_is_near, b_is_near, fnOf, isTyD, isTyB, sSeq, nearB]
  | _ => simp [f_is_near, b_is_near, fnOf, isTyD, isTyB, sSeq, nearB]
/-! inputs -/
abbrev MAN : List Str := ["sweep", "twice", "borrow"]
abbrev KIN : List Str := ["sweep", "twice", "borrow", "levels", "names", "near", "chain"]
theorem kMAN : k_MANNERS = .tup (MAN.map .str) := rfl
theorem kKIN : k_KINDS = .tup (KIN.map .str) := rfl
def ints? : List D → Option (List Int) := intsOf
theorem intsOf_all : ∀ {xs : List D} {a b : Int}, xs.all (inR a b) = true → ∃ ns, intsOf xs = some ns ∧ xs = ns.map .int ∧ ns.length = xs.length
  | [], _, _, _ => ⟨[], rfl, rfl, rfl⟩
  | d :: xs, a, b, h => by
    simp only [List.all_cons, Bool.and_eq_true] at h
    obtain ⟨i, rfl, _⟩ := inR_int h.1
    obtain ⟨ns, h1, h2, h3⟩ := intsOf_all h.2
    exact ⟨i :: ns, by simp [intsOf, h1], by simp [h2], by simp [h3]⟩
def distinctB (xs : List D) : Bool := match intsOf xs with
  | some ns => unlike ns == ns.length
  | none => false
def inputsB (k : Str) : D → Bool
  | .tup xs => if k = "near" then nearB (.tup xs) else
      rowB (.tup xs) && (if MAN.contains k then xs.all scriptB else if k = "chain" then xs.all lotB else xs.all (inR 0 999) && (k == "levels" || distinctB xs))
  | _ => false
theorem inputsB_tup (k : Str) (xs : List D) : inputsB k (.tup xs) = if k = "near" then nearB (.tup xs) else
      rowB (.tup xs) && (if MAN.contains k then xs.all scriptB else if k = "chain" then xs.all lotB else xs.all (inR 0 999) && (k == "levels" || distinctB xs)) := rfl
theorem ok7 : ∀ k ∈ KIN, okStr k = true := by
  intro k hk
  simp only [List.mem_cons, List.not_mem_nil, or_false] at hk
  rcases hk with rfl | rfl | rfl | rfl | rfl | rfl | rfl <;> exact okS (by decide +kernel)
theorem okW {z : Str} (h : z ∈ KIN) (w : Str) (hw : okStr w = true) : eqD (.str z) (.str w) = some (.bl (z == w)) := eqD_str (ok7 z h) hw
theorem is_inputs_eq {k : Str} (hk : k ∈ KIN) {d : D} (h : fine d = true) (g : Gh) : f_is_inputs [.str k, d] g = some (.ok (.bl (inputsB k d)) g) := by
  have q1 := okW hk "near" (okS (by decide +kernel))
  have q2 := okW hk "chain" (okS (by decide +kernel))
  have q3 := okW hk "levels" (okS (by decide +kernel))
  have q4 : inD (.str k) k_MANNERS = some (.bl (MAN.contains k)) := inD_strs k MAN
  by_cases hn : k = "near"
  · subst hn
    have hne := is_near_eq h g
    have e : inputsB "near" d = nearB d := by
      cases d <;> simp [inputsB, nearB]
    simp [f_is_inputs, b_is_inputs, fnOf, sSeq, q1, hne, e]
  have hrow := is_row_eq h g
  have q1' : eqD (.str k) (.str "near") = some (.bl false) := by rw [q1]; simp [hn]
  by_cases hr : rowB d = true
  case neg =>
    have hr' : rowB d = false := by simpa using hr
    have e : inputsB k d = false := by
      cases d <;> simp [inputsB, hn]
      intro z; rw [z] at hr'; cases hr'
    simp [f_is_inputs, b_is_inputs, fnOf, sSeq, q1', hrow, hr', e]
  cases d with
  | tup xs =>
    obtain ⟨hl, hm⟩ := fine_tup.mp h
    have e2 : xs.length ≤ 1000 := by omega
    have hr2 := hr
    by_cases hman : MAN.contains k = true
    · have hc : compD (gN 2) tY (cFn 1 f_is_script (cC (cV 2) cN)) xs (blkE [.dt (.str k), .dt (.tup xs), .un] [2]) g = some (.ok (xs.map fun d => .bl (scriptB d)) g) := by
        refine compD_map fun d hd => ⟨_, rfl, ?_⟩
        have := is_script_eq (hm d hd) g
        simp [blkE, wipeE, hideE, this]
      rw [hman] at q4
      have e : inputsB k (.tup xs) = xs.all scriptB := by
        rw [inputsB_tup, if_neg hn, hr, hman]
        simp
      simp [f_is_inputs, b_is_inputs, fnOf, sSeq, q1', hrow, hr, q4, hc, e2, allD_map, e]
    · have hman' : MAN.contains k = false := by simpa using hman
      rw [hman'] at q4
      by_cases hch : k = "chain"
      · have hc : compD (gN 2) tY (cFn 2 f_is_lot_below (cC (cD k_LOT_LIMIT) (cC (cV 2) cN))) xs (blkE [.dt (.str k), .dt (.tup xs), .un] [2]) g = some (.ok (xs.map fun d => .bl (lotB d)) g) := by
          refine compD_map fun d hd => ⟨_, rfl, ?_⟩
          have := is_lot_below_eq (hm d hd) g
          simp [blkE, wipeE, hideE, k_LOT_LIMIT, this]
        have e : inputsB k (.tup xs) = xs.all lotB := by
          rw [inputsB_tup, if_neg hn, hr, hman', if_pos hch]
          simp
        have q2' : eqD (.str k) (.str "chain") = some (.bl true) := by rw [q2]; simp [hch]
        simp [f_is_inputs, b_is_inputs, fnOf, sSeq, q1', q2', hrow, hr, q4, hc, e2, allD_map, e]
      · have q2' : eqD (.str k) (.str "chain") = some (.bl false) := by rw [q2]; simp [hch]
        have hc : compD (gN 2) tY (cFn 2 f_is_number_below (cC (cD k_NUMBER_LIMIT) (cC (cV 2) cN))) xs (blkE [.dt (.str k), .dt (.tup xs), .un] [2]) g = some (.ok (xs.map fun d => .bl (inR 0 999 d)) g) := by
          refine compD_map fun d hd => ⟨_, rfl, ?_⟩
          have := is_number_below_eq 1000 (hm d hd) g
          simp [blkE, wipeE, hideE, k_NUMBER_LIMIT, this]
        by_cases ha : xs.all (inR 0 999) = true
        · obtain ⟨ns, h1, h2, h3⟩ := intsOf_all ha
          have hls : lenSetD (.tup xs) = some (.int (unlike ns : Nat)) := by
            simp only [lenSetD, h1, Option.bind_some]
            exact if_pos (by omega)
          have e : inputsB k (.tup xs) = (k == "levels" || (unlike ns == xs.length)) := by
            have e3 : distinctB xs = (unlike ns == xs.length) := by
              unfold distinctB
              rw [h1]
              simp only [h3]
            rw [inputsB_tup, if_neg hn, hr, hman', if_neg hch, ha, e3]
            simp
          have ec : ((((unlike ns : Nat) : Int) == ((xs.length : Nat) : Int)) = (unlike ns == xs.length)) := by
            by_cases z : unlike ns = xs.length
            · simp [z]
            · have : ¬ ((unlike ns : Nat) : Int) = ((xs.length : Nat) : Int) := by omega
              rw [beq_eq_false_iff_ne.mpr this, beq_eq_false_iff_ne.mpr z]
          cases hlv : (k == "levels") with
          | true =>
            rw [hlv] at q3
            simp [f_is_inputs, b_is_inputs, fnOf, sSeq, q1', q2', q3, hrow, hr, q4, hc, e2, allD_map, ha, e, hlv]
          | false =>
            rw [hlv] at q3
            simp [f_is_inputs, b_is_inputs, fnOf, sSeq, q1', q2', q3, hrow, hr, q4, hc, e2, allD_map, ha, e, hlv, hls]
            simpa using ec
        · have ha' : xs.all (inR 0 999) = false := by simpa using ha
          have e : inputsB k (.tup xs) = false := by
            rw [inputsB_tup, if_neg hn, hr, hman', if_neg hch, ha']
            simp
          simp [f_is_inputs, b_is_inputs, fnOf, sSeq, q1', q2', hrow, hr, q4, hc, e2, allD_map, ha', e]
  | _ => simp [rowB] at hr
end Kk01
set_option Elab.async false
set_option linter.all false
set_option maxRecDepth 100000
set_option maxHeartbeats 2000000
namespace Kk01
open PySem L2 FD
theorem cLc_ok {fi : FI} {vs : List Nat} {gs : FG} {ft : FT} {fe : FE} {ρ : List En} {g g1 g2 : Gh} {ds ys : List D} (hi : fi ρ g = some (.ok ds g1)) (hc : compD gs ft fe ds (blkE ρ vs) g1 = some (.ok ys g2)) (hl : ys.length ≤ 1000) : cLc fi vs gs ft fe ρ g = some (.ok (.lst ys) g2) := by
  simp only [cLc, hi, M.bd, hc, if_pos hl]
theorem filter_zero {α : Type} {p : α → Bool} {xs : List α} : ((((xs.filter fun d => !p d).length : Nat) : Int) == 0) = xs.all p := by
  by_cases h : xs.all p = true
  · rw [h]
    have : (xs.filter fun d => !p d) = [] := by
      rw [List.filter_eq_nil_iff]
      intro a ha
      simp [List.all_eq_true.mp h a ha]
    rw [this]; rfl
  · have h' : xs.all p = false := by simpa using h
    rw [h']
    have : (xs.filter fun d => !p d) ≠ [] := by
      intro z
      rw [List.filter_eq_nil_iff] at z
      apply h
      rw [List.all_eq_true]
      intro a ha
      have := z a ha
      simpa using this
    have h0 : (xs.filter fun d => !p d).length ≠ 0 := fun z => this (List.eq_nil_of_length_eq_zero z)
    rw [beq_eq_false_iff_ne]
    omega
theorem filter_pos {α : Type} {p : α → Bool} {xs : List α} : (decide ((0 : Int) < (((xs.filter fun d => !p d).length : Nat) : Int))) = !xs.all p := by
  have := filter_zero (p := p) (xs := xs)
  cases h : xs.all p with
  | true =>
    rw [h] at this
    have := beq_iff_eq.mp this
    rw [decide_eq_false (by omega)]; rfl
  | false =>
    rw [h] at this
    have := beq_eq_false_iff_ne.mp this
    rw [decide_eq_true (by omega)]; rfl
/-- an item of a kind -/
def itemB (k : Str) (d : D) : Bool := if MAN.contains k then scriptB d else if k = "chain" then lotB d else if k = "near" then inR (-1000) 1000 d else inR 0 999 d
theorem inMANL (k : Str) : inD (.str k) (.lst [.str "sweep", .str "twice", .str "borrow"]) = some (.bl (MAN.contains k)) := inD_strsL k MAN
theorem law_item_right_eq {k : Str} (hk : k ∈ KIN) {d : D} (h : fine d = true) (g : Gh) : f_law_item_right [.str k, d] g = some (.ok (.bl (itemB k d)) g) := by
  have q1 := okW hk "near" (okS (by decide +kernel))
  have q2 := okW hk "chain" (okS (by decide +kernel))
  have q4 := inMANL k
  by_cases hman : MAN.contains k = true
  · rw [hman] at q4
    have e : itemB k d = scriptB d := by unfold itemB; rw [hman]; rfl
    cases d with
    | tup xs =>
      obtain ⟨hl, hm⟩ := fine_tup.mp h
      have hc : compD (gN 2) (cNot (cT (cFn 1 f_law_deed_right (cC (cV 2) cN)))) (cV 2) xs (blkE [.dt (.str k), .dt (.tup xs), .un] [2]) g = some (.ok ((xs.filter fun d => !deedB d).map id) g) := by
        refine compD_filter (F := id) fun d hd => ⟨_, rfl, ?_, ?_⟩
        · have := law_deed_right_eq (hm d hd) g
          simp [blkE, wipeE, hideE, this]
        · simp [blkE, wipeE, hideE]
      rw [List.map_id] at hc
      have e2 : (xs.filter fun d => !deedB d).length ≤ 1000 := Nat.le_trans (List.length_filter_le _ _) (by omega)
      by_cases h6 : xs.length ≤ 6
      · have e1 : ¬ (6 : Int) < xs.length := by omega
        have ez := filter_zero (p := deedB) (xs := xs)
        have es : scriptB (.tup xs) = xs.all deedB := by simp [scriptB, h6]
        simp [f_law_item_right, b_law_item_right, fnOf, sSeq, q4, isTyD, isTyB, e1, hc, e2, e, es, ez]
      · have e1 : (6 : Int) < xs.length := by omega
        have es : scriptB (.tup xs) = false := by simp [scriptB, h6]
        simp [f_law_item_right, b_law_item_right, fnOf, sSeq, q4, isTyD, isTyB, e1, e, es]
    | hnd => simp [fine] at h
    | obj c ks ds =>
      have hc : c = "Play" := by simpa [fine] using h
      subst hc
      simp [f_law_item_right, b_law_item_right, fnOf, sSeq, q4, isTyD, isTyB, e, scriptB]
    | _ => simp [f_law_item_right, b_law_item_right, fnOf, sSeq, q4, isTyD, isTyB, e, scriptB]
  · have hman' : MAN.contains k = false := by simpa using hman
    rw [hman'] at q4
    by_cases hch : k = "chain"
    · have e : itemB k d = lotB d := by unfold itemB; rw [hman', if_pos hch]; rfl
      have q2' : eqD (.str k) (.str "chain") = some (.bl true) := by rw [q2]; simp [hch]
      simp [f_law_item_right, b_law_item_right, fnOf, sSeq, q4, q2', law_lot_right_eq h g, e]
    · have q2' : eqD (.str k) (.str "chain") = some (.bl false) := by rw [q2]; simp [hch]
      by_cases hn : k = "near"
      · have q1' : eqD (.str k) (.str "near") = some (.bl true) := by rw [q1]; simp [hn]
        have e : itemB k d = inR (-1000) 1000 d := by unfold itemB; rw [hman', if_neg hch, if_pos hn]; rfl
        have := law_is_within_eq (-1000) 1000 h g
        simp [f_law_item_right, b_law_item_right, fnOf, sSeq, q4, q2', q1', this, e]
      · have q1' : eqD (.str k) (.str "near") = some (.bl false) := by rw [q1]; simp [hn]
        have e : itemB k d = inR 0 999 d := by unfold itemB; rw [hman', if_neg hch, if_neg hn]; rfl
        have := law_is_within_eq 0 999 h g
        simp [f_law_item_right, b_law_item_right, fnOf, sSeq, q4, q2', q1', this, e]
theorem sortSet_len (ns : List Int) : (sortSet ns).length = unlike ns := by
  unfold sortSet unlike
  exact List.length_mergeSort _
/-- behind the rounds -/
def restB (k : Str) : D → Bool
  | .tup xs => rowB (.tup xs) && (xs.all (itemB k) && (!(k == "names") || distinctB xs))
  | _ => false
noncomputable abbrev inTail : FS := (sSeq (sIf (cOr (cNot (cT (cIs "tuple" (cV 1)))) (cOr (cT (cOp ltD (cCall lenD (cC (cV 1) cN)) (cD (.int 1)))) (cT (cOp gtD (cCall lenD (cC (cV 1) cN)) (cD (.int 5)))))) (sRet (cD (.bl false))) sNx) (sSeq (sIf (cT (cOp gtD (cCall lenD (cC (cLc (iS (cV 1)) [2] (gN 2) (cNot (cT (cFn 2 f_law_item_right (cC (cV 0) (cC (cV 2) cN))))) (cV 2)) cN)) (cD (.int 0)))) (sRet (cD (.bl false))) sNx) (sRet (cOrV (cOp neD (cV 0) (cD (.str "names"))) (cOp eqD (cCall lenD (cC (c1 sortSetD (cV 1)) cN)) (cCall lenD (cC (cV 1) cN)))))))
theorem inTail_eq {k : Str} (hk : k ∈ KIN) {d : D} (h : fine d = true) (g : Gh) : inTail [.dt (.str k), .dt d, .un] g = some (.ok (.rt (.bl (restB k d))) g) := by
  have q5 : neD (.str k) (.str "names") = some (.bl (!(k == "names"))) := neD_str (ok7 k hk) (okS (by decide +kernel))
  cases d with
  | tup xs =>
    obtain ⟨hl, hm⟩ := fine_tup.mp h
    by_cases h1 : 1 ≤ xs.length
    case neg =>
      have e1 : (xs.length : Int) < 1 := by omega
      have er : restB k (.tup xs) = false := by simp [restB, rowB, h1]
      simp [inTail, sSeq, isTyD, isTyB, e1, er]
    by_cases h5 : xs.length ≤ 5
    case neg =>
      have e1 : ¬ (xs.length : Int) < 1 := by omega
      have e5 : (5 : Int) < (xs.length : Int) := by omega
      have er : restB k (.tup xs) = false := by simp [restB, rowB, h5]
      simp [inTail, sSeq, isTyD, isTyB, e1, e5, er]
    have e1 : ¬ (xs.length : Int) < 1 := by omega
    have e5 : ¬ (5 : Int) < (xs.length : Int) := by omega
    have hr : rowB (.tup xs) = true := by simp [rowB, h1, h5]
    have hc : compD (gN 2) (cNot (cT (cFn 2 f_law_item_right (cC (cV 0) (cC (cV 2) cN))))) (cV 2) xs (blkE [.dt (.str k), .dt (.tup xs), .un] [2]) g = some (.ok ((xs.filter fun d => !itemB k d).map id) g) := by
      refine compD_filter (F := id) fun d hd => ⟨_, rfl, ?_, ?_⟩
      · have := law_item_right_eq hk (hm d hd) g
        simp [blkE, wipeE, hideE, this]
      · simp [blkE, wipeE, hideE]
    rw [List.map_id] at hc
    have e2 : (xs.filter fun d => !itemB k d).length ≤ 1000 := Nat.le_trans (List.length_filter_le _ _) (by omega)
    have ez := filter_pos (p := itemB k) (xs := xs)
    have hC : cLc (iS (cV 1)) [2] (gN 2) (cNot (cT (cFn 2 f_law_item_right (cC (cV 0) (cC (cV 2) cN))))) (cV 2) [.dt (.str k), .dt (.tup xs), .un] g = some (.ok (.lst (xs.filter fun d => !itemB k d)) g) := by
      exact cLc_ok (ds := xs) rfl hc e2
    have s1 : (sIf (cOr (cNot (cT (cIs "tuple" (cV 1)))) (cOr (cT (cOp ltD (cCall lenD (cC (cV 1) cN)) (cD (.int 1)))) (cT (cOp gtD (cCall lenD (cC (cV 1) cN)) (cD (.int 5)))))) (sRet (cD (.bl false))) sNx) [.dt (.str k), .dt (.tup xs), .un] g = some (.ok (.nx [.dt (.str k), .dt (.tup xs), .un]) g) := by
      simp [isTyD, isTyB, e1, e5]
    have s2 : (sIf (cT (cOp gtD (cCall lenD (cC (cLc (iS (cV 1)) [2] (gN 2) (cNot (cT (cFn 2 f_law_item_right (cC (cV 0) (cC (cV 2) cN))))) (cV 2)) cN)) (cD (.int 0)))) (sRet (cD (.bl false))) sNx) [.dt (.str k), .dt (.tup xs), .un] g = some (.ok (if xs.all (itemB k) = true then .nx [.dt (.str k), .dt (.tup xs), .un] else .rt (.bl false)) g) := by
      generalize hL : cLc (iS (cV 1)) [2] (gN 2) (cNot (cT (cFn 2 f_law_item_right (cC (cV 0) (cC (cV 2) cN))))) (cV 2) = L at hC
      simp only [sIf, cT, cOp, cCall, cC, cN, cD, hC, M.bd, lift, lenD_lst, gtD_int, toB, ez]
      cases xs.all (itemB k) <;> simp
    refine (sSeq_nx s1).trans ?_
    cases ha : xs.all (itemB k) with
    | false =>
      rw [ha] at s2
      have er : restB k (.tup xs) = false := by simp [restB, ha]
      rw [er]
      exact sSeq_rt s2
    | true =>
      rw [ha] at s2
      refine (sSeq_nx s2).trans ?_
      by_cases hnm : k = "names"
      · subst hnm
        have hi : xs.all (inR 0 999) = true := ha
        obtain ⟨ns, n1, n2, n3⟩ := intsOf_all hi
        have hss : sortSetD (.tup xs) = some (.lst ((sortSet ns).map .int)) := by
          simp only [sortSetD, n1, Option.bind_some]
          exact if_pos (by omega)
        have ed : distinctB xs = (unlike ns == xs.length) := by
          unfold distinctB
          rw [n1]
          simp only [n3]
        have er : restB "names" (.tup xs) = (unlike ns == xs.length) := by
          simp only [restB, hr, ha, ed]
          simp
        have ec : ((((unlike ns : Nat) : Int) == ((xs.length : Nat) : Int)) = (unlike ns == xs.length)) := by
          by_cases z : unlike ns = xs.length
          · simp [z]
          · have : ¬ ((unlike ns : Nat) : Int) = ((xs.length : Nat) : Int) := by omega
            rw [beq_eq_false_iff_ne.mpr this, beq_eq_false_iff_ne.mpr z]
        have hl2 : (((sortSet ns).map D.int).length : Int) = ((unlike ns : Nat) : Int) := by rw [List.length_map, sortSet_len]
        rw [er]
        simp only [sRet, cOrV, cOp, cV, cD, M.bd, List.getElem?_cons_zero, List.getElem?_cons_succ, q5, lift, cCall, cC, cN, c1, hss, lenD_lst, lenD_tup, eqD_int, hl2, ec]
        simp
      · have er : restB k (.tup xs) = true := by simp [restB, ha, hr, hnm]
        have q5' : neD (.str k) (.str "names") = some (.bl true) := by rw [q5]; simp [hnm]
        rw [er]
        simp [q5']
  | hnd => simp [fine] at h
  | obj c ks ds =>
    have hc : c = "Play" := by simpa [fine] using h
    subst hc
    simp [inTail, sSeq, isTyD, isTyB, restB]
  | _ => simp [inTail, sSeq, isTyD, isTyB, restB]
end Kk01
set_option Elab.async false
set_option linter.all false
set_option maxRecDepth 100000
set_option maxHeartbeats 2000000
namespace Kk01
open PySem L2 FD
theorem rest_inputs {k : Str} (hk : k ∈ KIN) (hn : k ≠ "near") (d : D) : restB k d = inputsB k d := by
  cases d with
  | tup xs =>
    rw [inputsB_tup, if_neg hn]
    have n1 : k = "levels" → (k == "names") = false := fun z => by subst z; decide +kernel
    simp only [List.mem_cons, List.not_mem_nil, or_false] at hk
    rcases hk with rfl | rfl | rfl | rfl | rfl | rfl | rfl
    · show (rowB (.tup xs) && (xs.all scriptB && true)) = (rowB (.tup xs) && xs.all scriptB); rw [Bool.and_true]
    · show (rowB (.tup xs) && (xs.all scriptB && true)) = (rowB (.tup xs) && xs.all scriptB); rw [Bool.and_true]
    · show (rowB (.tup xs) && (xs.all scriptB && true)) = (rowB (.tup xs) && xs.all scriptB); rw [Bool.and_true]
    · show (rowB (.tup xs) && (xs.all (inR 0 999) && true)) = (rowB (.tup xs) && (xs.all (inR 0 999) && true))
      rfl
    · rfl
    · exact absurd rfl hn
    · show (rowB (.tup xs) && (xs.all lotB && true)) = (rowB (.tup xs) && xs.all lotB); rw [Bool.and_true]
  | _ => rfl
theorem inputs_shape {k : Str} {d : D} (h : ∀ xs, d ≠ .tup xs) : inputsB k d = false := by
  cases d <;> first | rfl | exact absurd rfl (h _)
theorem law_inputs_right_eq {k : Str} (hk : k ∈ KIN) {d : D} (h : fine d = true) (g : Gh) : f_law_inputs_right [.str k, d] g = some (.ok (.bl (inputsB k d)) g) := by
  have q1 := okW hk "near" (okS (by decide +kernel))
  have key : b_law_inputs_right [.dt (.str k), .dt d, .un] g = some (.ok (.rt (.bl (inputsB k d))) g) := by
    by_cases hn : k = "near"
    · subst hn
      have q1' : eqD (.str "near") (.str "near") = some (.bl true) := by rw [q1]; simp
      cases d with
      | tup xs =>
        obtain ⟨hl, hm⟩ := fine_tup.mp h
        match xs, hl, hm with
        | [], _, _ => simp [b_law_inputs_right, sSeq, q1', isTyD, isTyB, inputsB, nearB]
        | [x], _, _ => simp [b_law_inputs_right, sSeq, q1', isTyD, isTyB, inputsB, nearB]
        | [r, v], _, hm =>
          have hr := law_is_within_eq 1 6 (hm r (by simp)) g
          have fv := hm v (by simp)
          cases hb : inR 1 6 r with
          | false =>
            rw [hb] at hr
            have e : inputsB "near" (.tup [r, v]) = false := by
              rw [inputsB_tup, if_pos rfl]
              cases v <;> simp [nearB, hb]
            simp [b_law_inputs_right, sSeq, q1', isTyD, isTyB, ixD_tup, hr, e]
          | true =>
            rw [hb] at hr
            have e : inputsB "near" (.tup [r, v]) = restB "near" v := by
              rw [inputsB_tup, if_pos rfl]
              cases v with
              | tup ys =>
                show (inR 1 6 r && (rowB (.tup ys) && ys.all (inR (-1000) 1000))) = (rowB (.tup ys) && (ys.all (inR (-1000) 1000) && true))
                simp [hb]
              | _ => rfl
            rw [e]
            refine (sSeq_nx (ρ1 := [.dt (.str "near"), .dt v, .un]) (g1 := g) ?_).trans (inTail_eq hk fv g)
            simp [sSeq, q1', isTyD, isTyB, ixD_tup, hr]
        | x :: y :: z :: r, hl, _ =>
          have e1 : ((r.length : Int) + 1 + 1 + 1 == 2) = false := by simp; omega
          simp [b_law_inputs_right, sSeq, q1', isTyD, isTyB, inputsB, nearB, e1]
      | hnd => simp [fine] at h
      | obj c ks ds =>
        have hc : c = "Play" := by simpa [fine] using h
        subst hc
        simp [b_law_inputs_right, sSeq, q1', isTyD, isTyB, inputsB]
      | _ => simp [b_law_inputs_right, sSeq, q1', isTyD, isTyB, inputsB]
    · have q1' : eqD (.str k) (.str "near") = some (.bl false) := by rw [q1]; simp [hn]
      rw [← rest_inputs hk hn]
      refine (sSeq_nx (ρ1 := [.dt (.str k), .dt d, .un]) (g1 := g) ?_).trans (inTail_eq hk h g)
      simp [q1']
  show noX (fnOf 3 b_law_inputs_right [.str k, d] g) = _
  unfold fnOf
  rw [show ([D.str k, d].map En.dt ++ List.replicate (3 - [D.str k, d].length) En.un) = [.dt (.str k), .dt d, .un] from rfl, key]
  rfl
theorem isW_kin (d : D) : isW KIN d = true → ∃ k, d = .str k ∧ k ∈ KIN := by
  cases d <;> simp [isW]
theorem law_bad_eq {k d : D} (hk : fine k = true) (h : fine d = true) (g : Gh) : f_law_bad [k, d] g = some (.ok (if isW KIN k = true then (if (match k with | .str z => inputsB z d | _ => false) = true then .non else .str "inputs") else .str "kind") g) := by
  cases k with
  | str z =>
    have q := notInD_strsL z KIN
    by_cases hz : z ∈ KIN
    · have hc : KIN.contains z = true := List.contains_iff_mem.mpr hz
      have hi := law_inputs_right_eq hz h g
      rw [hc] at q
      simp only [List.map_cons, List.map_nil] at q
      have w : isW KIN (.str z) = true := hc
      rw [if_pos w]
      cases hb : inputsB z d <;> rw [hb] at hi <;> simp [f_law_bad, b_law_bad, fnOf, sSeq, isTyD, isTyB, q, hi, hb]
    · have hc : KIN.contains z = false := by
        cases e : KIN.contains z with
        | false => rfl
        | true => exact absurd (List.contains_iff_mem.mp e) hz
      rw [hc] at q
      simp only [List.map_cons, List.map_nil] at q
      have w : ¬ isW KIN (.str z) = true := by show ¬ KIN.contains z = true; rw [hc]; decide
      rw [if_neg w]
      simp [f_law_bad, b_law_bad, fnOf, sSeq, isTyD, isTyB, q]
  | hnd => simp [fine] at hk
  | obj c ks ds =>
    have hc : c = "Play" := by simpa [fine] using hk
    subst hc
    simp [f_law_bad, b_law_bad, fnOf, sSeq, isTyD, isTyB, isW]
  | _ => simp [f_law_bad, b_law_bad, fnOf, sSeq, isTyD, isTyB, isW]
end Kk01
set_option Elab.async false
set_option linter.all false
set_option maxRecDepth 100000
set_option maxHeartbeats 2000000
namespace Kk01
open PySem L2 FD
def plain : Nat → D → Bool
  | 0, _ => false
  | _ + 1, .non => true
  | _ + 1, .bl _ => true
  | _ + 1, .int _ => true
  | _ + 1, .str z => okStr z
  | n + 1, .tup xs => decide (xs.length ≤ 500) && xs.all (plain n)
  | _ + 1, _ => false
theorem plain_tup {n : Nat} {xs : List D} : plain (n + 1) (.tup xs) = true ↔ xs.length ≤ 500 ∧ ∀ d ∈ xs, plain n d = true := by
  simp [plain]
theorem plain_mono {n : Nat} : ∀ {d : D}, plain n d = true → plain (n + 1) d = true := by
  induction n with
  | zero => intro d h; simp [plain] at h
  | succ n ih =>
    intro d h
    cases d with
    | tup xs =>
      rw [plain_tup] at h ⊢
      exact ⟨h.1, fun d hd => ih (h.2 d hd)⟩
    | _ => simpa [plain] using h
def pyOk (n : Nat) (d : D) : Prop := ∃ p, d.py = some p ∧ p.canLay0 = true ∧ p.depth ≤ n ∧ PyData.eqv p p = true
def pysOk (n : Nat) (ds : List D) : Prop := ∃ ps, D.pys ds = some ps ∧ PyData.canLayAll0 ps = true ∧ PyData.depthAll ps ≤ n ∧ PyData.eqvAll ps ps = true
theorem pysOk_of {n : Nat} : ∀ {ds : List D}, (∀ d ∈ ds, pyOk n d) → pysOk n ds
  | [], _ => ⟨[], rfl, rfl, Nat.zero_le _, rfl⟩
  | d :: ds, h => by
    obtain ⟨p, h1, h2, h3, h4⟩ := h d (by simp)
    obtain ⟨ps, e1, e2, e3, e4⟩ := pysOk_of (ds := ds) fun d hd => h d (by simp [hd])
    refine ⟨p :: ps, by simp [D.pys, h1, e1], by simp [PyData.canLayAll0, h2, e2], ?_, by simp [PyData.eqvAll, h4, e4]⟩
    simp only [PyData.depthAll]
    omega
theorem plain_py {n : Nat} : ∀ {d : D}, plain n d = true → pyOk n d := by
  induction n with
  | zero => intro d h; simp [plain] at h
  | succ n ih =>
    intro d h
    cases d with
    | non => exact ⟨_, rfl, rfl, by simp [PyData.depth], rfl⟩
    | bl b => exact ⟨_, rfl, rfl, by simp [PyData.depth], by simp [PyData.eqv]⟩
    | int i => exact ⟨_, rfl, rfl, by simp [PyData.depth], by simp [PyData.eqv]⟩
    | str z => exact ⟨_, rfl, h, by simp [PyData.depth], by simp [PyData.eqv]⟩
    | tup xs =>
      obtain ⟨ps, e1, e2, e3, e4⟩ := pysOk_of (ds := xs) fun d hd => ih ((plain_tup.mp h).2 d hd)
      refine ⟨.tuple ps, by simp [D.py, e1], by simp [PyData.canLay0, e2], ?_, by simp [PyData.eqv, e4]⟩
      simp only [PyData.depth]
      omega
    | _ => simp [plain] at h
theorem plain_fine {n : Nat} : ∀ {d : D}, plain n d = true → fine d = true := by
  induction n with
  | zero => intro d h; simp [plain] at h
  | succ n ih =>
    intro d h
    cases d with
    | tup xs =>
      rw [plain_tup] at h
      rw [fine_tup]
      exact ⟨h.1, fun d hd => ih (h.2 d hd)⟩
    | str z => exact h
    | lst z => simp [plain] at h
    | obj z => simp [plain] at h
    | hnd => simp [plain] at h
    | _ => rfl
def eqP (a b : D) : Bool := match a.py, b.py with
  | some p, some q => PyData.eqv p q
  | _, _ => false
theorem shaped_of {p : PyData} {n : Nat} (h : p.canLay0 = true) (hd : p.depth ≤ n) (hn : n ≤ 64) : SeqAt.shaped p = true := by
  unfold SeqAt.shaped
  rw [h, decide_eq_true (by omega)]; rfl
theorem eqB_plain {n m : Nat} {a b : D} (ha : plain n a = true) (hb : plain m b = true) (hn : n ≤ 64) (hm : m ≤ 64) : eqB a b = some (eqP a b) := by
  obtain ⟨p, h1, h2, h3, h4⟩ := plain_py ha
  obtain ⟨q, e1, e2, e3, e4⟩ := plain_py hb
  simp only [eqB, eqP, h1, e1]
  exact if_pos ⟨shaped_of h2 h3 hn, shaped_of e2 e3 hm⟩
theorem eqD_plain {n m : Nat} {a b : D} (ha : plain n a = true) (hb : plain m b = true) (hn : n ≤ 64) (hm : m ≤ 64) : eqD a b = some (.bl (eqP a b)) := by
  unfold eqD; rw [eqB_plain ha hb hn hm]; rfl
theorem eqP_refl {n : Nat} {a : D} (ha : plain n a = true) : eqP a a = true := by
  obtain ⟨p, h1, h2, h3, h4⟩ := plain_py ha
  simp [eqP, h1, h4]
theorem eqP_pair {n m : Nat} {a b c d : D} (ha : plain n a = true) (hb : plain n b = true) (hc : plain m c = true) (hd : plain m d = true) : eqP (.tup [a, b]) (.tup [c, d]) = (eqP a c && eqP b d) := by
  obtain ⟨p, h1, _⟩ := plain_py ha
  obtain ⟨q, h2, _⟩ := plain_py hb
  obtain ⟨r, h3, _⟩ := plain_py hc
  obtain ⟨s, h4, _⟩ := plain_py hd
  simp [eqP, D.py, D.pys, h1, h2, h3, h4, PyData.eqv, PyData.eqvAll]
end Kk01
set_option Elab.async false
set_option linter.all false
set_option maxRecDepth 100000
set_option maxHeartbeats 2000000
namespace Kk01
open PySem L2 FD
theorem zip_self (xs : List D) : ((xs.zip xs).map fun p => D.tup [p.1, p.2]) = xs.map fun x => D.tup [x, x] := by
  induction xs with
  | nil => rfl
  | cons x xs ih => simp [ih]
abbrev sameBody (F : List D → Gh → M D) : FS := (sIf (cNot (cT (cFn 2 F (cC (cV 2) (cC (cV 3) cN))))) (sRet (cD (.bl false))) sNx)
theorem same_loop {F : List D → Gh → M D} {g : Gh} {d : En} : ∀ (xs : List D) (a b : En), (∀ x ∈ xs, F [x, x] g = some (.ok (.bl true) g)) → ∃ a' b', loopD (gT 2 (gsC (gN 2) (gsC (gN 3) gsN))) (sameBody F) (xs.map fun x => D.tup [x, x]) [d, d, a, b] g = some (.ok (.nx [d, d, a', b']) g)
  | [], a, b, _ => ⟨a, b, rfl⟩
  | x :: xs, a, b, h => by
    obtain ⟨a', b', e⟩ := same_loop (g := g) (d := d) xs (.dt x) (.dt x) fun y hy => h y (by simp [hy])
    refine ⟨a', b', ?_⟩
    have hx := h x (by simp)
    rw [← e]
    simp [loopD, hx]
theorem same_refl {n : Nat} : ∀ {d : D}, plain n d = true → ∀ g, f_law_same_at n [d, d] g = some (.ok (.bl true) g) := by
  induction n with
  | zero => intro d h; simp [plain] at h
  | succ n ih =>
    intro d h g
    cases d with
    | non => simp [f_law_same_at, b_law_same, fnOf, sSeq, isNonB]
    | bl b => cases b <;> simp [f_law_same_at, b_law_same, fnOf, sSeq, isNonB, isBlB]
    | int i =>
      have hi := law_is_integer_eq (d := .int i) rfl g
      simp [f_law_same_at, b_law_same, fnOf, sSeq, isNonB, isBlB, isTyD, isTyB, hi, isInt]
    | str z =>
      have hz : okStr z = true := h
      have he := eqD_str hz hz
      simp [f_law_same_at, b_law_same, fnOf, sSeq, isNonB, isBlB, isTyD, isTyB, he]
    | tup xs =>
      obtain ⟨hl, hm⟩ := plain_tup.mp h
      obtain ⟨a', b', e⟩ := same_loop (F := f_law_same_at n) (g := g) (d := .dt (.tup xs)) xs .un .un fun x hx => ih (hm x hx) g
      have hz : iZ (cC (cV 0) (cC (cV 1) cN)) [.dt (.tup xs), .dt (.tup xs), .un, .un] g = some (.ok (xs.map fun x => D.tup [x, x]) g) := by
        rw [← zip_self]; rfl
      have hf : sFor (iZ (cC (cV 0) (cC (cV 1) cN))) (gT 2 (gsC (gN 2) (gsC (gN 3) gsN))) (sameBody (f_law_same_at n)) [.dt (.tup xs), .dt (.tup xs), .un, .un] g = some (.ok (.nx [.dt (.tup xs), .dt (.tup xs), a', b']) g) := by
        unfold sFor
        rw [hz]
        exact e
      have key : b_law_same (f_law_same_at n) [.dt (.tup xs), .dt (.tup xs), .un, .un] g = some (.ok (.rt (.bl true)) g) := by
        unfold b_law_same
        refine (sSeq_nx (ρ1 := [.dt (.tup xs), .dt (.tup xs), .un, .un]) (g1 := g) (by simp [isNonB])).trans ?_
        refine (sSeq_nx (ρ1 := [.dt (.tup xs), .dt (.tup xs), .un, .un]) (g1 := g) (by simp [isBlB])).trans ?_
        refine (sSeq_nx (ρ1 := [.dt (.tup xs), .dt (.tup xs), .un, .un]) (g1 := g) (by simp [isBlB])).trans ?_
        refine (sSeq_nx (ρ1 := [.dt (.tup xs), .dt (.tup xs), .un, .un]) (g1 := g) (by simp [isTyD, isTyB])).trans ?_
        refine (sSeq_nx (ρ1 := [.dt (.tup xs), .dt (.tup xs), .un, .un]) (g1 := g) (by simp [isTyD, isTyB])).trans ?_
        refine (sSeq_nx (ρ1 := [.dt (.tup xs), .dt (.tup xs), .un, .un]) (g1 := g) (by simp [isTyD, isTyB])).trans ?_
        refine (sSeq_nx (ρ1 := [.dt (.tup xs), .dt (.tup xs), .un, .un]) (g1 := g) (by simp)).trans ?_
        exact (sSeq_nx hf).trans (by simp)
      show noX (fnOf 4 (b_law_same (f_law_same_at n)) [.tup xs, .tup xs] g) = _
      unfold fnOf
      rw [show ([D.tup xs, .tup xs].map En.dt ++ List.replicate (4 - [D.tup xs, .tup xs].length) En.un) = [.dt (.tup xs), .dt (.tup xs), .un, .un] from rfl, key]
      rfl
    | _ => simp [plain] at h
theorem plain_le {n : Nat} {d : D} : ∀ (k : Nat), plain n d = true → plain (n + k) d = true
  | 0, h => h
  | k + 1, h => plain_mono (plain_le k h)
theorem law_same_refl {n : Nat} {d : D} (hn : n ≤ 45) (h : plain n d = true) (g : Gh) : f_law_same [d, d] g = some (.ok (.bl true) g) := by
  have e : f_law_same = f_law_same_at 45 := rfl
  rw [e]
  exact same_refl (n := 45) (by have := plain_le (45 - n) h; rwa [show n + (45 - n) = 45 by omega] at this) g
/-! what is right is plain -/
theorem inR_plain {a b : Int} {d : D} (h : inR a b d = true) (n : Nat) : plain (n + 1) d = true := by
  obtain ⟨i, rfl, _⟩ := inR_int h; rfl
theorem isW_str {ws : List Str} {d : D} (h : isW ws d = true) (hf : fine d = true) (n : Nat) : plain (n + 1) d = true := by
  cases d <;> simp [isW] at h
  exact hf
theorem deed_plain {d : D} (h : deedB d = true) (hf : fine d = true) : plain 2 d = true := by
  cases d with
  | tup xs =>
    obtain ⟨hl, hm⟩ := fine_tup.mp hf
    match xs, h, hl, hm with
    | [], h, _, _ => simp [deedB] at h
    | [x], h, _, hm =>
      rw [plain_tup]
      refine ⟨by simp, fun d hd => ?_⟩
      have : d = x := by simpa using hd
      subst this
      exact isW_str h (hm d (by simp)) 0
    | [x, y], h, _, hm =>
      simp only [deedB, Bool.and_eq_true] at h
      rw [plain_tup]
      refine ⟨by simp, fun d hd => ?_⟩
      have : d = x ∨ d = y := by simpa using hd
      rcases this with rfl | rfl
      · exact isW_str h.1 (hm d (by simp)) 0
      · exact inR_plain h.2 0
    | _ :: _ :: _ :: _, h, _, _ => simp [deedB] at h
  | _ => simp [deedB] at h
theorem all_plain {p : D → Bool} {n : Nat} {xs : List D} (hl : xs.length ≤ 500) (hp : ∀ d ∈ xs, p d = true → plain n d = true) (h : xs.all p = true) : plain (n + 1) (.tup xs) = true := by
  rw [plain_tup]
  exact ⟨hl, fun d hd => hp d hd (List.all_eq_true.mp h d hd)⟩
theorem script_plain {d : D} (h : scriptB d = true) (hf : fine d = true) : plain 3 d = true := by
  cases d with
  | tup xs =>
    obtain ⟨hl, hm⟩ := fine_tup.mp hf
    simp only [scriptB, Bool.and_eq_true] at h
    exact all_plain hl (fun d hd hq => deed_plain hq (hm d hd)) h.2
  | _ => simp [scriptB] at h
theorem lot_plain {d : D} (h : lotB d = true) (hf : fine d = true) : plain 3 d = true := by
  cases d with
  | tup xs =>
    obtain ⟨hl, hm⟩ := fine_tup.mp hf
    simp only [lotB, Bool.and_eq_true] at h
    exact all_plain hl (fun d hd hq => inR_plain hq 1) h.1
  | _ => simp [lotB] at h
theorem inputs_plain {k : Str} {d : D} (h : inputsB k d = true) (hf : fine d = true) : plain 4 d = true := by
  cases d with
  | tup xs =>
    obtain ⟨hl, hm⟩ := fine_tup.mp hf
    rw [inputsB_tup] at h
    by_cases hn : k = "near"
    · rw [if_pos hn] at h
      match xs, h, hl, hm with
      | [], h, _, _ => simp [nearB] at h
      | [x], h, _, hm => simp [nearB] at h
      | [r, .tup ys], h, _, hm =>
        simp only [nearB, Bool.and_eq_true] at h
        obtain ⟨hl2, _⟩ := fine_tup.mp (hm (.tup ys) (by simp))
        rw [plain_tup]
        refine ⟨by simp, fun d hd => ?_⟩
        have : d = r ∨ d = .tup ys := by simpa using hd
        rcases this with rfl | rfl
        · exact inR_plain h.1 2
        · exact all_plain hl2 (fun d hd hq => inR_plain hq 1) h.2.2
      | [r, .non], h, _, _ => simp [nearB] at h
      | [r, .bl _], h, _, _ => simp [nearB] at h
      | [r, .int _], h, _, _ => simp [nearB] at h
      | [r, .str _], h, _, _ => simp [nearB] at h
      | [r, .lst _], h, _, _ => simp [nearB] at h
      | [r, .emp], h, _, _ => simp [nearB] at h
      | [r, .obj _ _ _], h, _, _ => simp [nearB] at h
      | [r, .hnd], h, _, _ => simp [nearB] at h
      | _ :: _ :: _ :: _, h, _, _ => simp [nearB] at h
    · rw [if_neg hn] at h
      simp only [Bool.and_eq_true] at h
      obtain ⟨_, h⟩ := h
      by_cases hm1 : MAN.contains k = true
      · rw [if_pos hm1] at h
        exact all_plain hl (fun d hd hq => script_plain hq (hm d hd)) h
      · rw [if_neg hm1] at h
        by_cases hc : k = "chain"
        · rw [if_pos hc] at h
          exact all_plain hl (fun d hd hq => lot_plain hq (hm d hd)) h
        · rw [if_neg hc] at h
          simp only [Bool.and_eq_true] at h
          exact all_plain hl (fun d hd hq => inR_plain hq 2) h.1
  | _ => simp [inputsB] at h
/-! Play -/
/-- the part that has not its form -/
def goodB : D → D → Bool
  | .str z, d => inputsB z d
  | _, _ => false
def thePlay (k d : D) : D := .obj "Play" ["kind", "inputs"] [k, d]
theorem Play_eq {k d : D} (hk : fine k = true) (hd : fine d = true) (g : Gh) : f_Play [k, d] g = if isW KIN k = true then (if goodB k d = true then some (.ok (thePlay k d) g) else some (.ex "BadPlay" ["part"] [.str "inputs"] g)) else some (.ex "BadPlay" ["part"] [.str "kind"] g) := by
  have hw := is_word_of_eq KIN hk g
  rw [← kKIN] at hw
  by_cases w : isW KIN k = true
  · rw [if_pos w]
    rw [w] at hw
    obtain ⟨z, rfl, hz⟩ := isW_kin k w
    have hi := is_inputs_eq hz hd g
    by_cases hb : goodB (.str z) d = true
    · have hb' : inputsB z d = true := hb
      rw [hb'] at hi
      rw [if_pos hb]
      simp [f_Play, mkF2, hw, hi, thePlay]
    · have hb' : inputsB z d = false := by
        have : ¬ inputsB z d = true := hb
        simpa using this
      rw [hb'] at hi
      rw [if_neg hb]
      simp [f_Play, mkF2, hw, hi, exOf]
  · rw [if_neg w]
    have w' : isW KIN k = false := by simpa using w
    rw [w'] at hw
    simp [f_Play, mkF2, hw, exOf]
end Kk01
set_option Elab.async false
set_option linter.all false
set_option maxRecDepth 100000
set_option maxHeartbeats 2000000
namespace Kk01
open PySem L2 FD
theorem Sat.loop {gs : FG} {fb : FS} {I : List En → Prop} (h : ∀ d ρ g, I ρ → HOK g → ∃ ρ1, gs d ρ = some ρ1 ∧ Sat (fb ρ1 g) (fun f g' => (∃ ρ2, f = .nx ρ2 ∧ I ρ2) ∧ HOK g')) : ∀ (ds : List D) (ρ : List En) (g : Gh), I ρ → HOK g → Sat (loopD gs fb ds ρ g) (fun f g' => (∃ ρ2, f = .nx ρ2 ∧ I ρ2) ∧ HOK g')
  | [], ρ, g, i, hg => .ok ⟨⟨ρ, rfl, i⟩, hg⟩
  | d :: ds, ρ, g, i, hg => by
    obtain ⟨ρ1, h1, f, g2, e, ⟨ρ2, rfl, i2⟩, hg2⟩ := h d ρ g i hg
    obtain ⟨f3, g3, e3, p3⟩ := Sat.loop h ds ρ2 g2 i2 hg2
    refine ⟨f3, g3, ?_, p3⟩
    unfold loopD
    rw [h1]
    simp only [e]
    exact e3
@[simp] theorem fld_kind (k d : D) : fldD "kind" (thePlay k d) = some k := rfl
@[simp] theorem fld_inputs (k d : D) : fldD "inputs" (thePlay k d) = some d := rfl
@[simp] theorem isPlay_thePlay (k d : D) : isPlay (thePlay k d) = true := rfl
@[simp] theorem tyEq_pp (k d k' d' : D) : tyEqD (thePlay k d) (thePlay k' d') = some (.bl true) := rfl
@[simp] theorem tyEq_pt (k d : D) (xs : List D) : tyEqD (thePlay k d) (.tup xs) = some (.bl false) := rfl
/-- what is told of a pair -/
def dueD (k d : D) : D := if isW KIN k = true then (if goodB k d = true then .tup [.str "told", k, d] else .tup [.str "BadPlay", .str "inputs"]) else .tup [.str "BadPlay", .str "kind"]
theorem law_made_eq {k d : D} (hk : fine k = true) (hd : fine d = true) (g : Gh) : f_law_made [k, d] g = some (.ok (dueD k d) g) := by
  have hp := Play_eq hk hd g
  by_cases w : isW KIN k = true
  · rw [if_pos w] at hp
    by_cases hb : goodB k d = true
    · rw [if_pos hb] at hp
      simp [f_law_made, b_law_made, fnOf, sSeq, hp, dueD, w, hb]
    · rw [if_neg hb] at hp
      simp [f_law_made, b_law_made, fnOf, sSeq, hp, dueD, w, hb]
  · rw [if_neg w] at hp
    simp [f_law_made, b_law_made, fnOf, sSeq, hp, dueD, w]
/-- a right pair -/
structure GP (k d : D) : Prop where
  kin : ∃ z, k = .str z ∧ z ∈ KIN ∧ inputsB z d = true
  fk : fine k = true
  fd : fine d = true
theorem GP.w {k d : D} (h : GP k d) : isW KIN k = true := by
  obtain ⟨z, rfl, hz, _⟩ := h.kin
  exact List.contains_iff_mem.mpr hz
theorem GP.g {k d : D} (h : GP k d) : goodB k d = true := by
  obtain ⟨z, rfl, hz, hi⟩ := h.kin
  exact hi
theorem GP.pk {k d : D} (h : GP k d) : plain 1 k = true := by
  obtain ⟨z, rfl, hz, hi⟩ := h.kin
  exact h.fk
theorem GP.pd {k d : D} (h : GP k d) : plain 4 d = true := by
  obtain ⟨z, rfl, hz, hi⟩ := h.kin
  exact inputs_plain hi h.fd
theorem GP.of {k d : D} (hk : fine k = true) (hd : fine d = true) (w : isW KIN k = true) (g : goodB k d = true) : GP k d := by
  obtain ⟨z, rfl, hz⟩ := isW_kin k w
  exact ⟨⟨z, rfl, hz, g⟩, hk, hd⟩
theorem GP.play {k d : D} (h : GP k d) (g : Gh) : f_Play [k, d] g = some (.ok (thePlay k d) g) := by
  rw [Play_eq h.fk h.fd, if_pos h.w, if_pos h.g]
theorem play_eq {k d k' d' : D} (h : GP k d) (h' : GP k' d') (g : Gh) : f_Play___eq__ [thePlay k d, thePlay k' d'] g = some (.ok (.bl (eqP k k' && eqP d d')) g) := by
  have e1 := eqD_plain h.pk h'.pk (by decide) (by decide)
  have e2 := eqD_plain h.pd h'.pd (by decide) (by decide)
  cases hb : eqP k k' <;> rw [hb] at e1 <;> simp [f_Play___eq__, b_Play___eq__, fnOf, e1, e2]
theorem play_ne_tup {k d : D} (xs : List D) (h : GP k d) (g : Gh) : f_Play___eq__ [thePlay k d, .tup xs] g = some (.ok (.bl false) g) := by
  simp [f_Play___eq__, b_Play___eq__, fnOf]
theorem many_eq {k d : D} (h : GP k d) (g : Gh) : ∃ i : Int, f_many_hands [thePlay k d] g = some (.ok (.int i) g) ∧ f_law_many [k, d] g = some (.ok (.int i) g) := by
  obtain ⟨z, rfl, hz, hi⟩ := h.kin
  have q1 := okW hz "near" (okS (by decide +kernel))
  cases d with
  | tup xs =>
    by_cases hn : z = "near"
    · have q1' : eqD (.str z) (.str "near") = some (.bl true) := by rw [q1]; simp [hn]
      rw [inputsB_tup, if_pos hn] at hi
      match xs, hi with
      | [r, .tup ys], _ => exact ⟨ys.length, by simp [f_many_hands, b_many_hands, fnOf, sSeq, q1', ixD_tup], by simp [f_law_many, b_law_many, fnOf, sSeq, q1', ixD_tup]⟩
      | [], hi => simp [nearB] at hi
      | [_], hi => simp [nearB] at hi
      | [r, .non], hi => simp [nearB] at hi
      | [r, .bl _], hi => simp [nearB] at hi
      | [r, .int _], hi => simp [nearB] at hi
      | [r, .str _], hi => simp [nearB] at hi
      | [r, .lst _], hi => simp [nearB] at hi
      | [r, .emp], hi => simp [nearB] at hi
      | [r, .obj _ _ _], hi => simp [nearB] at hi
      | [r, .hnd], hi => simp [nearB] at hi
      | _ :: _ :: _ :: _, hi => simp [nearB] at hi
    · have q1' : eqD (.str z) (.str "near") = some (.bl false) := by rw [q1]; simp [hn]
      exact ⟨xs.length, by simp [f_many_hands, b_many_hands, fnOf, sSeq, q1'], by simp [f_law_many, b_law_many, fnOf, sSeq, q1']⟩
  | _ => simp [inputsB] at hi
theorem pair_plain {k d : D} (h : GP k d) : plain 5 (.tup [k, d]) = true := by
  rw [plain_tup]
  refine ⟨by simp, fun x hx => ?_⟩
  have : x = k ∨ x = d := by simpa using hx
  rcases this with rfl | rfl
  · exact plain_le 3 h.pk
  · exact h.pd
theorem due_plain {k d : D} (hk : fine k = true) (hd : fine d = true) : plain 5 (dueD k d) = true := by
  have s1 : okStr "told" = true := okS (by decide +kernel)
  have s2 : okStr "BadPlay" = true := okS (by decide +kernel)
  have s3 : okStr "inputs" = true := okS (by decide +kernel)
  have s4 : okStr "kind" = true := okS (by decide +kernel)
  unfold dueD
  by_cases w : isW KIN k = true
  · rw [if_pos w]
    by_cases hb : goodB k d = true
    · rw [if_pos hb]
      have h := GP.of hk hd w hb
      rw [plain_tup]
      refine ⟨by simp, fun x hx => ?_⟩
      have : x = .str "told" ∨ x = k ∨ x = d := by simpa using hx
      rcases this with rfl | rfl | rfl
      · exact s1
      · exact plain_le 3 h.pk
      · exact h.pd
    · rw [if_neg hb]
      simp [plain, s2, s3]
  · rw [if_neg w]
    simp [plain, s2, s4]
theorem law_bad_eq2 {k d : D} (hk : fine k = true) (hd : fine d = true) (g : Gh) : f_law_bad [k, d] g = some (.ok (if isW KIN k = true then (if goodB k d = true then .non else .str "inputs") else .str "kind") g) := by
  rw [law_bad_eq hk hd]
  cases k <;> rfl
end Kk01
set_option Elab.async false
set_option linter.all false
set_option maxRecDepth 100000
set_option maxHeartbeats 4000000
namespace Kk01
open PySem L2 FD
def SomeOk : Prop := ∀ g, HOK g → Sat (f_law_some_play [.hnd] g) (fun d g' => (∃ k x, d = .tup [k, x] ∧ GP k x) ∧ HOK g')
def SpoiltOk : Prop := ∀ k x g, GP k x → HOK g → Sat (f_law_spoilt [.hnd, k, x] g) (fun d g' => (∃ k' x', d = .tup [k', x'] ∧ fine k' = true ∧ fine x' = true) ∧ HOK g')
abbrev lawEnv (k d : D) (x a b c : En) : List En := [.un, .dt .hnd, .dt (thePlay k d), x, .dt k, .dt d, a, b, c]
noncomputable abbrev bodyTail : FS := (sSeq (sAsg (cFn 2 f_law_bad (cC (cOp ixD (cV 6) (cD (.int 0))) (cC (cOp ixD (cV 6) (cD (.int 1))) cN))) (gN 7)) (sSeq (sAsg (cTup (cC (cD (.str "BadPlay")) (cC (cV 7) cN))) (gN 8)) (sSeq (sIf (cT (cOp isND (cV 7) (cD .non))) (sAsg (cTup (cC (cD (.str "told")) (cC (cOp ixD (cV 6) (cD (.int 0))) (cC (cOp ixD (cV 6) (cD (.int 1))) cN)))) (gN 8)) sNx) (sSeq (sIf (cNot (cT (cFn 2 f_law_same (cC (cFn 2 f_law_made (cC (cOp ixD (cV 6) (cD (.int 0))) (cC (cOp ixD (cV 6) (cD (.int 1))) cN))) (cC (cV 8) cN))))) (sRet (cD (.bl false))) sNx) (sIf (cAnd (cT (cOp isND (cV 7) (cD .non))) (cT (cOp neD (cEqP f_Play___eq__ (cFn 2 f_Play (cC (cOp ixD (cV 6) (cD (.int 0))) (cC (cOp ixD (cV 6) (cD (.int 1))) cN))) (cV 2)) (cOp eqD (cV 6) (cTup (cC (cV 4) (cC (cV 5) cN))))))) (sRet (cD (.bl false))) sNx)))))
theorem tail_ok {k d k' d' : D} (h : GP k d) (hk : fine k' = true) (hd : fine d' = true) (x b c : En) (g : Gh) : ∃ b' c', bodyTail (lawEnv k d x (.dt (.tup [k', d'])) b c) g = some (.ok (.nx (lawEnv k d x (.dt (.tup [k', d'])) b' c')) g) := by
  have hb := law_bad_eq2 hk hd g
  have hm := law_made_eq hk hd g
  have hs := law_same_refl (by decide) (due_plain hk hd) g
  by_cases w : isW KIN k' = true
  · rw [if_pos w] at hb
    by_cases hg : goodB k' d' = true
    · rw [if_pos hg] at hb
      have e : dueD k' d' = .tup [.str "told", k', d'] := by unfold dueD; rw [if_pos w, if_pos hg]
      rw [e] at hm hs
      have h' := GP.of hk hd w hg
      have hp := h'.play g
      have he := play_eq h' h g
      have h2 := eqD_plain (pair_plain h') (pair_plain h) (by decide) (by decide)
      rw [eqP_pair (plain_le 3 h'.pk) h'.pd (plain_le 3 h.pk) h.pd] at h2
      exact ⟨_, _, by simp [sSeq, ixD_tup, hb, hm, hs, isNonB, hp, he, h2]; exact ⟨rfl, rfl⟩⟩
    · rw [if_neg hg] at hb
      have e : dueD k' d' = .tup [.str "BadPlay", .str "inputs"] := by unfold dueD; rw [if_pos w, if_neg hg]
      rw [e] at hm hs
      exact ⟨_, _, by simp [sSeq, ixD_tup, hb, hm, hs, isNonB]; exact ⟨rfl, rfl⟩⟩
  · rw [if_neg w] at hb
    have e : dueD k' d' = .tup [.str "BadPlay", .str "kind"] := by unfold dueD; rw [if_neg w]
    rw [e] at hm hs
    exact ⟨_, _, by simp [sSeq, ixD_tup, hb, hm, hs, isNonB]; exact ⟨rfl, rfl⟩⟩
theorem main_of (h1 : SomeOk) (h2 : SpoiltOk) (ns : List Int) : ∃ g, b_law (.un :: .dt .hnd :: List.replicate 7 .un) ⟨ns, 0, 0, 1, 0⟩ = some (.ok (.rt (.bl true)) g) := by
  have hg0 : HOK ⟨ns, 0, 0, 1, 0⟩ := ⟨by simp, by simp, by simp⟩
  obtain ⟨_, g, e1, ⟨k, d, rfl, h⟩, hg⟩ := h1 _ hg0
  have hp := h.play g
  obtain ⟨i, m1, m2⟩ := many_eq h g
  have ms : f_law_same [.int i, .int i] g = some (.ok (.bl true) g) := law_same_refl (n := 1) (by decide) rfl g
  have pe := play_eq h h g
  rw [eqP_refl h.pk, eqP_refl h.pd] at pe
  have pt := play_ne_tup [k, d] h g
  have s1 : (sAsg (cFn 1 f_law_some_play (cC (cV 1) cN)) (gT 2 (gsC (gN 4) (gsC (gN 5) gsN)))) (.un :: .dt .hnd :: List.replicate 7 .un) ⟨ns, 0, 0, 1, 0⟩ = some (.ok (.nx [.un, .dt .hnd, .un, .un, .dt k, .dt d, .un, .un, .un]) g) := by
    simp [e1, List.replicate]
  have s2 : (sAsg (cFn 2 f_Play (cC (cV 4) (cC (cV 5) cN))) (gN 2)) [.un, .dt .hnd, .un, .un, .dt k, .dt d, .un, .un, .un] g = some (.ok (.nx (lawEnv k d .un .un .un .un)) g) := by
    simp [hp]
  have s3 : (sIf (cOr (cNot (cT (cFn 2 f_law_same (cC (cFn 1 f_many_hands (cC (cV 2) cN)) (cC (cFn 2 f_law_many (cC (cV 4) (cC (cV 5) cN))) cN))))) (cOr (cNot (cT (cEqP f_Play___eq__ (cV 2) (cFn 2 f_Play (cC (cV 4) (cC (cV 5) cN)))))) (cT (cEqP f_Play___eq__ (cV 2) (cTup (cC (cV 4) (cC (cV 5) cN))))))) (sRet (cD (.bl false))) sNx) (lawEnv k d .un .un .un .un) g = some (.ok (.nx (lawEnv k d .un .un .un .un)) g) := by
    simp [m1, m2, ms, hp, pe, pt, isTyB]
  obtain ⟨_, g2, e4, ⟨_, rfl, x, a, b, c, rfl⟩, hg2⟩ := Sat.loop (gs := gN 3) (fb := sSeq (sAsg (cFn 3 f_law_spoilt (cC (cV 1) (cC (cV 4) (cC (cV 5) cN)))) (gN 6)) bodyTail) (I := fun ρ => ∃ x a b c, ρ = lawEnv k d x a b c) (fun y ρ g ⟨x, a, b, c, z⟩ hg => by
    subst z
    refine ⟨_, rfl, ?_⟩
    obtain ⟨_, g2, e, ⟨k', d', rfl, fk, fd⟩, hg2⟩ := h2 k d g h hg
    obtain ⟨b', c', et⟩ := tail_ok h fk fd (.dt y) b c g2
    refine ⟨_, g2, (sSeq_nx (ρ1 := lawEnv k d (.dt y) (.dt (.tup [k', d'])) b c) (g1 := g2) (by simp [e])).trans et, ⟨_, rfl, _, _, _, _, rfl⟩, hg2⟩) (rngD 0 6) (lawEnv k d .un .un .un .un) g ⟨_, _, _, _, rfl⟩ hg
  have s4 : (sFor (iR1 (cC (cD (.int 6)) cN)) (gN 3) (sSeq (sAsg (cFn 3 f_law_spoilt (cC (cV 1) (cC (cV 4) (cC (cV 5) cN)))) (gN 6)) bodyTail)) (lawEnv k d .un .un .un .un) g = some (.ok (.nx (lawEnv k d x a b c)) g2) := by
    have r6 : rng1 [.int 6] = some (rngD 0 6) := rng1_nat (n := 6) (by decide)
    simp only [sFor, iR1, cC, cD, cN, M.bd, lift, r6]
    exact e4
  have hs := law_same_refl (by decide) (pair_plain h) g2
  refine ⟨g2, ?_⟩
  unfold b_law
  refine (sSeq_nx s1).trans ((sSeq_nx s2).trans ((sSeq_nx s3).trans ((sSeq_nx s4).trans ?_)))
  simp [hs]
end Kk01
set_option Elab.async false
set_option linter.all false
set_option maxRecDepth 100000
set_option maxHeartbeats 4000000
namespace Kk01
open PySem L2 FD
/-! ### what draws give -/
def TM {α : Type} (m : Gh → M α) (P : α → Prop) : Prop := ∀ g, HOK g → Sat (m g) (fun d g' => P d ∧ HOK g')
theorem TM.imp {α : Type} {m : Gh → M α} {P Q : α → Prop} (h : TM m P) (k : ∀ a, P a → Q a) : TM m Q := fun g hg => (h g hg).imp fun a _ p => ⟨k a p.1, p.2⟩
theorem TM.bd {α β : Type} {m : Gh → M α} {k : α → Gh → M β} {P : α → Prop} {Q : β → Prop} (h : TM m P) (hk : ∀ a, P a → TM (k a) Q) : TM (fun g => (m g).bd k) Q := fun g hg => Sat.bd (h g hg) fun a g1 p => hk a p.1 g1 p.2
theorem TM.pure {α : Type} {a : α} {P : α → Prop} (h : P a) : TM (fun g => some (.ok a g)) P := fun g hg => .ok ⟨h, hg⟩
theorem TM.of {α : Type} {m : Gh → M α} {a : α} {P : α → Prop} (h : P a) (e : ∀ g, m g = some (.ok a g)) : TM m P := fun g hg => ⟨a, g, e g, h, hg⟩
theorem te_d {ρ : List En} {d : D} {P : D → Prop} (h : P d) : TM (cD d ρ) P := TM.pure h
theorem te_v {ρ : List En} {i : Nat} {d : D} {P : D → Prop} (e : ρ[i]? = some (.dt d)) (h : P d) : TM (cV i ρ) P := by
  refine TM.of h fun g => ?_
  simp only [cV, e]
theorem ta_n {ρ : List En} {P : List D → Prop} (h : P []) : TM (cN ρ) P := TM.pure h
theorem ta_c {ρ : List En} {a : FE} {b : FA} {P : D → Prop} {R : List D → Prop} {Q : List D → Prop} (ha : TM (a ρ) P) (hb : TM (b ρ) R) (h : ∀ x xs, P x → R xs → Q (x :: xs)) : TM (cC a b ρ) Q := by
  show TM (fun g => (a ρ g).bd _) Q
  refine TM.bd ha fun x hx => ?_
  refine TM.bd hb fun xs hxs => ?_
  exact TM.pure (h x xs hx hxs)
/-- exactly these, one by one -/
def Each (Ps : List (D → Prop)) (xs : List D) : Prop := xs.length = Ps.length ∧ ∀ p ∈ Ps.zip xs, p.1 p.2
theorem each_n {ρ : List En} : TM (cN ρ) (fun xs => xs = []) := ta_n rfl
theorem te_tup {ρ : List En} {a : FA} {R : List D → Prop} {P : D → Prop} (ha : TM (a ρ) R) (h : ∀ xs, R xs → xs.length ≤ 1000 ∧ P (.tup xs)) : TM (cTup a ρ) P := by
  show TM (fun g => (a ρ g).bd _) P
  refine TM.bd ha fun xs hx => ?_
  refine TM.of (h xs hx).2 fun g => ?_
  exact if_pos (h xs hx).1
theorem te_lst {ρ : List En} {a : FA} {R : List D → Prop} {P : D → Prop} (ha : TM (a ρ) R) (h : ∀ xs, R xs → xs.length ≤ 1000 ∧ P (.lst xs)) : TM (cLst a ρ) P := by
  show TM (fun g => (a ρ g).bd _) P
  refine TM.bd ha fun xs hx => ?_
  refine TM.of (h xs hx).2 fun g => ?_
  exact if_pos (h xs hx).1
theorem te_op {ρ : List En} {op : D → D → Option D} {a b : FE} {P R Q : D → Prop} (ha : TM (a ρ) P) (hb : TM (b ρ) R) (h : ∀ x y, P x → R y → ∃ z, op x y = some z ∧ Q z) : TM (cOp op a b ρ) Q := by
  show TM (fun g => (a ρ g).bd _) Q
  refine TM.bd ha fun x hx => TM.bd hb fun y hy => ?_
  obtain ⟨z, e, q⟩ := h x y hx hy
  refine TM.of q fun g => ?_
  rw [e]; rfl
theorem te_1 {ρ : List En} {op : D → Option D} {a : FE} {P Q : D → Prop} (ha : TM (a ρ) P) (h : ∀ x, P x → ∃ z, op x = some z ∧ Q z) : TM (c1 op a ρ) Q := by
  show TM (fun g => (a ρ g).bd _) Q
  refine TM.bd ha fun x hx => ?_
  obtain ⟨z, e, q⟩ := h x hx
  refine TM.of q fun g => ?_
  rw [e]; rfl
theorem te_call {ρ : List En} {op : List D → Option D} {a : FA} {R : List D → Prop} {Q : D → Prop} (ha : TM (a ρ) R) (h : ∀ x, R x → ∃ z, op x = some z ∧ Q z) : TM (cCall op a ρ) Q := by
  show TM (fun g => (a ρ g).bd _) Q
  refine TM.bd ha fun x hx => ?_
  obtain ⟨z, e, q⟩ := h x hx
  refine TM.of q fun g => ?_
  rw [e]; rfl
theorem te_fn {ρ : List En} {n : Nat} {Fn : List D → Gh → M D} {a : FA} {R : List D → Prop} {P : D → Prop} (ha : TM (a ρ) R) (h : ∀ xs, R xs → xs.length = n ∧ TM (Fn xs) P) : TM (cFn n Fn a ρ) P := by
  show TM (fun g => (a ρ g).bd _) P
  refine TM.bd ha fun xs hx => fun g hg => ?_
  obtain ⟨hl, hf⟩ := h xs hx
  obtain ⟨d, g', e, p⟩ := hf g hg
  refine ⟨d, g', ?_, p⟩
  show (if xs.length = n then noX (Fn xs g) else none) = _
  rw [if_pos hl, e]; rfl
theorem tt_t {ρ : List En} {a : FE} {P : D → Prop} {Q : Bool → Prop} (ha : TM (a ρ) P) (h : ∀ x, P x → ∃ b, toB x = some b ∧ Q b) : TM (cT a ρ) Q := by
  show TM (fun g => (a ρ g).bd _) Q
  refine TM.bd ha fun x hx => ?_
  obtain ⟨z, e, q⟩ := h x hx
  refine TM.of q fun g => ?_
  rw [e]; rfl
theorem tt_and {ρ : List En} {a b : FT} {P Q R : Bool → Prop} (ha : TM (a ρ) P) (hb : P true → TM (b ρ) R) (h1 : P false → Q false) (h2 : ∀ y, P true → R y → Q y) : TM (cAnd a b ρ) Q := by
  show TM (fun g => (a ρ g).bd _) Q
  refine TM.bd ha fun x hx => ?_
  cases x with
  | false => exact TM.of (h1 hx) fun g => rfl
  | true => exact (hb hx).imp fun y hy => h2 y hx hy
theorem ts_ret {ρ : List En} {a : FE} {P : D → Prop} {Q : Fl → Prop} (ha : TM (a ρ) P) (h : ∀ x, P x → Q (.rt x)) : TM (sRet a ρ) Q := by
  show TM (fun g => (a ρ g).bd _) Q
  exact TM.bd ha fun x hx => TM.pure (h x hx)
theorem ts_asg {ρ : List En} {a : FE} {gs : FG} {P : D → Prop} {Q : Fl → Prop} (ha : TM (a ρ) P) (h : ∀ x, P x → ∃ ρ1, gs x ρ = some ρ1 ∧ Q (.nx ρ1)) : TM (sAsg a gs ρ) Q := by
  show TM (fun g => (a ρ g).bd _) Q
  refine TM.bd ha fun x hx => ?_
  obtain ⟨ρ1, e, q⟩ := h x hx
  refine TM.of q fun g => ?_
  rw [e]
theorem ts_if {ρ : List En} {c : FT} {a b : FS} {P : Bool → Prop} {Q : Fl → Prop} (hc : TM (c ρ) P) (ha : P true → TM (a ρ) Q) (hb : P false → TM (b ρ) Q) : TM (sIf c a b ρ) Q := by
  show TM (fun g => (c ρ g).bd _) Q
  refine TM.bd hc fun x hx => ?_
  cases x with
  | true => exact ha hx
  | false => exact hb hx
/-- a step that goes on, then the rest -/
theorem ts_seq {ρ : List En} {a b : FS} {Q : Fl → Prop} {I : List En → Prop} (ha : TM (a ρ) (fun f => ∃ ρ1, f = .nx ρ1 ∧ I ρ1)) (hb : ∀ ρ1, I ρ1 → TM (b ρ1) Q) : TM (sSeq a b ρ) Q := fun g hg => by
  obtain ⟨_, g1, e, ⟨ρ1, rfl, i⟩, hg1⟩ := ha g hg
  obtain ⟨f, g2, e2, q⟩ := hb ρ1 i g1 hg1
  exact ⟨f, g2, (sSeq_nx e).trans e2, q⟩
/-- a step that goes on or returns -/
theorem ts_seq2 {ρ : List En} {a b : FS} {P : D → Prop} {I : List En → Prop} (ha : TM (a ρ) (fun f => (∃ ρ1, f = .nx ρ1 ∧ I ρ1) ∨ ∃ d, f = .rt d ∧ P d)) (hb : ∀ ρ1, I ρ1 → TM (b ρ1) (fun f => ∃ d, f = .rt d ∧ P d)) : TM (sSeq a b ρ) (fun f => ∃ d, f = .rt d ∧ P d) := fun g hg => by
  obtain ⟨f, g1, e, h, hg1⟩ := ha g hg
  rcases h with ⟨ρ1, rfl, i⟩ | ⟨d, rfl, p⟩
  · obtain ⟨f, g2, e2, q⟩ := hb ρ1 i g1 hg1
    exact ⟨f, g2, (sSeq_nx e).trans e2, q⟩
  · exact ⟨_, g1, sSeq_rt e, ⟨d, rfl, p⟩, hg1⟩
/-- if it is so, this is told; else the rest -/
theorem ts_ifret {ρ : List En} {c : FT} {a b : FS} {B : Bool → Prop} {P : D → Prop} (hc : TM (c ρ) B) (ha : B true → TM (a ρ) (fun f => ∃ d, f = .rt d ∧ P d)) (hb : B false → TM (b ρ) (fun f => ∃ d, f = .rt d ∧ P d)) : TM (sSeq (sIf c a sNx) b ρ) (fun f => ∃ d, f = .rt d ∧ P d) := by
  refine ts_seq2 (I := fun ρ1 => ρ1 = ρ ∧ B false) (ts_if hc (fun h => (ha h).imp fun f q => .inr q) (fun h => TM.pure (.inl ⟨ρ, rfl, rfl, h⟩))) ?_
  rintro ρ1 ⟨rfl, h⟩
  exact hb h
theorem tf_fn {N : Nat} {b : FS} {ds : List D} {P : D → Prop} (h : TM (b (ds.map .dt ++ List.replicate (N - ds.length) .un)) (fun f => ∃ d, f = .rt d ∧ P d)) : TM (fun g => noX (fnOf N b ds g)) P := fun g hg => by
  obtain ⟨_, g1, e, ⟨d, rfl, p⟩, hg1⟩ := h g hg
  refine ⟨d, g1, ?_, p, hg1⟩
  show noX (fnOf N b ds g) = _
  unfold fnOf
  rw [e]; rfl
theorem t_take {m : Int} (h0 : 0 < m) (h1 : m < 1073741824) : TM (f_law_take [.hnd, .int m]) (fun d => ∃ v, d = .int v ∧ 0 ≤ v ∧ v < m) := fun g hg => by
  refine (take_ok hg h0 h1).imp ?_
  rintro d g' ⟨v, e, a, b, c⟩
  exact ⟨⟨v, e, a, b⟩, c⟩

/-- these, one by one -/
def Fit : List (D → Prop) → List D → Prop
  | [], [] => True
  | p :: ps, x :: xs => p x ∧ Fit ps xs
  | _, _ => False
theorem fa_n {ρ : List En} : TM (cN ρ) (Fit []) := ta_n trivial
theorem fa_c {ρ : List En} {a : FE} {b : FA} {P : D → Prop} {Ps : List (D → Prop)} (ha : TM (a ρ) P) (hb : TM (b ρ) (Fit Ps)) : TM (cC a b ρ) (Fit (P :: Ps)) := ta_c ha hb fun x xs p q => ⟨p, q⟩
theorem fit1 {P : D → Prop} {xs : List D} (h : Fit [P] xs) : ∃ x, xs = [x] ∧ P x := by
  match xs, h with
  | [x], h => exact ⟨x, rfl, h.1⟩
theorem fit2 {P Q : D → Prop} {xs : List D} (h : Fit [P, Q] xs) : ∃ x y, xs = [x, y] ∧ P x ∧ Q y := by
  match xs, h with
  | [x, y], h => exact ⟨x, y, rfl, h.1, h.2.1⟩
theorem fit3 {P Q R : D → Prop} {xs : List D} (h : Fit [P, Q, R] xs) : ∃ x y z, xs = [x, y, z] ∧ P x ∧ Q y ∧ R z := by
  match xs, h with
  | [x, y, z], h => exact ⟨x, y, z, rfl, h.1, h.2.1, h.2.2.1⟩
/-- so many, each of this sort -/
def Menu (n : Nat) (P : D → Prop) (xs : List D) : Prop := xs.length = n ∧ ∀ x ∈ xs, P x
theorem me_n {ρ : List En} {P : D → Prop} : TM (cN ρ) (Menu 0 P) := ta_n ⟨rfl, fun x h => by simp at h⟩
theorem me_c {ρ : List En} {a : FE} {b : FA} {P : D → Prop} {n : Nat} (ha : TM (a ρ) P) (hb : TM (b ρ) (Menu n P)) : TM (cC a b ρ) (Menu (n + 1) P) := ta_c ha hb fun x xs p q => ⟨by simp [q.1], fun y hy => by
  rcases List.mem_cons.mp hy with rfl | h
  · exact p
  · exact q.2 y h⟩
/-- take(hand, m) as an expression, m given -/
theorem te_take {ρ : List En} {j : Nat} {e : FE} {m : Int} (he : TM (e ρ) (fun d => d = .int m)) (h0 : 0 < m) (h1 : m < 1073741824) (hj : ρ[j]? = some (.dt .hnd) := by rfl) : TM (cFn 2 f_law_take (cC (cV j) (cC e cN)) ρ) (fun d => ∃ v, d = .int v ∧ 0 ≤ v ∧ v < m) := by
  refine te_fn (fa_c (P := fun d => d = .hnd) (te_v hj rfl) (fa_c he fa_n)) fun xs h => ?_
  obtain ⟨x, y, rfl, rfl, rfl⟩ := fit2 h
  exact ⟨rfl, t_take h0 h1⟩
theorem te_takeK {ρ : List En} {j : Nat} {m : Int} (h0 : 0 < m := by decide) (h1 : m < 1073741824 := by decide) (hj : ρ[j]? = some (.dt .hnd) := by rfl) : TM (cFn 2 f_law_take (cC (cV j) (cC (cD (.int m)) cN)) ρ) (fun d => ∃ v, d = .int v ∧ 0 ≤ v ∧ v < m) := te_take (te_d rfl) h0 h1 hj
theorem t_pick {xs : List D} {n : Nat} {P : D → Prop} (h : Menu (n + 1) P xs) (hn : n ≤ 1000) : TM (f_law_pick [.hnd, .lst xs]) P := by
  refine tf_fn (N := 2) (ts_ret (P := P) (te_op (P := fun d => d = .lst xs) (te_v rfl rfl) (te_take (m := (n + 1 : Nat)) (te_call (fa_c (P := fun d => d = .lst xs) (te_v rfl rfl) fa_n) ?_) (by omega) (by omega)) ?_) fun x hx => ⟨x, rfl, hx⟩)
  · intro ys hy
    obtain ⟨y, rfl, rfl⟩ := fit1 hy
    exact ⟨_, rfl, by rw [h.1]⟩
  · rintro x y rfl ⟨v, rfl, h0, h1⟩
    have hv : v.toNat < xs.length := by rw [h.1]; omega
    refine ⟨xs[v.toNat], ?_, h.2 _ (List.getElem_mem hv)⟩
    rw [ixD_lst h0, List.getElem?_eq_getElem hv]
theorem te_pick {ρ : List En} {j n : Nat} {a : FA} {P : D → Prop} (ha : TM (a ρ) (Menu (n + 1) P)) (hn : n + 1 ≤ 1000 := by decide) (hj : ρ[j]? = some (.dt .hnd) := by rfl) : TM (cFn 2 f_law_pick (cC (cV j) (cC (cLst a) cN)) ρ) P := by
  refine te_fn (fa_c (P := fun d => d = .hnd) (te_v hj rfl) (fa_c (te_lst (P := fun d => ∃ xs, d = .lst xs ∧ Menu (n + 1) P xs) ha fun xs h => ⟨by rw [h.1]; exact hn, xs, rfl, h⟩) fa_n)) fun xs h => ?_
  obtain ⟨x, y, rfl, rfl, xs, rfl, hm⟩ := fit2 h
  exact ⟨rfl, t_pick hm (by omega)⟩
theorem te_pickV {ρ : List En} {j i n : Nat} {xs : List D} {P : D → Prop} (hi : ρ[i]? = some (.dt (.lst xs))) (hm : Menu (n + 1) P xs) (hn : n + 1 ≤ 1000 := by decide) (hj : ρ[j]? = some (.dt .hnd) := by rfl) : TM (cFn 2 f_law_pick (cC (cV j) (cC (cV i) cN)) ρ) P := by
  refine te_fn (fa_c (P := fun d => d = .hnd) (te_v hj rfl) (fa_c (P := fun d => d = .lst xs) (te_v hi rfl) fa_n)) fun ys h => ?_
  obtain ⟨x, y, rfl, rfl, rfl⟩ := fit2 h
  exact ⟨rfl, t_pick hm (by omega)⟩
/-! blocks -/
theorem t_comp {gs : FG} {fe : FE} {ρ : List En} {P : D → Prop} : ∀ {ds : List D}, (∀ d ∈ ds, ∃ ρ1, gs d ρ = some ρ1 ∧ TM (fe ρ1) P) → TM (compD gs tY fe ds ρ) (fun ys => ys.length = ds.length ∧ ∀ y ∈ ys, P y)
  | [], _ => TM.pure ⟨rfl, fun y hy => by simp at hy⟩
  | d :: ds, h => fun g hg => by
    obtain ⟨ρ1, e1, h1⟩ := h d (by simp)
    obtain ⟨y, g2, e2, p, hg2⟩ := h1 g hg
    obtain ⟨ys, g3, e3, ⟨q1, q2⟩, hg3⟩ := t_comp (ds := ds) (fun d hd => h d (by simp [hd])) g2 hg2
    refine ⟨y :: ys, g3, ?_, ⟨by simp [q1], fun z hz => ?_⟩, hg3⟩
    · simp [compD, e1, e2, e3]
    · rcases List.mem_cons.mp hz with rfl | hz
      · exact p
      · exact q2 z hz
theorem t_compF {gs : FG} {ft : FT} {fe : FE} {ρ : List En} : ∀ {ds : List D}, (∀ d ∈ ds, ∃ ρ1, gs d ρ = some ρ1 ∧ TM (ft ρ1) (fun _ => True) ∧ TM (fe ρ1) (fun y => y = d)) → TM (compD gs ft fe ds ρ) (fun ys => ys.Sublist ds)
  | [], _ => TM.pure (List.Sublist.refl _)
  | d :: ds, h => fun g hg => by
    obtain ⟨ρ1, e1, h0, h1⟩ := h d (by simp)
    obtain ⟨b, g1, e0, _, hg1⟩ := h0 g hg
    cases b with
    | false =>
      obtain ⟨ys, g3, e3, q, hg3⟩ := t_compF (ds := ds) (fun d hd => h d (by simp [hd])) g1 hg1
      exact ⟨ys, g3, by simp [compD, e1, e0, e3], q.cons _, hg3⟩
    | true =>
      obtain ⟨y, g2, e2, rfl, hg2⟩ := h1 g1 hg1
      obtain ⟨ys, g3, e3, q, hg3⟩ := t_compF (ds := ds) (fun d hd => h d (by simp [hd])) g2 hg2
      exact ⟨y :: ys, g3, by simp [compD, e1, e0, e2, e3], q.cons₂ _, hg3⟩
theorem te_lc {fi : FI} {vs : List Nat} {gs : FG} {ft : FT} {fe : FE} {ρ : List En} {ds : List D} {R : List D → Prop} {Q : D → Prop} (hi : TM (fi ρ) (fun xs => xs = ds)) (hc : TM (compD gs ft fe ds (blkE ρ vs)) R) (h : ∀ ys, R ys → ys.length ≤ 1000 ∧ Q (.lst ys)) : TM (cLc fi vs gs ft fe ρ) Q := by
  show TM (fun g => (fi ρ g).bd _) Q
  refine TM.bd hi ?_
  rintro xs rfl
  show TM (fun g => (compD gs ft fe xs (blkE ρ vs) g).bd _) Q
  refine TM.bd hc fun ys hy => TM.of (h ys hy).2 fun g => if_pos (h ys hy).1
theorem ti_rng {ρ : List En} {a : FE} {j : Int} (h0 : 0 ≤ j) (h1 : j ≤ 100000) (ha : TM (a ρ) (fun d => d = .int j)) : TM (iR1 (cC a cN) ρ) (fun xs => xs = rngD 0 j.toNat) := by
  show TM (fun g => (cC a cN ρ g).bd _) _
  refine TM.bd (fa_c ha fa_n) fun xs h => ?_
  obtain ⟨x, rfl, rfl⟩ := fit1 h
  refine TM.of rfl fun g => ?_
  rw [rng1_int h0 h1]; rfl
theorem rng_len (a : Int) (n : Nat) : (rngD a n).length = n := by simp [rngD]
/-! walks, counted -/
theorem t_loop {gs : FG} {fb : FS} {I : Nat → List En → Prop} (h : ∀ d n ρ, I n ρ → ∃ ρ1, gs d ρ = some ρ1 ∧ TM (fb ρ1) (fun f => ∃ ρ2, f = .nx ρ2 ∧ I (n + 1) ρ2)) : ∀ (ds : List D) (n : Nat) (ρ : List En), I n ρ → TM (loopD gs fb ds ρ) (fun f => ∃ ρ2, f = .nx ρ2 ∧ I (n + ds.length) ρ2)
  | [], n, ρ, i => TM.pure ⟨ρ, rfl, i⟩
  | d :: ds, n, ρ, i => fun g hg => by
    obtain ⟨ρ1, h1, hb⟩ := h d n ρ i
    obtain ⟨f, g2, e, ⟨ρ2, rfl, i2⟩, hg2⟩ := hb g hg
    obtain ⟨f3, g3, e3, ⟨ρ3, rfl, i3⟩, hg3⟩ := t_loop h ds (n + 1) ρ2 i2 g2 hg2
    refine ⟨_, g3, ?_, ⟨ρ3, rfl, ?_⟩, hg3⟩
    · unfold loopD
      rw [h1]
      simp only [e]
      exact e3
    · rw [List.length_cons, show n + (ds.length + 1) = n + 1 + ds.length by omega]; exact i3
theorem ts_for {ρ : List En} {fi : FI} {gs : FG} {fb : FS} {ds : List D} {Q : Fl → Prop} (hi : TM (fi ρ) (fun xs => xs = ds)) (hl : TM (loopD gs fb ds ρ) Q) : TM (sFor fi gs fb ρ) Q := by
  show TM (fun g => (fi ρ g).bd _) Q
  refine TM.bd hi ?_
  rintro xs rfl
  exact hl
theorem ts_app {ρ : List En} {i : Nat} {a : FE} {xs : List D} {P : D → Prop} {Q : Fl → Prop} (hi : ρ[i]? = some (.own xs)) (hl : xs.length ≤ 1000) (ha : TM (a ρ) P) (h : ∀ y, P y → Q (.nx (ρ.set i (.own (xs ++ [y]))))) : TM (sApp i a ρ) Q := by
  have e : sApp i a ρ = fun g => (a ρ g).bd fun y g1 => if xs.length ≤ 1000 then some (.ok (.nx (ρ.set i (.own (xs ++ [y])))) g1) else none := by
    funext g
    simp only [sApp, hi]
  rw [e]
  exact TM.bd ha fun y hy => TM.of (h y hy) fun g => if_pos hl
theorem ts_own {ρ : List En} {i : Nat} {Q : Fl → Prop} (h : Q (.nx (ρ.set i (.own [])))) : TM (sOwn i ρ) Q := TM.pure h
theorem ts_frz {ρ : List En} {i : Nat} {b : FS} {xs : List D} {Q : Fl → Prop} (hi : ρ[i]? = some (.own xs)) (hb : TM (b (ρ.set i (.dt (.lst xs)))) Q) : TM (sFrz i b ρ) Q := by
  have e : sFrz i b ρ = b (ρ.set i (.dt (.lst xs))) := by
    funext g
    simp only [sFrz, hi]
  rw [e]
  exact hb
end Kk01
set_option Elab.async false
set_option linter.all false
set_option maxRecDepth 100000
set_option maxHeartbeats 4000000
namespace Kk01
open PySem L2 FD
theorem te_of {α : Type} {m : Gh → M α} {a : α} {P : α → Prop} (e : ∀ g, m g = some (.ok a g)) (h : P a) : TM m P := TM.of h e
theorem ts_forR {ρ : List En} {fi : FI} {gs : FG} {fb : FS} {R : List D → Prop} {Q : Fl → Prop} (hi : TM (fi ρ) R) (hl : ∀ xs, R xs → TM (loopD gs fb xs ρ) Q) : TM (sFor fi gs fb ρ) Q := by
  show TM (fun g => (fi ρ g).bd _) Q
  exact TM.bd hi fun xs h => hl xs h
theorem t_loopN {gs : FG} {fb : FS} {N : Nat} {I : Nat → List En → Prop} (h : ∀ d n ρ, n < N → I n ρ → ∃ ρ1, gs d ρ = some ρ1 ∧ TM (fb ρ1) (fun f => ∃ ρ2, f = .nx ρ2 ∧ I (n + 1) ρ2)) : ∀ (ds : List D) (n : Nat) (ρ : List En), n + ds.length ≤ N → I n ρ → TM (loopD gs fb ds ρ) (fun f => ∃ ρ2, f = .nx ρ2 ∧ I (n + ds.length) ρ2)
  | [], n, ρ, _, i => TM.pure ⟨ρ, rfl, i⟩
  | d :: ds, n, ρ, hn, i => fun g hg => by
    simp only [List.length_cons] at hn
    obtain ⟨ρ1, h1, hb⟩ := h d n ρ (by omega) i
    obtain ⟨f, g2, e, ⟨ρ2, rfl, i2⟩, hg2⟩ := hb g hg
    obtain ⟨f3, g3, e3, ⟨ρ3, rfl, i3⟩, hg3⟩ := t_loopN h ds (n + 1) ρ2 (by omega) i2 g2 hg2
    refine ⟨_, g3, ?_, ⟨ρ3, rfl, ?_⟩, hg3⟩
    · unfold loopD
      rw [h1]
      simp only [e]
      exact e3
    · rw [List.length_cons, show n + (ds.length + 1) = n + 1 + ds.length by omega]; exact i3
theorem te_ixm {ρ : List En} {n : Nat} {a : FA} {e : FE} {P : D → Prop} (ha : TM (a ρ) (Menu n P)) (he : TM (e ρ) (fun d => ∃ v, d = .int v ∧ 0 ≤ v ∧ v < (n : Int))) (hn : n ≤ 1000 := by decide) : TM (cOp ixD (cLst a) e ρ) P := by
  refine te_op (P := fun d => ∃ xs, d = .lst xs ∧ Menu n P xs) (te_lst ha fun xs h => ⟨by rw [h.1]; exact hn, xs, rfl, h⟩) he ?_
  rintro x y ⟨xs, rfl, h⟩ ⟨v, rfl, h0, h1⟩
  have hv : v.toNat < xs.length := by rw [h.1]; omega
  refine ⟨xs[v.toNat], ?_, h.2 _ (List.getElem_mem hv)⟩
  rw [ixD_lst h0, List.getElem?_eq_getElem hv]
theorem tt_int {ρ : List En} {c : FT} {b : Bool} (e : ∀ g, c ρ g = some (.ok b g)) : TM (c ρ) (fun x => x = b) := TM.of rfl e
theorem ti_v {ρ : List En} {i : Nat} {v : Int} (e : ρ[i]? = some (.dt (.int v))) : TM (cV i ρ) (fun d => d = .int v) := te_v e rfl
def Fine (d : D) : Prop := fine d = true
theorem odd_play (g : Gh) : f_Play [.str "levels", .tup [.int 3]] g = some (.ok (thePlay (.str "levels") (.tup [.int 3])) g) := by
  have h1 : fine (.str "levels") = true := okS (by decide +kernel)
  rw [Play_eq h1 rfl, if_pos (by decide +kernel), if_pos (by decide +kernel)]
theorem t_odd : TM (f_law_odd [.hnd]) Fine := by
  refine tf_fn (N := 2) ?_
  refine ts_seq (I := fun ρ1 => ∃ v, ρ1 = [.dt .hnd, .dt (.int v)] ∧ 0 ≤ v ∧ v < 19) (ts_asg te_takeK ?_) ?_
  · rintro x ⟨v, rfl, h⟩
    exact ⟨_, rfl, _, rfl, v, rfl, h⟩
  rintro _ ⟨v, rfl, h0, h1⟩
  refine ts_ifret (B := fun x => x = decide (v < 6)) (tt_int fun g => by simp) (fun hb => ?_) (fun hb => ?_)
  · have hv : v < 6 := of_decide_eq_true hb.symm
    refine ts_ret (P := Fine) (te_ixm (n := 6) (me_c (te_d rfl) (me_c (te_d rfl) (me_c (te_d rfl) (me_c (te_d (okS (by decide +kernel))) (me_c (te_d (okS (by decide +kernel))) (me_c (te_d (okS (by decide +kernel))) me_n)))))) (te_v rfl ⟨v, rfl, h0, by omega⟩)) fun x hx => ⟨x, rfl, hx⟩
  have hv : ¬ v < 6 := of_decide_eq_false hb.symm
  refine ts_ifret (B := fun x => x = decide (v < 12)) (tt_int fun g => by simp) (fun hb => ?_) (fun hb => ?_)
  · have hv2 : v < 12 := of_decide_eq_true hb.symm
    refine ts_ret (P := Fine) (te_ixm (n := 6) (me_c (te_of (fun g => rfl) rfl) (me_c (te_of (fun g => rfl) rfl) (me_c (te_of (fun g => rfl) rfl) (me_c (te_of (fun g => rfl) rfl) (me_c (te_of (fun g => rfl) rfl) (me_c (te_of (fun g => rfl) rfl) me_n)))))) (te_of (a := .int (v - 6)) (fun g => by simp) ⟨_, rfl, by omega, by omega⟩)) fun x hx => ⟨x, rfl, hx⟩
  have hv2 : ¬ v < 12 := of_decide_eq_false hb.symm
  refine ts_ifret (B := fun x => x = (v == 18)) (tt_int fun g => by simp) (fun hb => ?_) (fun hb => ?_)
  · refine ts_ret (P := Fine) (te_of (a := thePlay (.str "levels") (.tup [.int 3])) (fun g => ?_) rfl) fun x hx => ⟨x, rfl, hx⟩
    have := odd_play g
    simp [this]
  have hv3 : v ≠ 18 := fun z => by subst z; simp at hb
  refine ts_ret (P := Fine) (te_ixm (n := 6) (me_c (te_of (fun g => rfl) rfl) (me_c (te_of (fun g => rfl) rfl) (me_c (te_of (fun g => rfl) rfl) (me_c (te_of (fun g => rfl) rfl) (me_c (te_of (fun g => rfl) (by show fine _ = true; decide +kernel)) (me_c (te_of (fun g => rfl) rfl) me_n)))))) (te_of (a := .int (v - 12)) (fun g => by simp) ⟨_, rfl, by omega, by omega⟩)) fun x hx => ⟨x, rfl, hx⟩
/-! scripts -/
def Deed (d : D) : Prop := deedB d = true ∧ fine d = true
def Range (a b : Int) (d : D) : Prop := ∃ v, d = .int v ∧ a ≤ v ∧ v ≤ b
theorem Range.inR {a b : Int} {d : D} (h : Range a b d) : inR a b d = true := by
  obtain ⟨v, rfl, h0, h1⟩ := h
  simp [Kk01.inR, h0, h1]
theorem Range.fine {a b : Int} {d : D} (h : Range a b d) : fine d = true := by
  obtain ⟨v, rfl, _⟩ := h; rfl
theorem see_deed : Deed (.tup [.str "see"]) := ⟨by decide +kernel, by decide +kernel⟩
theorem t_script {most : Int} (h0 : 0 ≤ most) (h6 : most ≤ 6) : TM (f_law_script [.hnd, .int most]) (fun d => scriptB d = true ∧ fine d = true) := by
  refine tf_fn (N := 4) ?_
  refine ts_seq (I := fun ρ1 => ρ1 = [.dt .hnd, .dt (.int most), .own [], .un]) (ts_own ⟨_, rfl, rfl⟩) ?_
  rintro _ rfl
  refine ts_seq (I := fun ρ1 => ∃ n x xs, ρ1 = [.dt .hnd, .dt (.int most), .own xs, x] ∧ xs.length = n ∧ n ≤ 6 ∧ ∀ d ∈ xs, Deed d) (ts_forR (R := fun xs => xs.length ≤ 6) ?_ ?_) ?_
  · show TM (fun g => (cC (cFn 2 f_law_take (cC (cV 0) (cC (cOp addD (cV 1) (cD (.int 1))) cN))) cN [.dt .hnd, .dt (.int most), .own [], .un] g).bd _) _
    refine TM.bd (fa_c (te_take (m := most + 1) (te_of (fun g => rfl) rfl) (by omega) (by omega)) fa_n) fun xs h => ?_
    obtain ⟨_, rfl, v, rfl, g0, g1⟩ := fit1 h
    refine TM.of (a := rngD 0 v.toNat) ?_ fun g => ?_
    · rw [rng_len]; omega
    · rw [rng1_int g0 (by omega)]; rfl
  · intro ds hds
    refine (t_loopN (N := 6) (I := fun n ρ1 => ∃ x xs, ρ1 = [.dt .hnd, .dt (.int most), .own xs, x] ∧ xs.length = n ∧ ∀ d ∈ xs, Deed d) ?_ ds 0 _ (by omega) ⟨_, _, rfl, rfl, fun d hd => by simp at hd⟩).imp ?_
    · rintro d n _ hn ⟨x, xs, rfl, hl, hx⟩
      refine ⟨_, rfl, ts_if (P := fun _ => True) (tt_t (te_op te_takeK (te_d (P := fun d => d = .int 0) rfl) ?_) (Q := fun _ => True) (P := fun d => ∃ b, d = .bl b) ?_) (fun _ => ?_) (fun _ => ?_)⟩
      · rintro x y ⟨v, rfl, _⟩ rfl
        exact ⟨_, eqD_int _ _, _, rfl⟩
      · rintro x ⟨b, rfl⟩
        exact ⟨b, rfl, trivial⟩
      · refine ts_app rfl (by omega) (te_of (P := Deed) (fun g => rfl) see_deed) fun y hy => ⟨_, rfl, _, _, rfl, by simp [hl], fun z hz => ?_⟩
        rcases List.mem_append.mp hz with hz | hz
        · exact hx z hz
        · have : z = y := by simpa using hz
          exact this ▸ hy
      · refine ts_app (P := Deed) rfl (by omega) (te_tup (fa_c (P := fun d => d = .str "put") (te_d rfl) (fa_c (P := Range 0 999) (te_pick (n := 5) (me_c (te_d ⟨_, rfl, by decide, by decide⟩) (me_c (te_d ⟨_, rfl, by decide, by decide⟩) (me_c (te_d ⟨_, rfl, by decide, by decide⟩) (me_c (te_d ⟨_, rfl, by decide, by decide⟩) (me_c (te_d ⟨_, rfl, by decide, by decide⟩) (me_c (TM.imp te_takeK ?_) me_n))))))) fa_n)) fun ys h => ?_) fun y hy => ⟨_, rfl, _, _, rfl, by simp [hl], fun z hz => ?_⟩
        · rintro a ⟨v, rfl, g0, g1⟩
          exact ⟨v, rfl, g0, by omega⟩
        · obtain ⟨a, b, rfl, rfl, hb⟩ := fit2 h
          refine ⟨by simp, ?_, ?_⟩
          · show (isW ["put"] (.str "put") && inR 0 999 b) = true
            rw [hb.inR]; decide +kernel
          · rw [fine_tup]
            refine ⟨by simp, fun d hd => ?_⟩
            have : d = .str "put" ∨ d = b := by simpa using hd
            rcases this with rfl | rfl
            · exact okS (by decide +kernel)
            · exact hb.fine
        · rcases List.mem_append.mp hz with hz | hz
          · exact hx z hz
          · have : z = y := by simpa using hz
            exact this ▸ hy
    · rintro f ⟨ρ2, rfl, x, xs, rfl, hl, hx⟩
      exact ⟨_, rfl, _, _, _, rfl, rfl, by omega, hx⟩
  · rintro _ ⟨n, x, xs, rfl, hl, hn, hx⟩
    refine ts_frz rfl (ts_ret (te_of (a := .tup xs) (P := fun d => scriptB d = true ∧ fine d = true) (fun g => rfl) ⟨?_, ?_⟩) fun x hx => ⟨x, rfl, hx⟩)
    · simp only [scriptB, Bool.and_eq_true, decide_eq_true_eq]
      exact ⟨by omega, List.all_eq_true.mpr fun d hd => (hx d hd).1⟩
    · rw [fine_tup]
      exact ⟨by omega, fun d hd => (hx d hd).2⟩
end Kk01
set_option Elab.async false
set_option linter.all false
set_option maxRecDepth 100000
set_option maxHeartbeats 4000000
namespace Kk01
open PySem L2 FD
def Script (d : D) : Prop := scriptB d = true ∧ fine d = true
def Pair (d : D) : Prop := ∃ k x, d = .tup [k, x] ∧ GP k x
theorem rowB_of {n : Nat} {P : D → Prop} {ys : List D} (h : Menu n P ys) (h1 : 1 ≤ n) (h5 : n ≤ 5) : rowB (.tup ys) = true := by
  simp only [rowB, Bool.and_eq_true, decide_eq_true_eq, h.1]
  omega
theorem gp_manner {k : Str} {ys : List D} {n : Nat} (hk : k ∈ MAN) (h : Menu n Script ys) (h1 : 1 ≤ n) (h5 : n ≤ 5) : GP (.str k) (.tup ys) := by
  have hk2 : k ∈ KIN := by
    simp only [List.mem_cons, List.not_mem_nil, or_false] at hk
    rcases hk with rfl | rfl | rfl <;> decide +kernel
  have hn : k ≠ "near" := by
    simp only [List.mem_cons, List.not_mem_nil, or_false] at hk
    rcases hk with rfl | rfl | rfl <;> decide +kernel
  refine ⟨⟨k, rfl, hk2, ?_⟩, ok7 k hk2, ?_⟩
  · rw [inputsB_tup, if_neg hn, rowB_of h h1 h5, if_pos (List.contains_iff_mem.mpr hk)]
    simp only [Bool.true_and]
    exact List.all_eq_true.mpr fun d hd => (h.2 d hd).1
  · rw [fine_tup]
    exact ⟨by rw [h.1]; omega, fun d hd => (h.2 d hd).2⟩
theorem t_manner : TM (f_law_manner [.hnd]) Pair := by
  refine tf_fn (N := 4) ?_
  refine ts_seq (I := fun ρ1 => ∃ v, ρ1 = [.dt .hnd, .dt (.int v), .un, .un] ∧ 1 ≤ v ∧ v ≤ 5) (ts_asg (te_pick (P := Range 1 5) (n := 6) (me_c (te_d ⟨_, rfl, by decide, by decide⟩) (me_c (te_d ⟨_, rfl, by decide, by decide⟩) (me_c (te_d ⟨_, rfl, by decide, by decide⟩) (me_c (te_d ⟨_, rfl, by decide, by decide⟩) (me_c (te_d ⟨_, rfl, by decide, by decide⟩) (me_c (te_d ⟨_, rfl, by decide, by decide⟩) (me_c (te_d ⟨_, rfl, by decide, by decide⟩) me_n)))))))) ?_) ?_
  · rintro x ⟨v, rfl, h⟩
    exact ⟨_, rfl, _, rfl, v, rfl, h⟩
  rintro _ ⟨v, rfl, h1, h5⟩
  refine ts_seq (I := fun ρ1 => ∃ w, ρ1 = [.dt .hnd, .dt (.int v), .dt (.int w), .un] ∧ 1 ≤ w ∧ w ≤ 6) (ts_asg (te_pick (P := Range 1 6) (n := 3) (me_c (te_d ⟨_, rfl, by decide, by decide⟩) (me_c (te_d ⟨_, rfl, by decide, by decide⟩) (me_c (te_d ⟨_, rfl, by decide, by decide⟩) (me_c (te_d ⟨_, rfl, by decide, by decide⟩) me_n))))) ?_) ?_
  · rintro x ⟨w, rfl, h⟩
    exact ⟨_, rfl, _, rfl, w, rfl, h⟩
  rintro _ ⟨w, rfl, g1, g6⟩
  refine ts_ret (P := Pair) (te_tup (fa_c (P := fun d => ∃ k, d = .str k ∧ k ∈ MAN) (te_pick (n := 3) (me_c (te_d ⟨_, rfl, by decide +kernel⟩) (me_c (te_d ⟨_, rfl, by decide +kernel⟩) (me_c (te_d ⟨_, rfl, by decide +kernel⟩) (me_c (te_d ⟨_, rfl, by decide +kernel⟩) me_n))))) (fa_c (P := fun d => ∃ ys, d = .tup ys ∧ Menu v.toNat Script ys) (te_call (fa_c (P := fun d => ∃ ys, d = .lst ys ∧ Menu v.toNat Script ys) (te_lc (ti_rng (by omega) (by omega) (te_v rfl rfl)) (t_comp (P := Script) ?_) ?_) fa_n) ?_) fa_n)) ?_) fun x hx => ⟨x, rfl, hx⟩
  · intro d hd
    refine ⟨_, rfl, te_fn (fa_c (P := fun d => d = .hnd) (te_v rfl rfl) (fa_c (P := fun d => d = .int w) (te_v rfl rfl) fa_n)) fun xs h => ?_⟩
    obtain ⟨x, y, rfl, rfl, rfl⟩ := fit2 h
    exact ⟨rfl, t_script (by omega) g6⟩
  · rintro ys ⟨hl, hy⟩
    rw [rng_len] at hl
    exact ⟨by omega, ys, rfl, hl, hy⟩
  · intro xs h
    obtain ⟨_, rfl, ys, rfl, hy⟩ := fit1 h
    exact ⟨_, rfl, ys, rfl, hy⟩
  · intro xs h
    obtain ⟨_, _, rfl, ⟨k, rfl, hk⟩, ys, rfl, hy⟩ := fit2 h
    exact ⟨by simp, _, _, rfl, gp_manner hk hy (by omega) (by omega)⟩
theorem gp_levels {ys : List D} {n : Nat} (h : Menu n (Range 0 999) ys) (h1 : 1 ≤ n) (h5 : n ≤ 5) : GP (.str "levels") (.tup ys) := by
  refine ⟨⟨_, rfl, by decide +kernel, ?_⟩, okS (by decide +kernel), ?_⟩
  · rw [inputsB_tup, if_neg (by decide +kernel), rowB_of h h1 h5, if_neg (by decide +kernel), if_neg (by decide +kernel)]
    have : ys.all (inR 0 999) = true := List.all_eq_true.mpr fun d hd => (h.2 d hd).inR
    rw [this]; rfl
  · rw [fine_tup]
    exact ⟨by rw [h.1]; omega, fun d hd => (h.2 d hd).fine⟩
theorem gp_near {r : D} {ys : List D} {n : Nat} (hr : Range 1 6 r) (h : Menu n (Range (-1000) 1000) ys) (h1 : 1 ≤ n) (h5 : n ≤ 5) : GP (.str "near") (.tup [r, .tup ys]) := by
  have hf : fine (.tup ys) = true := by
    rw [fine_tup]
    exact ⟨by rw [h.1]; omega, fun d hd => (h.2 d hd).fine⟩
  refine ⟨⟨_, rfl, by decide +kernel, ?_⟩, okS (by decide +kernel), ?_⟩
  · rw [inputsB_tup, if_pos rfl]
    simp only [nearB, hr.inR, rowB_of h h1 h5, Bool.true_and]
    exact List.all_eq_true.mpr fun d hd => (h.2 d hd).inR
  · rw [fine_tup]
    refine ⟨by simp, fun d hd => ?_⟩
    have : d = r ∨ d = .tup ys := by simpa using hd
    rcases this with rfl | rfl
    · exact hr.fine
    · exact hf
def Lot (d : D) : Prop := lotB d = true ∧ fine d = true
theorem gp_chain {ys : List D} {n : Nat} (h : Menu n Lot ys) (h1 : 1 ≤ n) (h5 : n ≤ 5) : GP (.str "chain") (.tup ys) := by
  refine ⟨⟨_, rfl, by decide +kernel, ?_⟩, okS (by decide +kernel), ?_⟩
  · rw [inputsB_tup, if_neg (by decide +kernel), rowB_of h h1 h5, if_neg (by decide +kernel), if_pos rfl]
    simp only [Bool.true_and]
    exact List.all_eq_true.mpr fun d hd => (h.2 d hd).1
  · rw [fine_tup]
    exact ⟨by rw [h.1]; omega, fun d hd => (h.2 d hd).2⟩
/-- numbers, no two alike -/
def Names (n : Nat) (ys : List D) : Prop := ∃ ns : List Int, ys = ns.map .int ∧ ns.length = n ∧ ns.Nodup ∧ ∀ k ∈ ns, 0 ≤ k ∧ k ≤ 999
theorem intsOf_map : ∀ ns : List Int, intsOf (ns.map .int) = some ns
  | [] => rfl
  | n :: ns => by simp [intsOf, intsOf_map ns]
theorem gp_names {ys : List D} {n : Nat} (h : Names n ys) (h1 : 1 ≤ n) (h5 : n ≤ 5) : GP (.str "names") (.tup ys) := by
  obtain ⟨ns, rfl, hl, nd, hr⟩ := h
  have m : Menu n (Range 0 999) (ns.map .int) := ⟨by simp [hl], fun d hd => by
    obtain ⟨k, hk, rfl⟩ := List.mem_map.mp hd
    exact ⟨k, rfl, hr k hk⟩⟩
  refine ⟨⟨_, rfl, by decide +kernel, ?_⟩, okS (by decide +kernel), ?_⟩
  · rw [inputsB_tup, if_neg (by decide +kernel), rowB_of m h1 h5, if_neg (by decide +kernel), if_neg (by decide +kernel)]
    have e1 : (ns.map D.int).all (inR 0 999) = true := List.all_eq_true.mpr fun d hd => (m.2 d hd).inR
    have e2 : distinctB (ns.map .int) = true := by
      have hu : unlike ns = ns.length := ((List.perm_ext_iff_of_nodup nd (eraseDups_nodup ns)).mpr (fun k => by rw [List.mem_eraseDups])).length_eq.symm
      unfold distinctB
      rw [intsOf_map]
      simp [hu]
    rw [e1, e2]
    decide +kernel
  · rw [fine_tup]
    exact ⟨by simp; omega, fun d hd => (m.2 d hd).fine⟩
/-! lots -/
def LtD (x y : D) : Prop := ∃ i j, x = .int i ∧ y = .int j ∧ i < j
theorem asc_of : ∀ {ys : List D}, ys.Pairwise LtD → ascI ys = true
  | [], _ => rfl
  | [x], _ => by cases x <;> rfl
  | x :: y :: r, h => by
    obtain ⟨i, j, rfl, rfl, hij⟩ := (List.pairwise_cons.mp h).1 y (by simp)
    have ih := asc_of (List.pairwise_cons.mp h).2
    simp [ascI, hij, ih]
theorem lot_sub {ys : List D} (h : ys.Sublist (rngD 0 20)) : Lot (.tup ys) := by
  have pw : (rngD 0 20).Pairwise LtD := by
    unfold rngD
    rw [List.pairwise_map]
    exact List.pairwise_lt_range.imp fun {a b} hab => ⟨_, _, rfl, rfl, by omega⟩
  have hm : ∀ d ∈ ys, Range 0 19 d := fun d hd => by
    have := h.subset hd
    unfold rngD at this
    obtain ⟨k, hk, rfl⟩ := List.mem_map.mp this
    have := List.mem_range.mp hk
    exact ⟨_, rfl, by omega, by omega⟩
  have hl := h.length_le
  rw [rng_len] at hl
  refine ⟨?_, ?_⟩
  · simp only [lotB, Bool.and_eq_true]
    exact ⟨List.all_eq_true.mpr fun d hd => (hm d hd).inR, asc_of (pw.sublist h)⟩
  · rw [fine_tup]
    exact ⟨by omega, fun d hd => (hm d hd).fine⟩
end Kk01
set_option Elab.async false
set_option linter.all false
set_option maxRecDepth 100000
set_option maxHeartbeats 4000000
namespace Kk01
open PySem L2 FD
theorem mem_rng {d : D} {n : Nat} (h : d ∈ rngD 0 n) : ∃ k : Nat, k < n ∧ d = .int (k : Int) := by
  unfold rngD at h
  obtain ⟨k, hk, rfl⟩ := List.mem_map.mp h
  exact ⟨k, List.mem_range.mp hk, by simp⟩
def fwd (f : Int) (n : Nat) : List Int := (List.range n).map fun (k : Nat) => f + 17 * (k : Int)
def bwd (f : Int) (n : Nat) : List Int := (List.range n).map fun (k : Nat) => f + 17 * ((n : Int) - 1 - (k : Int))
theorem fwd_names {f : Int} {n : Nat} (h0 : 0 ≤ f) (h1 : f < 900) (hn : n ≤ 5) : Names n ((fwd f n).map .int) := by
  refine ⟨fwd f n, rfl, by simp [fwd], ?_, fun k hk => ?_⟩
  · unfold fwd List.Nodup
    rw [List.pairwise_map]
    exact List.pairwise_lt_range.imp fun {a b} hab => by omega
  · unfold fwd at hk
    obtain ⟨j, hj, rfl⟩ := List.mem_map.mp hk
    have := List.mem_range.mp hj
    omega
theorem bwd_names {f : Int} {n : Nat} (h0 : 0 ≤ f) (h1 : f < 900) (hn : n ≤ 5) : Names n ((bwd f n).map .int) := by
  refine ⟨bwd f n, rfl, by simp [bwd], ?_, fun k hk => ?_⟩
  · unfold bwd List.Nodup
    rw [List.pairwise_map]
    exact List.pairwise_lt_range.imp fun {a b} hab => by omega
  · unfold bwd at hk
    obtain ⟨j, hj, rfl⟩ := List.mem_map.mp hk
    have := List.mem_range.mp hj
    omega
abbrev spE (t : Int) (n : Nat) (a b c d e : En) : List En := [.dt .hnd, .dt (.int t), .dt (.int (n : Nat)), a, b, c, d, e]
theorem comp_fwd {f t : Int} {n : Nat} {a b c d : En} (g : Gh) : compD (gN 6) tY (cOp addD (cV 3) (cOp mulD (cD (.int 17)) (cV 6))) (rngD 0 n) (spE t n (.dt (.int f)) a b c d) g = some (.ok ((fwd f n).map .int) g) := by
  have m17 : ∀ k, mulD (.int 17) (.int k) = some (.int (17 * k)) := fun k => mulD_int (.inl (by decide))
  have e : (fwd f n).map D.int = (rngD 0 n).map fun d => match d with | .int k => .int (f + 17 * k) | d => d := by
    simp [fwd, rngD]
  rw [e]
  refine compD_map fun x hx => ?_
  obtain ⟨k, hk, rfl⟩ := mem_rng hx
  exact ⟨_, rfl, by simp [m17]⟩
theorem comp_bwd {f t : Int} {n : Nat} {x a c d : En} (g : Gh) : compD (gN 6) tY (cOp ixD (cV 4) (cOp subD (cOp subD (cV 2) (cD (.int 1))) (cV 6))) (rngD 0 n) (spE t n x (.dt (.lst ((fwd f n).map .int))) a c d) g = some (.ok ((bwd f n).map .int) g) := by
  have e : (bwd f n).map D.int = (rngD 0 n).map fun d => match d with | .int k => .int (f + 17 * ((n : Int) - 1 - k)) | d => d := by
    simp [bwd, rngD]
  rw [e]
  refine compD_map fun x hx => ?_
  obtain ⟨k, hk, rfl⟩ := mem_rng hx
  have hi : ixD (.lst ((fwd f n).map .int)) (.int ((n : Int) - 1 - (k : Int))) = some (.int (f + 17 * ((n : Int) - 1 - (k : Int)))) := by
    rw [ixD_lst (by omega)]
    unfold fwd
    rw [List.map_map, List.getElem?_map, List.getElem?_range (by omega)]
    simp
    omega
  exact ⟨_, rfl, by simp [hi]⟩
theorem some_ok : SomeOk := by
  refine tf_fn (N := 8) (P := Pair) (ds := [.hnd]) ?_
  refine ts_seq (I := fun ρ1 => ∃ t, ρ1 = [.dt .hnd, .dt (.int t), .un, .un, .un, .un, .un, .un]) (ts_asg te_takeK ?_) ?_
  · rintro x ⟨v, rfl, h⟩
    exact ⟨_, rfl, _, rfl, v, rfl⟩
  rintro _ ⟨t, rfl⟩
  refine ts_seq (I := fun ρ1 => ∃ n : Nat, ρ1 = spE t n .un .un .un .un .un ∧ 1 ≤ n ∧ n ≤ 5) (ts_asg (te_pick (P := Range 1 5) (n := 4) (me_c (te_d ⟨_, rfl, by decide, by decide⟩) (me_c (te_d ⟨_, rfl, by decide, by decide⟩) (me_c (te_d ⟨_, rfl, by decide, by decide⟩) (me_c (te_d ⟨_, rfl, by decide, by decide⟩) (me_c (te_d ⟨_, rfl, by decide, by decide⟩) me_n)))))) ?_) ?_
  · rintro x ⟨v, rfl, h1, h5⟩
    obtain ⟨n, rfl⟩ := Int.eq_ofNat_of_zero_le (by omega : 0 ≤ v)
    exact ⟨_, rfl, _, rfl, n, rfl, by omega, by omega⟩
  rintro _ ⟨n, rfl, h1, h5⟩
  have ti : ∀ {a b c d e : En}, TM (iR1 (cC (cV 2) cN) (spE t n a b c d e)) (fun xs => xs = rngD 0 n) := fun {a b c d e} => (ti_rng (j := (n : Int)) (by omega) (by omega) (te_v rfl rfl)).imp fun xs h => h
  refine ts_ifret (B := fun x => x = (t == 0)) (tt_int fun g => by simp) (fun hb => ?_) (fun hb => ?_)
  · refine ts_ret (P := Pair) (te_tup (fa_c (P := fun d => d = .str "levels") (te_d rfl) (fa_c (P := fun d => ∃ ys, d = .tup ys ∧ Menu n (Range 0 999) ys) (te_call (fa_c (P := fun d => ∃ ys, d = .lst ys ∧ Menu n (Range 0 999) ys) (te_lc ti (t_comp (P := Range 0 999) ?_) ?_) fa_n) ?_) fa_n)) ?_) fun x hx => ⟨x, rfl, hx⟩
    · intro d hd
      refine ⟨_, rfl, TM.imp te_takeK ?_⟩
      rintro a ⟨v, rfl, g0, g1⟩
      exact ⟨v, rfl, g0, by omega⟩
    · rintro ys ⟨hl, hy⟩
      rw [rng_len] at hl
      exact ⟨by omega, ys, rfl, hl, hy⟩
    · intro xs h
      obtain ⟨_, rfl, ys, rfl, hy⟩ := fit1 h
      exact ⟨_, rfl, ys, rfl, hy⟩
    · intro xs h
      obtain ⟨_, _, rfl, rfl, ys, rfl, hy⟩ := fit2 h
      exact ⟨by simp, _, _, rfl, gp_levels hy h1 h5⟩
  refine ts_ifret (B := fun x => x = (t == 1)) (tt_int fun g => by simp) (fun hb => ?_) (fun hb => ?_)
  · refine ts_seq (I := fun ρ1 => ∃ f, ρ1 = spE t n (.dt (.int f)) .un .un .un .un ∧ 0 ≤ f ∧ f < 900) (ts_asg te_takeK ?_) ?_
    · rintro x ⟨v, rfl, h⟩
      exact ⟨_, rfl, _, rfl, v, rfl, h⟩
    rintro _ ⟨f, rfl, f0, f1⟩
    refine ts_seq (I := fun ρ1 => ρ1 = spE t n (.dt (.int f)) (.dt (.lst ((fwd f n).map .int))) .un .un .un) (ts_asg (P := fun d => d = .lst ((fwd f n).map .int)) (te_lc ti (te_of (P := fun ys => ys = (fwd f n).map .int) (fun g => comp_fwd g) rfl) ?_) ?_) ?_
    · rintro _ rfl
      exact ⟨by simp [fwd]; omega, rfl⟩
    · rintro _ rfl
      exact ⟨_, rfl, _, rfl, rfl⟩
    rintro _ rfl
    refine ts_seq (I := fun ρ1 => ∃ ys, ρ1 = spE t n (.dt (.int f)) (.dt (.lst ys)) .un .un .un ∧ Names n ys) (ts_if (P := fun _ => True) (tt_t (P := fun d => ∃ b, d = .bl b) (te_op te_takeK (te_d (P := fun d => d = .int 0) rfl) ?_) ?_) (fun _ => ts_asg (P := fun d => d = .lst ((bwd f n).map .int)) (te_lc ti (te_of (P := fun ys => ys = (bwd f n).map .int) (fun g => comp_bwd g) rfl) ?_) ?_) (fun _ => TM.pure ⟨_, rfl, _, rfl, fwd_names f0 f1 h5⟩)) ?_
    · rintro x y ⟨v, rfl, _⟩ rfl
      exact ⟨_, eqD_int _ _, _, rfl⟩
    · rintro x ⟨b, rfl⟩
      exact ⟨b, rfl, trivial⟩
    · rintro _ rfl
      exact ⟨by simp [bwd]; omega, rfl⟩
    · rintro _ rfl
      exact ⟨_, rfl, _, rfl, _, rfl, bwd_names f0 f1 h5⟩
    rintro _ ⟨ys, rfl, hy⟩
    exact ts_ret (P := Pair) (te_of (a := .tup [.str "names", .tup ys]) (fun g => rfl) ⟨_, _, rfl, gp_names hy h1 h5⟩) fun x hx => ⟨x, rfl, hx⟩
  refine ts_ifret (B := fun x => x = (t == 2)) (tt_int fun g => by simp) (fun hb => ?_) (fun hb => ?_)
  · refine ts_ret (P := Pair) (te_tup (fa_c (P := fun d => d = .str "near") (te_d rfl) (fa_c (P := fun d => ∃ r ys, d = .tup [r, .tup ys] ∧ Range 1 6 r ∧ Menu n (Range (-1000) 1000) ys) (te_tup (fa_c (P := Range 1 6) (te_op (te_d (P := fun d => d = .int 1) rfl) te_takeK ?_) (fa_c (P := fun d => ∃ ys, d = .tup ys ∧ Menu n (Range (-1000) 1000) ys) (te_call (fa_c (P := fun d => ∃ ys, d = .lst ys ∧ Menu n (Range (-1000) 1000) ys) (te_lc ti (t_comp (P := Range (-1000) 1000) ?_) ?_) fa_n) ?_) fa_n)) ?_) fa_n)) ?_) fun x hx => ⟨x, rfl, hx⟩
    · rintro x y rfl ⟨v, rfl, g0, g1⟩
      exact ⟨_, rfl, _, rfl, by omega, by omega⟩
    · intro d hd
      refine ⟨_, rfl, te_op te_takeK (te_d (P := fun d => d = .int 1000) rfl) ?_⟩
      rintro x y ⟨v, rfl, g0, g1⟩ rfl
      exact ⟨_, rfl, _, rfl, by omega, by omega⟩
    · rintro ys ⟨hl, hy⟩
      rw [rng_len] at hl
      exact ⟨by omega, ys, rfl, hl, hy⟩
    · intro xs h
      obtain ⟨_, rfl, ys, rfl, hy⟩ := fit1 h
      exact ⟨_, rfl, ys, rfl, hy⟩
    · intro xs h
      obtain ⟨r, _, rfl, hr, ys, rfl, hy⟩ := fit2 h
      exact ⟨by simp, r, ys, rfl, hr, hy⟩
    · intro xs h
      obtain ⟨_, _, rfl, rfl, r, ys, rfl, hr, hy⟩ := fit2 h
      exact ⟨by simp, _, _, rfl, gp_near hr hy h1 h5⟩
  refine ts_ifret (B := fun x => x = (t == 3)) (tt_int fun g => by simp) (fun hb => ?_) (fun hb => ?_)
  · refine ts_seq (I := fun ρ1 => ρ1 = spE t n .un .un (.own []) .un .un) (ts_own ⟨_, rfl, rfl⟩) ?_
    rintro _ rfl
    refine ts_seq (I := fun ρ1 => ∃ xs x y, ρ1 = spE t n .un .un (.own xs) x y ∧ Menu n Lot xs) (ts_forR ti ?_) ?_
    · rintro _ rfl
      refine (t_loopN (N := 5) (I := fun m ρ1 => ∃ xs x y, ρ1 = spE t n .un .un (.own xs) x y ∧ Menu m Lot xs) ?_ (rngD 0 n) 0 _ (by rw [rng_len]; omega) ⟨_, _, _, rfl, rfl, fun d hd => by simp at hd⟩).imp ?_
      · rintro d m _ hm ⟨xs, x, y, rfl, hl, hx⟩
        refine ⟨_, rfl, ts_app (P := Lot) rfl (by omega) (te_call (fa_c (P := fun d => ∃ ys, d = .lst ys ∧ Lot (.tup ys)) (te_lc (ti_rng (j := 20) (by decide) (by decide) (te_d rfl)) (t_compF ?_) ?_) fa_n) ?_) ?_⟩
        · intro d hd
          refine ⟨_, rfl, tt_t (P := fun d => ∃ b, d = .bl b) (te_op te_takeK (te_d (P := fun d => d = .int 0) rfl) ?_) ?_, te_v rfl rfl⟩
          · rintro x y ⟨v, rfl, _⟩ rfl
            exact ⟨_, eqD_int _ _, _, rfl⟩
          · rintro x ⟨b, rfl⟩
            exact ⟨b, rfl, trivial⟩
        · intro ys hy
          have := hy.length_le
          rw [rng_len] at this
          exact ⟨Nat.le_trans this (by decide), ys, rfl, lot_sub hy⟩
        · intro zs h
          obtain ⟨_, rfl, ys, rfl, hy⟩ := fit1 h
          exact ⟨_, rfl, hy⟩
        · intro z hz
          refine ⟨_, rfl, _, _, _, rfl, by simp [hl], fun q hq => ?_⟩
          rcases List.mem_append.mp hq with hq | hq
          · exact hx q hq
          · have : q = z := by simpa using hq
            exact this ▸ hz
      · rintro f ⟨ρ2, rfl, xs, x, y, rfl, hm⟩
        rw [rng_len, Nat.zero_add] at hm
        exact ⟨_, rfl, xs, x, y, rfl, hm⟩
    · rintro _ ⟨xs, x, y, rfl, hm⟩
      exact ts_frz rfl (ts_ret (P := Pair) (te_of (a := .tup [.str "chain", .tup xs]) (fun g => rfl) ⟨_, _, rfl, gp_chain hm h1 h5⟩) fun x hx => ⟨x, rfl, hx⟩)
  · refine ts_ret (P := Pair) (te_fn (fa_c (P := fun d => d = .hnd) (te_v rfl rfl) fa_n) fun xs h => ?_) fun x hx => ⟨x, rfl, hx⟩
    obtain ⟨_, rfl, rfl⟩ := fit1 h
    exact ⟨rfl, t_manner⟩
end Kk01
set_option Elab.async false
set_option linter.all false
set_option maxRecDepth 100000
set_option maxHeartbeats 4000000
namespace Kk01
open PySem L2 FD
def FineT (n : Nat) (d : D) : Prop := ∃ xs, d = .tup xs ∧ xs.length ≤ n ∧ ∀ x ∈ xs, fine x = true
theorem FineT.fine {n : Nat} {d : D} (h : FineT n d) (hn : n ≤ 500) : fine d = true := by
  obtain ⟨xs, rfl, hl, hx⟩ := h
  rw [fine_tup]
  exact ⟨by omega, hx⟩
theorem FineT.mono {n m : Nat} {d : D} (h : FineT n d) (hn : n ≤ m) : FineT m d := by
  obtain ⟨xs, rfl, hl, hx⟩ := h
  exact ⟨xs, rfl, by omega, hx⟩
theorem asc_len : ∀ {ys : List D} {i : Int}, ((D.int i :: ys).all (inR 0 19)) = true → ascI (.int i :: ys) = true → ((D.int i :: ys).length : Int) ≤ 20 - i
  | [], i, h, _ => by
    simp [inR] at h
    simp
    omega
  | y :: ys, i, h, ha => by
    have h2 : (y :: ys).all (inR 0 19) = true := by
      rw [List.all_cons] at h
      exact (Bool.and_eq_true_iff.mp h).2
    obtain ⟨j, rfl, _⟩ := inR_int ((Bool.and_eq_true_iff.mp (by rw [List.all_cons] at h2; exact h2)).1)
    simp only [ascI, Bool.and_eq_true, decide_eq_true_eq] at ha
    have ih := asc_len h2 ha.2
    simp only [List.length_cons] at ih ⊢
    omega
theorem lot_len {d : D} (h : lotB d = true) (hf : fine d = true) : FineT 20 d := by
  cases d with
  | tup xs =>
    obtain ⟨_, hm⟩ := fine_tup.mp hf
    simp only [lotB, Bool.and_eq_true] at h
    refine ⟨xs, rfl, ?_, hm⟩
    match xs, h with
    | [], _ => simp
    | x :: r, h =>
      obtain ⟨i, rfl, h0, _⟩ := inR_int ((Bool.and_eq_true_iff.mp (by have := h.1; rw [List.all_cons] at this; exact this)).1)
      have := asc_len h.1 h.2
      omega
  | _ => simp [lotB] at h
theorem deed_tup {d : D} (h : deedB d = true) (hf : fine d = true) : FineT 2 d := by
  cases d with
  | tup xs =>
    obtain ⟨_, hm⟩ := fine_tup.mp hf
    refine ⟨xs, rfl, ?_, hm⟩
    match xs, h with
    | [], h => simp
    | [_], h => simp
    | [_, _], h => simp
    | _ :: _ :: _ :: _, h => simp [deedB] at h
  | _ => simp [deedB] at h
/-- a script -/
def ScrT (d : D) : Prop := ∃ xs, d = .tup xs ∧ xs.length ≤ 6 ∧ ∀ x ∈ xs, FineT 2 x
theorem ScrT.t {d : D} (h : ScrT d) : FineT 6 d := by
  obtain ⟨xs, rfl, hl, hx⟩ := h
  exact ⟨xs, rfl, hl, fun x hm => (hx x hm).fine (by decide)⟩
theorem script_len {d : D} (h : scriptB d = true) (hf : fine d = true) : ScrT d := by
  cases d with
  | tup xs =>
    obtain ⟨_, hm⟩ := fine_tup.mp hf
    simp only [scriptB, Bool.and_eq_true, decide_eq_true_eq] at h
    exact ⟨xs, rfl, h.1, fun x hx => deed_tup (List.all_eq_true.mp h.2 x hx) (hm x hx)⟩
  | _ => simp [scriptB] at h
structure ItemOk (z : Str) (d : D) : Prop where
  f : fine d = true
  m : MAN.contains z = true → ScrT d
  c : z = "chain" → FineT 20 d
theorem gp_parts {k x : D} (h : GP k x) : ∃ z, k = .str z ∧ z ∈ KIN ∧ ((z = "near" ∧ ∃ r ys, x = .tup [r, .tup ys] ∧ fine r = true ∧ 1 ≤ ys.length ∧ ys.length ≤ 5 ∧ ∀ y ∈ ys, ItemOk z y) ∨ (z ≠ "near" ∧ ∃ xs, x = .tup xs ∧ 1 ≤ xs.length ∧ xs.length ≤ 5 ∧ ∀ y ∈ xs, ItemOk z y)) := by
  obtain ⟨z, rfl, hz, hi⟩ := h.kin
  have hf := h.fd
  refine ⟨z, rfl, hz, ?_⟩
  cases x with
  | tup xs =>
    obtain ⟨hl, hm⟩ := fine_tup.mp hf
    rw [inputsB_tup] at hi
    by_cases hn : z = "near"
    · subst hn
      rw [if_pos rfl] at hi
      refine .inl ⟨rfl, ?_⟩
      match xs, hi, hm with
      | [], hi, _ => simp [nearB] at hi
      | [_], hi, _ => simp [nearB] at hi
      | [r, .tup ys], hi, hm =>
        obtain ⟨_, hy⟩ := fine_tup.mp (hm (.tup ys) (by simp))
        simp only [nearB, rowB, Bool.and_eq_true, decide_eq_true_eq] at hi
        exact ⟨r, ys, rfl, hm r (by simp), hi.2.1.1, hi.2.1.2, fun y h => ⟨hy y h, fun z => absurd z (by decide +kernel), fun z => absurd z (by decide +kernel)⟩⟩
      | [r, .non], hi, _ => simp [nearB] at hi
      | [r, .bl _], hi, _ => simp [nearB] at hi
      | [r, .int _], hi, _ => simp [nearB] at hi
      | [r, .str _], hi, _ => simp [nearB] at hi
      | [r, .lst _], hi, _ => simp [nearB] at hi
      | [r, .emp], hi, _ => simp [nearB] at hi
      | [r, .obj _ _ _], hi, _ => simp [nearB] at hi
      | [r, .hnd], hi, _ => simp [nearB] at hi
      | _ :: _ :: _ :: _, hi, _ => simp [nearB] at hi
    · rw [if_neg hn] at hi
      simp only [rowB, Bool.and_eq_true, decide_eq_true_eq] at hi
      obtain ⟨⟨h1, h5⟩, hi⟩ := hi
      refine .inr ⟨hn, xs, rfl, h1, h5, fun y hy => ⟨hm y hy, fun hman => ?_, fun hc => ?_⟩⟩
      · rw [if_pos hman] at hi
        exact script_len (List.all_eq_true.mp hi y hy) (hm y hy)
      · subst hc
        rw [if_neg (by decide +kernel), if_pos rfl] at hi
        exact lot_len (List.all_eq_true.mp hi y hy) (hm y hy)
  | _ => simp [inputsB] at hi
theorem cutD_mem {xs : List D} {lo hi : Option Int} : (∀ x ∈ cutD xs lo hi, x ∈ xs) ∧ (cutD xs lo hi).length ≤ xs.length := by
  unfold cutD
  refine ⟨fun x h => ?_, ?_⟩
  · first
      | exact List.mem_of_mem_drop (List.mem_of_mem_take h)
      | exact List.mem_of_mem_take (List.mem_of_mem_drop h)
  · simp
    try omega
theorem to_n {ρ : List En} : TM (oN ρ) (fun _ => True) := TM.of trivial fun g => rfl
theorem to_s {ρ : List En} {a : FE} {P : D → Prop} (ha : TM (a ρ) P) (h : ∀ x, P x → ∃ v, x = .int v) : TM (oS a ρ) (fun _ => True) := by
  show TM (fun g => (a ρ g).bd _) _
  refine TM.bd ha fun x hx => ?_
  obtain ⟨v, rfl⟩ := h x hx
  exact TM.of (a := some v) trivial fun g => rfl
theorem te_sl {ρ : List En} {a : FE} {lo hi : FO} {n : Nat} (ha : TM (a ρ) (FineT n)) (hl : TM (lo ρ) (fun _ => True)) (hh : TM (hi ρ) (fun _ => True)) : TM (cSl a lo hi ρ) (FineT n) := by
  show TM (fun g => (a ρ g).bd _) _
  refine TM.bd ha ?_
  rintro _ ⟨xs, rfl, hn, hx⟩
  refine TM.bd hl fun l _ => TM.bd hh fun h _ => ?_
  refine TM.of (a := .tup (cutD xs l h)) ⟨_, rfl, Nat.le_trans cutD_mem.2 hn, fun x hm => hx x (cutD_mem.1 x hm)⟩ fun g => rfl
theorem te_add {ρ : List En} {a b : FE} {n m : Nat} (ha : TM (a ρ) (FineT n)) (hb : TM (b ρ) (FineT m)) (h : n + m ≤ 1000) : TM (cOp addD a b ρ) (FineT (n + m)) := by
  refine te_op ha hb ?_
  rintro _ _ ⟨xs, rfl, h1, h2⟩ ⟨ys, rfl, h3, h4⟩
  refine ⟨.tup (xs ++ ys), if_pos (by omega), _, rfl, by simp; omega, fun x hx => ?_⟩
  rcases List.mem_append.mp hx with hx | hx
  · exact h2 x hx
  · exact h4 x hx
theorem te_tup1 {ρ : List En} {a : FE} (ha : TM (a ρ) Fine) : TM (cTup (cC a cN) ρ) (FineT 1) := by
  refine te_tup (fa_c ha fa_n) fun xs h => ?_
  obtain ⟨x, rfl, hx⟩ := fit1 h
  exact ⟨by simp, _, rfl, by simp, fun y hy => by
    have : y = x := by simpa using hy
    exact this ▸ hx⟩
theorem te_mul {ρ : List En} {a : FE} {xs : List D} {k : Nat} {n : Nat} (ha : TM (a ρ) (fun d => d = .tup xs)) (h0 : 1 ≤ xs.length) (h2 : 2 ≤ k) (hk : k ≤ 100) (hl : xs.length * k ≤ n) (hn : n ≤ 1000) (hx : ∀ x ∈ xs, fine x = true) : TM (cOp mulD a (cD (.int (k : Nat))) ρ) (FineT n) := by
  refine te_op ha (te_d (P := fun d => d = .int (k : Nat)) rfl) ?_
  rintro _ _ rfl rfl
  have e : mulD (.tup xs) (.int (k : Nat)) = some (.tup (List.replicate k xs).flatten) := by
    show (if _ then _ else _) = _
    refine if_pos ⟨fun z => ?_, by omega, by omega, ?_, ?_⟩
    · rw [z] at h0; simp at h0
    · exact Nat.le_trans (Nat.le_mul_of_pos_right _ (by omega)) (Nat.le_trans hl hn)
    · rw [show ((k : Int)).toNat = k from rfl]; omega
  refine ⟨_, e, _, rfl, ?_, fun x hm => ?_⟩
  · simp only [List.length_flatten, List.map_replicate, List.sum_replicate_nat]
    rw [Nat.mul_comm]; exact hl
  · obtain ⟨l, hl2, hm2⟩ := List.mem_flatten.mp hm
    rw [(List.mem_replicate.mp hl2).2] at hm2
    exact hx x hm2
end Kk01
set_option Elab.async false
set_option linter.all false
set_option maxRecDepth 100000
set_option maxHeartbeats 4000000
namespace Kk01
open PySem L2 FD
theorem te_odd {ρ : List En} {j : Nat} (hj : ρ[j]? = some (.dt .hnd) := by rfl) : TM (cFn 1 f_law_odd (cC (cV j) cN) ρ) Fine := by
  refine te_fn (fa_c (P := fun d => d = .hnd) (te_v hj rfl) fa_n) fun xs h => ?_
  obtain ⟨_, rfl, rfl⟩ := fit1 h
  exact ⟨rfl, t_odd⟩
theorem te_list {ρ : List En} {a : FE} {n : Nat} (ha : TM (a ρ) (FineT n)) (hn : n ≤ 500) : TM (cCall listD (cC a cN) ρ) Fine := by
  refine te_call (fa_c ha fa_n) fun xs h => ?_
  obtain ⟨_, rfl, ys, rfl, hl, hy⟩ := fit1 h
  refine ⟨_, rfl, ?_⟩
  show fine (.lst ys) = true
  rw [fine_lst]
  exact ⟨by omega, hy⟩
theorem okSee : fine (.tup [.str "see"]) = true := by decide +kernel
theorem te_sees {ρ : List En} {k : Nat} (h2 : 2 ≤ k) (h7 : k ≤ 7) : TM (cOp mulD (cTup (cC (cTup (cC (cD (.str "see")) cN)) cN)) (cD (.int (k : Nat))) ρ) (FineT 7) :=
  te_mul (xs := [.tup [.str "see"]]) (te_of (fun g => rfl) rfl) (by simp) h2 (by omega) (by simp; omega) (by decide) fun x hx => by
    have : x = .tup [.str "see"] := by simpa using hx
    exact this ▸ okSee
theorem t_bent {z : Str} (hz : z ∈ KIN) {d : D} (h : ItemOk z d) : TM (f_law_bent_item [.hnd, .str z, d]) Fine := by
  have q1 := okW hz "near" (okS (by decide +kernel))
  have q2 := okW hz "chain" (okS (by decide +kernel))
  have q4 := inMANL z
  refine tf_fn (N := 6) ?_
  refine ts_ifret (B := fun b => b = true → ∃ xs, d = .tup xs ∧ 0 < xs.length ∧ xs.length ≤ 6 ∧ ∀ x ∈ xs, FineT 2 x) (tt_and (P := fun b => b = MAN.contains z) (R := fun b => b = true → ∃ xs, d = .tup xs ∧ 0 < xs.length ∧ xs.length ≤ 6 ∧ ∀ x ∈ xs, FineT 2 x) (tt_int fun g => by simp [q4]) (fun hm => ?_) (fun _ z => by cases z) (fun y _ hy => hy)) (fun hb => ?_) (fun hb => ?_)
  · obtain ⟨xs, rfl, hl, hx⟩ := h.m hm.symm
    refine tt_and (P := fun b => b = decide ((0 : Int) < xs.length)) (R := fun _ => True) (tt_int fun g => by simp) (fun _ => tt_t (P := fun d => ∃ b, d = .bl b) (te_op te_takeK (te_d (P := fun d => d = .int 0) rfl) ?_) ?_) (fun _ z => by cases z) (fun y hy _ _ => ⟨xs, rfl, by have := of_decide_eq_true hy.symm; omega, hl, hx⟩)
    · rintro x y ⟨v, rfl, _⟩ rfl
      exact ⟨_, rfl, _, rfl⟩
    · rintro x ⟨b, rfl⟩
      exact ⟨b, rfl, trivial⟩
  · obtain ⟨xs, rfl, h0, hl, hx⟩ := hb rfl
    have ft : FineT 6 (.tup xs) := ⟨xs, rfl, hl, fun x hm => (hx x hm).fine (by decide)⟩
    refine ts_seq (I := fun ρ1 => ∃ v, ρ1 = [.dt .hnd, .dt (.str z), .dt (.tup xs), .dt (.int v), .un, .un] ∧ 0 ≤ v ∧ v < (xs.length : Int)) (ts_asg (te_take (m := (xs.length : Int)) (te_of (fun g => rfl) rfl) (by omega) (by omega)) ?_) ?_
    · rintro x ⟨v, rfl, g0, g1⟩
      exact ⟨_, rfl, _, rfl, v, rfl, g0, g1⟩
    rintro _ ⟨v, rfl, g0, g1⟩
    have hv : v.toNat < xs.length := by omega
    refine ts_seq (I := fun ρ1 => ∃ y, ρ1 = [.dt .hnd, .dt (.str z), .dt (.tup xs), .dt (.int v), .dt y, .un] ∧ FineT 2 y) (ts_asg (P := fun y => FineT 2 y) (te_of (a := xs[v.toNat]) (fun g => ?_) (hx _ (List.getElem_mem hv))) ?_) ?_
    · simp [ixD_tup g0, hv]
    · intro x hx
      exact ⟨_, rfl, _, rfl, x, rfl, hx⟩
    rintro _ ⟨y, rfl, hy⟩
    refine ts_seq (I := fun ρ1 => ∃ ys, ρ1 = [.dt .hnd, .dt (.str z), .dt (.tup xs), .dt (.int v), .dt y, .dt (.lst ys)] ∧ Menu 10 Fine ys) (ts_asg (P := fun m => ∃ ys, m = .lst ys ∧ Menu 10 Fine ys) (te_lst (R := Menu 10 Fine) (me_c (te_of (fun g => rfl) (by show fine _ = true; decide +kernel)) (me_c (te_of (fun g => rfl) (by show fine _ = true; decide +kernel)) (me_c (te_of (fun g => rfl) (by show fine _ = true; decide +kernel)) (me_c (te_of (fun g => rfl) (by show fine _ = true; decide +kernel)) (me_c (te_of (fun g => rfl) (by show fine _ = true; decide +kernel)) (me_c (te_of (fun g => rfl) (by show fine _ = true; decide +kernel)) (me_c (te_list (te_v rfl hy) (by decide)) (me_c (te_of (fun g => rfl) (by show fine _ = true; decide +kernel)) (me_c te_odd (me_c (te_of (fun g => rfl) (by show fine _ = true; decide +kernel)) me_n)))))))))) fun ys h => ⟨by rw [h.1]; decide, ys, rfl, h⟩) ?_) ?_
    · rintro _ ⟨ys, rfl, hm⟩
      exact ⟨_, rfl, _, rfl, ys, rfl, hm⟩
    rintro _ ⟨ys, rfl, hm⟩
    refine ts_ret (te_add (n := 7) (m := 6) (te_add (n := 6) (m := 1) (te_sl (te_v rfl ft) to_n (to_s (P := fun d => d = .int v) (te_v rfl rfl) fun x hx => ⟨v, hx⟩)) (te_tup1 (te_pickV rfl hm)) (by decide)) (te_sl (te_v rfl ft) (to_s (P := fun d => d = .int (v + 1)) (te_of (fun g => rfl) rfl) fun x hx => ⟨_, hx⟩) to_n) (by decide)) fun x hx => ⟨x, rfl, hx.fine (by decide)⟩
  refine ts_ifret (B := fun b => b = MAN.contains z) (tt_int fun g => by simp [q4]) (fun hm => ?_) (fun hm => ?_)
  · have ft := (h.m hm.symm).t
    refine ts_ret (te_pick (P := Fine) (n := 4) (me_c (te_list (te_v rfl ft) (by decide)) (me_c (TM.imp (te_sees (k := 7) (by decide) (by decide)) fun x hx => hx.fine (by decide)) (me_c (TM.imp (te_sees (k := 6) (by decide) (by decide)) fun x hx => hx.fine (by decide)) (me_c te_odd (me_c (te_of (fun g => rfl) (by show fine _ = true; decide +kernel)) me_n)))))) fun x hx => ⟨x, rfl, hx⟩
  refine ts_ifret (B := fun b => b = (z == "chain")) (tt_int fun g => by simp [q2]) (fun hm => ?_) (fun hm => ?_)
  · have ft := h.c (beq_iff_eq.mp hm.symm)
    refine ts_ret (te_pick (P := Fine) (n := 7) (me_c (TM.imp (te_add (n := 20) (m := 1) (te_v rfl ft) (te_tup1 (te_d rfl)) (by decide)) fun x hx => hx.fine (by decide)) (me_c (TM.imp (te_add (n := 20) (m := 1) (te_v rfl ft) (te_tup1 (te_d rfl)) (by decide)) fun x hx => hx.fine (by decide)) (me_c (te_of (fun g => rfl) (by show fine _ = true; decide +kernel)) (me_c (te_of (fun g => rfl) (by show fine _ = true; decide +kernel)) (me_c (te_of (fun g => rfl) (by show fine _ = true; decide +kernel)) (me_c (te_list (te_v rfl ft) (by decide)) (me_c (te_of (fun g => rfl) (by show fine _ = true; decide +kernel)) (me_c te_odd me_n))))))))) fun x hx => ⟨x, rfl, hx⟩
  refine ts_ifret (B := fun b => b = (z == "near")) (tt_int fun g => by simp [q1]) (fun hm => ?_) (fun hm => ?_)
  · exact ts_ret (te_pick (P := Fine) (n := 5) (me_c (te_of (fun g => rfl) (by show fine _ = true; decide +kernel)) (me_c (te_of (fun g => rfl) (by show fine _ = true; decide +kernel)) (me_c (te_of (fun g => rfl) (by show fine _ = true; decide +kernel)) (me_c (te_of (fun g => rfl) (by show fine _ = true; decide +kernel)) (me_c (te_of (fun g => rfl) (by show fine _ = true; decide +kernel)) (me_c te_odd me_n))))))) fun x hx => ⟨x, rfl, hx⟩
  · exact ts_ret (te_pick (P := Fine) (n := 5) (me_c (te_of (fun g => rfl) (by show fine _ = true; decide +kernel)) (me_c (te_of (fun g => rfl) (by show fine _ = true; decide +kernel)) (me_c (te_of (fun g => rfl) (by show fine _ = true; decide +kernel)) (me_c (te_of (fun g => rfl) (by show fine _ = true; decide +kernel)) (me_c (te_of (fun g => rfl) (by show fine _ = true; decide +kernel)) (me_c te_odd me_n))))))) fun x hx => ⟨x, rfl, hx⟩
end Kk01
set_option Elab.async false
set_option linter.all false
set_option maxRecDepth 100000
set_option maxHeartbeats 4000000
namespace Kk01
open PySem L2 FD
def FPair (d : D) : Prop := ∃ k x, d = .tup [k, x] ∧ fine k = true ∧ fine x = true
theorem te_pair {ρ : List En} {a b : FE} (ha : TM (a ρ) Fine) (hb : TM (b ρ) Fine) : TM (cTup (cC a (cC b cN)) ρ) FPair := by
  refine te_tup (fa_c ha (fa_c hb fa_n)) fun xs h => ?_
  obtain ⟨x, y, rfl, hx, hy⟩ := fit2 h
  exact ⟨by simp, x, y, rfl, hx, hy⟩
theorem FPair.fine {d : D} (h : FPair d) : Fine d := by
  obtain ⟨k, x, rfl, hk, hx⟩ := h
  show Kk01.fine _ = true
  rw [fine_tup]
  refine ⟨by simp, fun y hy => ?_⟩
  have : y = k ∨ y = x := by simpa using hy
  rcases this with rfl | rfl
  · exact hk
  · exact hx
theorem te_pairF {ρ : List En} {a b : FE} (ha : TM (a ρ) Fine) (hb : TM (b ρ) Fine) : TM (cTup (cC a (cC b cN)) ρ) Fine := TM.imp (te_pair ha hb) fun _ h => h.fine
theorem ts_pair {ρ : List En} {a b : FE} (ha : TM (a ρ) Fine) (hb : TM (b ρ) Fine) : TM (sRet (cTup (cC a (cC b cN))) ρ) (fun f => ∃ d, f = .rt d ∧ FPair d) := ts_ret (te_pair ha hb) fun x hx => ⟨x, rfl, hx⟩
theorem te_bent {ρ : List En} {z : Str} (hz : z ∈ KIN) {e : FE} {j i : Nat} (he : TM (e ρ) (ItemOk z)) (hj : ρ[j]? = some (.dt .hnd) := by rfl) (hi : ρ[i]? = some (.dt (.str z)) := by rfl) : TM (cFn 3 f_law_bent_item (cC (cV j) (cC (cV i) (cC e cN))) ρ) Fine := by
  refine te_fn (fa_c (P := fun d => d = .hnd) (te_v hj rfl) (fa_c (P := fun d => d = .str z) (te_v hi rfl) (fa_c he fa_n))) fun xs h => ?_
  obtain ⟨_, _, d, rfl, rfl, rfl, hd⟩ := fit3 h
  exact ⟨rfl, t_bent hz hd⟩
theorem te_cut6 {ρ : List En} {a : FE} {xs : List D} (ha : TM (a ρ) (fun d => d = .tup xs)) (h0 : 1 ≤ xs.length) (h5 : xs.length ≤ 5) (hx : ∀ x ∈ xs, fine x = true) (hj : ρ[0]? = some (.dt .hnd) := by rfl) : TM (cSl (cOp mulD a (cD (.int 6))) oN (oS (cOp addD (cD (.int 5)) (cFn 2 f_law_take (cC (cV 0) (cC (cD (.int 2)) cN))))) ρ) (FineT 30) := by
  refine te_sl (te_mul (k := 6) ha h0 (by decide) (by decide) (by omega) (by decide) hx) to_n (to_s (P := fun d => ∃ v, d = .int v) (te_op (te_d (P := fun d => d = .int 5) rfl) (te_takeK (hj := hj)) ?_) fun x hx => hx)
  rintro x y rfl ⟨v, rfl, _⟩
  exact ⟨_, rfl, _, rfl⟩
theorem te_place {ρ : List En} {a : FE} {n : Nat} {i : Nat} {v : Int} {e : FE} (hn : n ≤ 100) (ha : TM (a ρ) (FineT n)) (he : TM (e ρ) Fine) (hi : ρ[i]? = some (.dt (.int v))) : TM (cOp addD (cOp addD (cSl a oN (oS (cV i))) (cTup (cC e cN))) (cSl a (oS (cOp addD (cV i) (cD (.int 1)))) oN) ρ) Fine := by
  refine TM.imp (te_add (n := n + 1) (m := n) (te_add (n := n) (m := 1) (te_sl ha to_n (to_s (P := fun d => d = .int v) (te_v hi rfl) fun x hx => ⟨v, hx⟩)) (te_tup1 he) (by omega)) (te_sl ha (to_s (P := fun d => d = .int (v + 1)) (te_op (P := fun d => d = .int v) (te_v hi rfl) (te_d (P := fun d => d = .int 1) rfl) ?_) fun x hx => ⟨_, hx⟩) to_n) (by omega)) fun x hx => hx.fine (by omega)
  rintro _ _ rfl rfl
  exact ⟨_, rfl, rfl⟩
theorem spoilt_ok : SpoiltOk := by
  intro k x g0 hg hok
  have fx : Fine x := hg.fd
  have fk : Fine k := hg.fk
  obtain ⟨z, rfl, hz, hp⟩ := gp_parts hg
  have q1 := okW hz "near" (okS (by decide +kernel))
  refine tf_fn (N := 6) (P := FPair) (ds := [.hnd, .str z, x]) (b := b_law_spoilt) ?_ g0 hok
  refine ts_seq (I := fun ρ1 => ∃ t, ρ1 = [.dt .hnd, .dt (.str z), .dt x, .dt (.int t), .un, .un]) (ts_asg te_takeK ?_) ?_
  · rintro _ ⟨v, rfl, h⟩
    exact ⟨_, rfl, _, rfl, v, rfl⟩
  rintro _ ⟨t, rfl⟩
  refine ts_ifret (B := fun b => b = (t == 0)) (tt_int fun g => by simp) (fun hb => ?_) (fun hb => ?_)
  · exact ts_pair (te_pick (P := Fine) (n := 9) (me_c (te_of (fun g => rfl) (by show fine _ = true; decide +kernel)) (me_c (te_of (fun g => rfl) (by show fine _ = true; decide +kernel)) (me_c (te_of (fun g => rfl) (by show fine _ = true; decide +kernel)) (me_c (te_of (fun g => rfl) (by show fine _ = true; decide +kernel)) (me_c (te_of (fun g => rfl) (by show fine _ = true; decide +kernel)) (me_c (te_of (fun g => rfl) (by show fine _ = true; decide +kernel)) (me_c (te_of (fun g => rfl) (by show fine _ = true; decide +kernel)) (me_c (te_of (fun g => rfl) (by show fine _ = true; decide +kernel)) (me_c (te_of (fun g => rfl) (by show fine _ = true; decide +kernel)) (me_c te_odd me_n))))))))))) (te_v rfl fx)
  have tx : ∃ xs, x = .tup xs := by
    rcases hp with ⟨_, r, ys, rfl, _⟩ | ⟨_, xs, rfl, _⟩ <;> exact ⟨_, rfl⟩
  obtain ⟨xs, rfl⟩ := tx
  obtain ⟨hl, hm⟩ := fine_tup.mp fx
  refine ts_ifret (B := fun b => b = (t == 1)) (tt_int fun g => by simp) (fun hb => ?_) (fun hb => ?_)
  · exact ts_pair (te_v rfl fk) (te_pick (P := Fine) (n := 3) (me_c (te_list (n := 500) (te_v rfl ⟨xs, rfl, hl, hm⟩) (by decide)) (me_c te_odd (me_c (te_of (fun g => rfl) (by show fine _ = true; decide +kernel)) (me_c (te_of (fun g => rfl) (by show fine _ = true; decide +kernel)) me_n)))))
  rcases hp with ⟨rfl, r, ys, e, fr, h1, h5, hy⟩ | ⟨hn, xs', e, h1, h5, hy⟩
  · cases e
    have fys : FineT 5 (.tup ys) := ⟨ys, rfl, h5, fun y h => (hy y h).f⟩
    have ix0 : ∀ ρ : List En, ρ[2]? = some (.dt (.tup [r, .tup ys])) → TM (cOp ixD (cV 2) (cD (.int 0)) ρ) (fun d => d = r) := fun ρ hρ => by
      refine te_of (a := r) (fun g => ?_) rfl
      simp only [cOp, cV, hρ, cD, M.bd]; rfl
    have ix1 : ∀ ρ : List En, ρ[2]? = some (.dt (.tup [r, .tup ys])) → TM (cOp ixD (cV 2) (cD (.int 1)) ρ) (fun d => d = .tup ys) := fun ρ hρ => by
      refine te_of (a := .tup ys) (fun g => ?_) rfl
      simp only [cOp, cV, hρ, cD, M.bd]; rfl
    have fr' : ∀ ρ : List En, ρ[2]? = some (.dt (.tup [r, .tup ys])) → TM (cOp ixD (cV 2) (cD (.int 0)) ρ) Fine := fun ρ hρ => TM.imp (ix0 ρ hρ) fun _ h => h ▸ fr
    have fy' : ∀ ρ : List En, ρ[2]? = some (.dt (.tup [r, .tup ys])) → TM (cOp ixD (cV 2) (cD (.int 1)) ρ) Fine := fun ρ hρ => TM.imp (ix1 ρ hρ) fun _ h => h ▸ fys.fine (by decide)
    have f2 : FineT 2 (.tup [r, .tup ys]) := ⟨_, rfl, by simp, hm⟩
    have q1' : eqD (.str "near") (.str "near") = some (.bl true) := by rw [q1]; simp
    refine ts_ifret (B := fun b => b = true) (tt_int fun g => by simp [q1']) (fun _ => ?_) (fun hb => by cases hb)
    refine ts_ifret (B := fun b => b = (t == 2)) (tt_int fun g => by simp) (fun hb => ?_) (fun hb => ?_)
    · exact ts_pair (te_v rfl fk) (te_pairF (te_pick (P := Fine) (n := 5) (me_c (te_of (fun g => rfl) (by show fine _ = true; decide +kernel)) (me_c (te_of (fun g => rfl) (by show fine _ = true; decide +kernel)) (me_c (te_of (fun g => rfl) (by show fine _ = true; decide +kernel)) (me_c (te_of (fun g => rfl) (by show fine _ = true; decide +kernel)) (me_c (te_of (fun g => rfl) (by show fine _ = true; decide +kernel)) (me_c te_odd me_n))))))) (fy' _ rfl))
    refine ts_ifret (B := fun b => b = (t == 3)) (tt_int fun g => by simp) (fun hb => ?_) (fun hb => ?_)
    · exact ts_pair (te_v rfl fk) (te_pick (P := Fine) (n := 3) (me_c (TM.imp (te_add (n := 2) (m := 1) (te_v rfl f2) (te_tup1 (te_d rfl)) (by decide)) fun x hx => hx.fine (by decide)) (me_c (TM.imp (te_sl (te_v rfl f2) to_n (to_s (P := fun d => d = .int 1) (te_d rfl) fun x hx => ⟨1, hx⟩)) fun x hx => hx.fine (by decide)) (me_c (te_pairF (fr' _ rfl) (te_list (n := 5) (TM.imp (ix1 _ rfl) fun _ h => h ▸ fys) (by decide))) (me_c (te_pairF (fr' _ rfl) (te_of (fun g => rfl) (by show fine _ = true; decide +kernel))) me_n)))))
    refine ts_seq (I := fun ρ1 => ρ1 = [.dt .hnd, .dt (.str "near"), .dt (.tup [r, .tup ys]), .dt (.int t), .un, .dt (.tup ys)]) (ts_asg (ix1 _ rfl) ?_) ?_
    · rintro _ rfl
      exact ⟨_, rfl, _, rfl, rfl⟩
    rintro _ rfl
    refine ts_seq (I := fun ρ1 => ∃ v, ρ1 = [.dt .hnd, .dt (.str "near"), .dt (.tup [r, .tup ys]), .dt (.int t), .dt (.int v), .dt (.tup ys)] ∧ 0 ≤ v ∧ v < (ys.length : Int)) (ts_asg (te_take (m := (ys.length : Int)) (te_of (fun g => rfl) rfl) (by omega) (by omega)) ?_) ?_
    · rintro _ ⟨v, rfl, g0, g1⟩
      exact ⟨_, rfl, _, rfl, v, rfl, g0, g1⟩
    rintro _ ⟨v, rfl, g0, g1⟩
    have hv : v.toNat < ys.length := by omega
    refine ts_ifret (B := fun b => b = (t == 4)) (tt_int fun g => by simp) (fun hb => ?_) (fun hb => ?_)
    · exact ts_pair (te_v rfl fk) (te_pairF (fr' _ rfl) (TM.imp (te_cut6 (te_v rfl rfl) h1 h5 fun y h => (hy y h).f) fun x hx => hx.fine (by decide)))
    · refine ts_pair (te_v rfl fk) (te_pairF (fr' _ rfl) (te_place (n := 5) (by decide) (te_v rfl fys) (te_bent hz (te_of (a := ys[v.toNat]) (fun g => ?_) (hy _ (List.getElem_mem hv)))) rfl))
      simp [ixD_tup g0, hv]
  · cases e
    have fxs : FineT 5 (.tup xs) := ⟨xs, rfl, h5, fun y h => (hy y h).f⟩
    have q1' : eqD (.str z) (.str "near") = some (.bl false) := by rw [q1]; simp [hn]
    refine ts_ifret (B := fun b => b = false) (tt_int fun g => by simp [q1']) (fun hb => by cases hb) (fun _ => ?_)
    refine ts_seq (I := fun ρ1 => ∃ v, ρ1 = [.dt .hnd, .dt (.str z), .dt (.tup xs), .dt (.int t), .dt (.int v), .un] ∧ 0 ≤ v ∧ v < (xs.length : Int)) (ts_asg (te_take (m := (xs.length : Int)) (te_of (fun g => rfl) rfl) (by omega) (by omega)) ?_) ?_
    · rintro _ ⟨v, rfl, g0, g1⟩
      exact ⟨_, rfl, _, rfl, v, rfl, g0, g1⟩
    rintro _ ⟨v, rfl, g0, g1⟩
    have hv : v.toNat < xs.length := by omega
    refine ts_ifret (B := fun b => b = (t == 2)) (tt_int fun g => by simp) (fun hb => ?_) (fun hb => ?_)
    · exact ts_pair (te_v rfl fk) (TM.imp (te_cut6 (te_v rfl rfl) h1 h5 fun y h => (hy y h).f) fun x hx => hx.fine (by decide))
    refine ts_ifret (B := fun b => b = (t == 3)) (tt_int fun g => by simp) (fun hb => ?_) (fun hb => ?_)
    · exact ts_pair (te_v rfl fk) (TM.imp (te_add (n := 5) (m := 5) (te_v rfl fxs) (te_sl (te_v rfl fxs) (to_s (P := fun d => d = .int v) (te_v rfl rfl) fun x hx => ⟨v, hx⟩) (to_s (P := fun d => d = .int (v + 1)) (te_of (fun g => rfl) rfl) fun x hx => ⟨_, hx⟩)) (by decide)) fun x hx => hx.fine (by decide))
    · refine ts_pair (te_v rfl fk) (te_place (n := 5) (by decide) (te_v rfl fxs) (te_bent hz (te_of (a := xs[v.toNat]) (fun g => ?_) (hy _ (List.getElem_mem hv)))) rfl)
      simp [ixD_tup g0, hv]
theorem main (ns : List Int) (_ : ns.length ≤ 63) : ∃ g, b_law (.un :: .dt .hnd :: List.replicate 7 .un) ⟨ns, 0, 0, 1, 0⟩ = some (.ok (.rt (.bl true)) g) := main_of some_ok spoilt_ok ns
end Kk01
set_option Elab.async false
set_option linter.all false
set_option maxRecDepth 100000
set_option maxHeartbeats 0
namespace Kk01
open PySem PySem.Spec PyProof.Rows L2 FD
/-! ### the text of the errors -/
abbrev s_BadPlay_exc : Stmt := inClass (top 2) 0
theorem sc_BadPlay_exc : FnScope ["self", "part"] ["self", "part"] (defScope s_BadPlay_exc) := ⟨rfl, rfl, rfl, by decide +kernel, rfl, by decide +kernel, by decide +kernel⟩
/-! ### the defs, the facts -/
def D_BadPlay_init : He.DefD := ⟨("BadPlay", some "__init__"), "__init__", "BadPlay.__init__", defArgs s_BadPlay_exc, defBody s_BadPlay_exc, defScope s_BadPlay_exc, [], []⟩
def D_many_hands : He.DefD := ⟨("many_hands", none), "many_hands", "many_hands", defArgs s_many_hands, defBody s_many_hands, defScope s_many_hands, [], []⟩
def D_law_is_integer : He.DefD := ⟨("_law_is_integer", none), "_law_is_integer", "_law_is_integer", defArgs s_law_is_integer, defBody s_law_is_integer, defScope s_law_is_integer, [], []⟩
def D_law_same : He.DefD := ⟨("_law_same", none), "_law_same", "_law_same", defArgs s_law_same, defBody s_law_same, defScope s_law_same, [], []⟩
def D_law_take : He.DefD := ⟨("_law_take", none), "_law_take", "_law_take", defArgs s_law_take, defBody s_law_take, defScope s_law_take, [], []⟩
def D_law_pick : He.DefD := ⟨("_law_pick", none), "_law_pick", "_law_pick", defArgs s_law_pick, defBody s_law_pick, defScope s_law_pick, [], []⟩
def D_law_script : He.DefD := ⟨("_law_script", none), "_law_script", "_law_script", defArgs s_law_script, defBody s_law_script, defScope s_law_script, [], []⟩
def D_law_manner : He.DefD := ⟨("_law_manner", none), "_law_manner", "_law_manner", defArgs s_law_manner, defBody s_law_manner, defScope s_law_manner, [], []⟩
def D_law_some_play : He.DefD := ⟨("_law_some_play", none), "_law_some_play", "_law_some_play", defArgs s_law_some_play, defBody s_law_some_play, defScope s_law_some_play, [], []⟩
def D_law_many : He.DefD := ⟨("_law_many", none), "_law_many", "_law_many", defArgs s_law_many, defBody s_law_many, defScope s_law_many, [], []⟩
def D_law_is_within : He.DefD := ⟨("_law_is_within", none), "_law_is_within", "_law_is_within", defArgs s_law_is_within, defBody s_law_is_within, defScope s_law_is_within, [], []⟩
def D_law_deed_right : He.DefD := ⟨("_law_deed_right", none), "_law_deed_right", "_law_deed_right", defArgs s_law_deed_right, defBody s_law_deed_right, defScope s_law_deed_right, [], []⟩
def D_law_lot_right : He.DefD := ⟨("_law_lot_right", none), "_law_lot_right", "_law_lot_right", defArgs s_law_lot_right, defBody s_law_lot_right, defScope s_law_lot_right, [], []⟩
def D_law_item_right : He.DefD := ⟨("_law_item_right", none), "_law_item_right", "_law_item_right", defArgs s_law_item_right, defBody s_law_item_right, defScope s_law_item_right, [], []⟩
def D_law_inputs_right : He.DefD := ⟨("_law_inputs_right", none), "_law_inputs_right", "_law_inputs_right", defArgs s_law_inputs_right, defBody s_law_inputs_right, defScope s_law_inputs_right, [], []⟩
def D_law_bad : He.DefD := ⟨("_law_bad", none), "_law_bad", "_law_bad", defArgs s_law_bad, defBody s_law_bad, defScope s_law_bad, [], []⟩
def D_is_word_of : He.DefD := ⟨("is_word_of", none), "is_word_of", "is_word_of", defArgs s_is_word_of, defBody s_is_word_of, defScope s_is_word_of, [], []⟩
def D_is_whole : He.DefD := ⟨("is_whole", none), "is_whole", "is_whole", defArgs s_is_whole, defBody s_is_whole, defScope s_is_whole, [], []⟩
def D_is_whole_within : He.DefD := ⟨("is_whole_within", none), "is_whole_within", "is_whole_within", defArgs s_is_whole_within, defBody s_is_whole_within, defScope s_is_whole_within, [], []⟩
def D_is_number_below : He.DefD := ⟨("is_number_below", none), "is_number_below", "is_number_below", defArgs s_is_number_below, defBody s_is_number_below, defScope s_is_number_below, [], []⟩
def D_is_lot_below : He.DefD := ⟨("is_lot_below", none), "is_lot_below", "is_lot_below", defArgs s_is_lot_below, defBody s_is_lot_below, defScope s_is_lot_below, [], []⟩
def D_is_row_of_hands : He.DefD := ⟨("is_row_of_hands", none), "is_row_of_hands", "is_row_of_hands", defArgs s_is_row_of_hands, defBody s_is_row_of_hands, defScope s_is_row_of_hands, [], []⟩
def D_is_near : He.DefD := ⟨("is_near", none), "is_near", "is_near", defArgs s_is_near, defBody s_is_near, defScope s_is_near, [], []⟩
def D_is_deed : He.DefD := ⟨("is_deed", none), "is_deed", "is_deed", defArgs s_is_deed, defBody s_is_deed, defScope s_is_deed, [], []⟩
def D_is_script : He.DefD := ⟨("is_script", none), "is_script", "is_script", defArgs s_is_script, defBody s_is_script, defScope s_is_script, [], []⟩
def D_is_inputs : He.DefD := ⟨("is_inputs", none), "is_inputs", "is_inputs", defArgs s_is_inputs, defBody s_is_inputs, defScope s_is_inputs, [], []⟩
def D_MK : He.DefD := ⟨("Play", some "__init__"), "__init__", "Play.__init__", defArgs s_Play_init, defBody s_Play_init, defScope s_Play_init, [], []⟩
def D_EQ : He.DefD := ⟨("Play", some "__eq__"), "__eq__", "Play.__eq__", defArgs s_Play_eq, defBody s_Play_eq, defScope s_Play_eq, [], []⟩
def D_law_odd : He.DefD := ⟨("_law_odd", none), "_law_odd", "_law_odd", defArgs s_law_odd, defBody s_law_odd, defScope s_law_odd, [], []⟩
def D_law_bent_item : He.DefD := ⟨("_law_bent_item", none), "_law_bent_item", "_law_bent_item", defArgs s_law_bent_item, defBody s_law_bent_item, defScope s_law_bent_item, [], []⟩
def D_law_spoilt : He.DefD := ⟨("_law_spoilt", none), "_law_spoilt", "_law_spoilt", defArgs s_law_spoilt, defBody s_law_spoilt, defScope s_law_spoilt, [], []⟩
def D_law_made : He.DefD := ⟨("_law_made", none), "_law_made", "_law_made", defArgs s_law_made, defBody s_law_made, defScope s_law_made, [], []⟩
def D_hand : He.DefD := ⟨("_law_hand", none), "_law_hand", "_law_hand", defArgs s_law_hand, defBody s_law_hand, defScope s_law_hand, [], []⟩
def D_law : He.DefD := ⟨("law", none), "law", "law", defArgs s_law, defBody s_law, defScope s_law, [], []⟩
def fns : List He.DefD := [D_BadPlay_init, D_many_hands, D_law_is_integer, D_law_same, D_law_take, D_law_pick, D_law_script, D_law_manner, D_law_some_play, D_law_many, D_law_is_within, D_law_deed_right, D_law_lot_right, D_law_item_right, D_law_inputs_right, D_law_bad, D_is_word_of, D_is_whole, D_is_whole_within, D_is_number_below, D_is_lot_below, D_is_row_of_hands, D_is_near, D_is_deed, D_is_script, D_is_inputs, D_MK, D_EQ, D_law_odd, D_law_bent_item, D_law_spoilt, D_law_made, D_hand, D_law]
def fas : List He.Fa := [.free "all", .free "bool", .free "int", .free "isinstance", .free "len", .free "list", .free "range", .free "set", .free "sorted", .free "str", .free "tuple", .free "type", .free "zip", .int "LOT_LIMIT" 20, .int "MOST_DEEDS" 6, .int "MOST_HANDS" 5, .int "MOST_ROUNDS" 6, .int "NEAR_MOST" 1000, .int "NUMBER_LIMIT" 1000, .glo "Play", .cls "Play", .noat "Play" "kind", .noat "Play" "inputs", .glo "many_hands", .glo "_law_is_integer", .glo "_law_same", .glo "_law_take", .glo "_law_pick", .glo "_law_script", .glo "_law_manner", .glo "_law_some_play", .glo "_law_many", .glo "_law_is_within", .glo "_law_deed_right", .glo "_law_lot_right", .glo "_law_item_right", .glo "_law_inputs_right", .glo "_law_bad", .glo "is_word_of", .glo "is_whole", .glo "is_whole_within", .glo "is_number_below", .glo "is_lot_below", .glo "is_row_of_hands", .glo "is_near", .glo "is_deed", .glo "is_script", .glo "is_inputs", .mkr "Play", .meth "Play" "__eq__", .glo "_law_odd", .glo "_law_bent_item", .glo "_law_spoilt", .glo "_law_made", .glo "_law_hand", .glo "law"]
def exs (K : PySem.W.Frag) : List Bool := [ctB K "KINDS" ["sweep", "twice", "borrow", "levels", "names", "near", "chain"], ctB K "MANNERS" ["sweep", "twice", "borrow"], excB K "BadPlay" "part", clsIB K "Play", decide (PySem.W.subIn K (.type "tuple") (.ref (He.ga K "Play")) = some false)]
def ex (K : PySem.W.Frag) : Bool := (exs K).all id
theorem ex_at {K : PySem.W.Frag} (i : Nat) (e : ex K = true) {b : Bool} (h : (exs K)[i]? = some b := by rfl) : b = true := List.all_eq_true.mp e b (List.mem_of_getElem? h)
abbrev R : PySem.W.OpenRow := PySem.W.OpenLaw.row PySem.Challenge.rw_onepicture_k01_plays_judged
abbrev hk : PySem.W.Hook := hookF 5 fas fns ex
def ob (s : PySem.W.SharedT) : AlF := obsF 5 fas fns ex (HandSHeadRun.getT s)
theorem ob_eq (s : PySem.W.SharedT) : ob s = hk.obs s.abs := obsF_eq (HandSHeadRun.getT_eq s)
abbrev ls0 : List Str := ["PictureError", "BadPlay", "is_whole", "is_whole_within", "is_number_below", "is_word_of", "is_lot_below", "MANNERS", "KINDS", "MOST_HANDS", "MOST_DEEDS", "MOST_ROUNDS", "NEAR_MOST", "NUMBER_LIMIT", "LOT_LIMIT", "Play", "many_hands", "is_inputs", "is_row_of_hands", "is_near", "is_script", "is_deed", "_law_hand", "_law_take", "_law_pick", "_law_is_integer", "_law_is_within", "_law_same", "_law_odd", "_law_script"]
abbrev ls1 : List Str := ["_law_manner", "_law_some_play", "_law_many", "_law_deed_right", "_law_lot_right", "_law_item_right", "_law_inputs_right", "_law_bad", "_law_bent_item", "_law_spoilt", "_law_made"]
abbrev ls : List Str := ls0 ++ ls1
theorem run (w : World) : HandSHeadRun.RunEq R (PySem.W.view R.prog [45]) hk ob 4000 ls w := by
  intro os
  kernel_rfl
theorem facts {P : Program} {w : World} {K : PySem.W.Frag} {h : Heap} {mg : Str → Option Value} {f : Addr} (X : K.In h) (G : h.Ns mainGlobals mg) (hfa : mg ("law" : Str) = some (.ref f)) (c : He.SaysD fas fns K) (e : ex K = true) :
    ∃ fd : FuncData, (∀ (s : Shared) (v : Value), BindsTo s fd ⟨[v], []⟩ [("script", v)]) ∧ ∀ base : Heap, K.In base → base.Ns mainGlobals mg → FnOk P w K mg base CX0 47 f fd ["script"] (spLaw K) := by
  obtain ⟨fd, F_law⟩ := c.def_ 33 (d := D_law) rfl
  have e0 := hfa.symm.trans (He.glo_ok X G (c.fact 55 (f := .glo "law") rfl))
  cases e0
  have bl := FunD.bindsA (ps := ["script"]) F_law (fun _ _ _ _ _ _ us hl => match us, hl with | [_], _ => rfl)
  refine ⟨fd, fun s v => bl s [v] rfl, fun base _ _ => ?_⟩
  obtain ⟨fd_BadPlay, F_BadPlay⟩ := c.def_ 0 (d := D_BadPlay_init) rfl
  have b_BadPlay : Binds K fd_BadPlay ["self", "part"] [] := FunD.bindsN F_BadPlay (fun _ _ _ _ _ _ us hl => match us, hl with | [_, _], _ => rfl)
  have hmP : mg "Play" = some (.ref (He.ga K "Play")) := He.glo_ok X G (c.fact 19 (f := .glo "Play") rfl)
  have clP : Cls K (He.ga K "Play") := He.cls_ok (c.fact 20 (f := .cls "Play") rfl)
  have T : Txt P w K mg base := {
      b_all := He.free_ok X G (c.fact 0 (f := .free "all") rfl)
      b_bool := He.free_ok X G (c.fact 1 (f := .free "bool") rfl)
      b_int := He.free_ok X G (c.fact 2 (f := .free "int") rfl)
      b_isinstance := He.free_ok X G (c.fact 3 (f := .free "isinstance") rfl)
      b_len := He.free_ok X G (c.fact 4 (f := .free "len") rfl)
      b_list := He.free_ok X G (c.fact 5 (f := .free "list") rfl)
      b_range := He.free_ok X G (c.fact 6 (f := .free "range") rfl)
      b_set := He.free_ok X G (c.fact 7 (f := .free "set") rfl)
      b_sorted := He.free_ok X G (c.fact 8 (f := .free "sorted") rfl)
      b_str := He.free_ok X G (c.fact 9 (f := .free "str") rfl)
      b_tuple := He.free_ok X G (c.fact 10 (f := .free "tuple") rfl)
      b_type := He.free_ok X G (c.fact 11 (f := .free "type") rfl)
      b_zip := He.free_ok X G (c.fact 12 (f := .free "zip") rfl)
      c_KINDS := ctB_ok (zs := ["sweep", "twice", "borrow", "levels", "names", "near", "chain"]) X G (ex_at 0 e)
      c_LOT_LIMIT := ciOk X G (c.fact 13 (f := .int "LOT_LIMIT" 20) rfl)
      c_MANNERS := ctB_ok (zs := ["sweep", "twice", "borrow"]) X G (ex_at 1 e)
      c_MOST_DEEDS := ciOk X G (c.fact 14 (f := .int "MOST_DEEDS" 6) rfl)
      c_MOST_HANDS := ciOk X G (c.fact 15 (f := .int "MOST_HANDS" 5) rfl)
      c_MOST_ROUNDS := ciOk X G (c.fact 16 (f := .int "MOST_ROUNDS" 6) rfl)
      c_NEAR_MOST := ciOk X G (c.fact 17 (f := .int "NEAR_MOST" 1000) rfl)
      c_NUMBER_LIMIT := ciOk X G (c.fact 18 (f := .int "NUMBER_LIMIT" 1000) rfl)
      x_BadPlay := excB_ok X G (ex_at 2 e) (fun TC => exc_init (fun_of (st := s_BadPlay_exc) F_BadPlay) TC (excB_no (ex_at 2 e)) sc_BadPlay_exc rfl rfl rfl (by decide) (by decide)) b_BadPlay
      play := fun C h => (by cases hmP.symm.trans h; exact clsIB_ok clP (ex_at 3 e))
      play_kind := fun C h => (by cases hmP.symm.trans h; exact He.noat_ok (c.fact 21 (f := .noat "Play" "kind") rfl))
      play_inputs := fun C h => (by cases hmP.symm.trans h; exact He.noat_ok (c.fact 22 (f := .noat "Play" "inputs") rfl))
    }
  obtain ⟨fd_many_hands, F_many_hands⟩ := c.def_ 1 (d := D_many_hands) rfl
  have A_many_hands : DefAt K mg "many_hands" s_many_hands ["play"] := ⟨_, fd_many_hands, fun_of F_many_hands, He.glo_ok X G (c.fact 23 (f := .glo "many_hands") rfl), FunD.bindsN F_many_hands (fun _ _ _ _ _ _ us hl => match us, hl with | [_], _ => rfl)⟩
  have d_many_hands := d_many_hands (w := w) (base := base) T A_many_hands 
  obtain ⟨fd_law_is_integer, F_law_is_integer⟩ := c.def_ 2 (d := D_law_is_integer) rfl
  have A_law_is_integer : DefAt K mg "_law_is_integer" s_law_is_integer ["thing"] := ⟨_, fd_law_is_integer, fun_of F_law_is_integer, He.glo_ok X G (c.fact 24 (f := .glo "_law_is_integer") rfl), FunD.bindsN F_law_is_integer (fun _ _ _ _ _ _ us hl => match us, hl with | [_], _ => rfl)⟩
  have d_law_is_integer := d_law_is_integer (w := w) (base := base) T A_law_is_integer 
  obtain ⟨fd_law_same, F_law_same⟩ := c.def_ 3 (d := D_law_same) rfl
  have A_law_same : DefAt K mg "_law_same" s_law_same ["actual", "due"] := ⟨_, fd_law_same, fun_of F_law_same, He.glo_ok X G (c.fact 25 (f := .glo "_law_same") rfl), FunD.bindsN F_law_same (fun _ _ _ _ _ _ us hl => match us, hl with | [_, _], _ => rfl)⟩
  have d_law_same := d_law_same (w := w) (base := base) T A_law_same d_law_is_integer
  obtain ⟨fd_law_take, F_law_take⟩ := c.def_ 4 (d := D_law_take) rfl
  have A_law_take : DefAt K mg "_law_take" s_law_take ["hand", "many"] := ⟨_, fd_law_take, fun_of F_law_take, He.glo_ok X G (c.fact 26 (f := .glo "_law_take") rfl), FunD.bindsN F_law_take (fun _ _ _ _ _ _ us hl => match us, hl with | [_, _], _ => rfl)⟩
  have d_law_take := d_law_take (w := w) (base := base) T A_law_take 
  obtain ⟨fd_law_pick, F_law_pick⟩ := c.def_ 5 (d := D_law_pick) rfl
  have A_law_pick : DefAt K mg "_law_pick" s_law_pick ["hand", "things"] := ⟨_, fd_law_pick, fun_of F_law_pick, He.glo_ok X G (c.fact 27 (f := .glo "_law_pick") rfl), FunD.bindsN F_law_pick (fun _ _ _ _ _ _ us hl => match us, hl with | [_, _], _ => rfl)⟩
  have d_law_pick := d_law_pick (w := w) (base := base) T A_law_pick d_law_take
  obtain ⟨fd_law_script, F_law_script⟩ := c.def_ 6 (d := D_law_script) rfl
  have A_law_script : DefAt K mg "_law_script" s_law_script ["hand", "most"] := ⟨_, fd_law_script, fun_of F_law_script, He.glo_ok X G (c.fact 28 (f := .glo "_law_script") rfl), FunD.bindsN F_law_script (fun _ _ _ _ _ _ us hl => match us, hl with | [_, _], _ => rfl)⟩
  have d_law_script := d_law_script (w := w) (base := base) T A_law_script d_law_take d_law_pick
  obtain ⟨fd_law_manner, F_law_manner⟩ := c.def_ 7 (d := D_law_manner) rfl
  have A_law_manner : DefAt K mg "_law_manner" s_law_manner ["hand"] := ⟨_, fd_law_manner, fun_of F_law_manner, He.glo_ok X G (c.fact 29 (f := .glo "_law_manner") rfl), FunD.bindsN F_law_manner (fun _ _ _ _ _ _ us hl => match us, hl with | [_], _ => rfl)⟩
  have d_law_manner := d_law_manner (w := w) (base := base) T A_law_manner d_law_pick d_law_script
  obtain ⟨fd_law_some_play, F_law_some_play⟩ := c.def_ 8 (d := D_law_some_play) rfl
  have A_law_some_play : DefAt K mg "_law_some_play" s_law_some_play ["hand"] := ⟨_, fd_law_some_play, fun_of F_law_some_play, He.glo_ok X G (c.fact 30 (f := .glo "_law_some_play") rfl), FunD.bindsN F_law_some_play (fun _ _ _ _ _ _ us hl => match us, hl with | [_], _ => rfl)⟩
  have d_law_some_play := d_law_some_play (w := w) (base := base) T A_law_some_play d_law_take d_law_pick d_law_manner
  obtain ⟨fd_law_many, F_law_many⟩ := c.def_ 9 (d := D_law_many) rfl
  have A_law_many : DefAt K mg "_law_many" s_law_many ["kind", "inputs"] := ⟨_, fd_law_many, fun_of F_law_many, He.glo_ok X G (c.fact 31 (f := .glo "_law_many") rfl), FunD.bindsN F_law_many (fun _ _ _ _ _ _ us hl => match us, hl with | [_, _], _ => rfl)⟩
  have d_law_many := d_law_many (w := w) (base := base) T A_law_many 
  obtain ⟨fd_law_is_within, F_law_is_within⟩ := c.def_ 10 (d := D_law_is_within) rfl
  have A_law_is_within : DefAt K mg "_law_is_within" s_law_is_within ["thing", "least", "most"] := ⟨_, fd_law_is_within, fun_of F_law_is_within, He.glo_ok X G (c.fact 32 (f := .glo "_law_is_within") rfl), FunD.bindsN F_law_is_within (fun _ _ _ _ _ _ us hl => match us, hl with | [_, _, _], _ => rfl)⟩
  have d_law_is_within := d_law_is_within (w := w) (base := base) T A_law_is_within d_law_is_integer
  obtain ⟨fd_law_deed_right, F_law_deed_right⟩ := c.def_ 11 (d := D_law_deed_right) rfl
  have A_law_deed_right : DefAt K mg "_law_deed_right" s_law_deed_right ["thing"] := ⟨_, fd_law_deed_right, fun_of F_law_deed_right, He.glo_ok X G (c.fact 33 (f := .glo "_law_deed_right") rfl), FunD.bindsN F_law_deed_right (fun _ _ _ _ _ _ us hl => match us, hl with | [_], _ => rfl)⟩
  have d_law_deed_right := d_law_deed_right (w := w) (base := base) T A_law_deed_right d_law_is_within
  obtain ⟨fd_law_lot_right, F_law_lot_right⟩ := c.def_ 12 (d := D_law_lot_right) rfl
  have A_law_lot_right : DefAt K mg "_law_lot_right" s_law_lot_right ["thing"] := ⟨_, fd_law_lot_right, fun_of F_law_lot_right, He.glo_ok X G (c.fact 34 (f := .glo "_law_lot_right") rfl), FunD.bindsN F_law_lot_right (fun _ _ _ _ _ _ us hl => match us, hl with | [_], _ => rfl)⟩
  have d_law_lot_right := d_law_lot_right (w := w) (base := base) T A_law_lot_right d_law_is_within
  obtain ⟨fd_law_item_right, F_law_item_right⟩ := c.def_ 13 (d := D_law_item_right) rfl
  have A_law_item_right : DefAt K mg "_law_item_right" s_law_item_right ["kind", "thing"] := ⟨_, fd_law_item_right, fun_of F_law_item_right, He.glo_ok X G (c.fact 35 (f := .glo "_law_item_right") rfl), FunD.bindsN F_law_item_right (fun _ _ _ _ _ _ us hl => match us, hl with | [_, _], _ => rfl)⟩
  have d_law_item_right := d_law_item_right (w := w) (base := base) T A_law_item_right d_law_deed_right d_law_lot_right d_law_is_within
  obtain ⟨fd_law_inputs_right, F_law_inputs_right⟩ := c.def_ 14 (d := D_law_inputs_right) rfl
  have A_law_inputs_right : DefAt K mg "_law_inputs_right" s_law_inputs_right ["kind", "thing"] := ⟨_, fd_law_inputs_right, fun_of F_law_inputs_right, He.glo_ok X G (c.fact 36 (f := .glo "_law_inputs_right") rfl), FunD.bindsN F_law_inputs_right (fun _ _ _ _ _ _ us hl => match us, hl with | [_, _], _ => rfl)⟩
  have d_law_inputs_right := d_law_inputs_right (w := w) (base := base) T A_law_inputs_right d_law_is_within d_law_item_right
  obtain ⟨fd_law_bad, F_law_bad⟩ := c.def_ 15 (d := D_law_bad) rfl
  have A_law_bad : DefAt K mg "_law_bad" s_law_bad ["kind", "inputs"] := ⟨_, fd_law_bad, fun_of F_law_bad, He.glo_ok X G (c.fact 37 (f := .glo "_law_bad") rfl), FunD.bindsN F_law_bad (fun _ _ _ _ _ _ us hl => match us, hl with | [_, _], _ => rfl)⟩
  have d_law_bad := d_law_bad (w := w) (base := base) T A_law_bad d_law_inputs_right
  obtain ⟨fd_is_word_of, F_is_word_of⟩ := c.def_ 16 (d := D_is_word_of) rfl
  have A_is_word_of : DefAt K mg "is_word_of" s_is_word_of ["words", "thing"] := ⟨_, fd_is_word_of, fun_of F_is_word_of, He.glo_ok X G (c.fact 38 (f := .glo "is_word_of") rfl), FunD.bindsN F_is_word_of (fun _ _ _ _ _ _ us hl => match us, hl with | [_, _], _ => rfl)⟩
  have d_is_word_of := d_is_word_of (w := w) (base := base) T A_is_word_of 
  obtain ⟨fd_is_whole, F_is_whole⟩ := c.def_ 17 (d := D_is_whole) rfl
  have A_is_whole : DefAt K mg "is_whole" s_is_whole ["thing"] := ⟨_, fd_is_whole, fun_of F_is_whole, He.glo_ok X G (c.fact 39 (f := .glo "is_whole") rfl), FunD.bindsN F_is_whole (fun _ _ _ _ _ _ us hl => match us, hl with | [_], _ => rfl)⟩
  have d_is_whole := d_is_whole (w := w) (base := base) T A_is_whole 
  obtain ⟨fd_is_whole_within, F_is_whole_within⟩ := c.def_ 18 (d := D_is_whole_within) rfl
  have A_is_whole_within : DefAt K mg "is_whole_within" s_is_whole_within ["least", "most", "thing"] := ⟨_, fd_is_whole_within, fun_of F_is_whole_within, He.glo_ok X G (c.fact 40 (f := .glo "is_whole_within") rfl), FunD.bindsN F_is_whole_within (fun _ _ _ _ _ _ us hl => match us, hl with | [_, _, _], _ => rfl)⟩
  have d_is_whole_within := d_is_whole_within (w := w) (base := base) T A_is_whole_within d_is_whole
  obtain ⟨fd_is_number_below, F_is_number_below⟩ := c.def_ 19 (d := D_is_number_below) rfl
  have A_is_number_below : DefAt K mg "is_number_below" s_is_number_below ["limit", "thing"] := ⟨_, fd_is_number_below, fun_of F_is_number_below, He.glo_ok X G (c.fact 41 (f := .glo "is_number_below") rfl), FunD.bindsN F_is_number_below (fun _ _ _ _ _ _ us hl => match us, hl with | [_, _], _ => rfl)⟩
  have d_is_number_below := d_is_number_below (w := w) (base := base) T A_is_number_below d_is_whole_within
  obtain ⟨fd_is_lot_below, F_is_lot_below⟩ := c.def_ 20 (d := D_is_lot_below) rfl
  have A_is_lot_below : DefAt K mg "is_lot_below" s_is_lot_below ["limit", "thing"] := ⟨_, fd_is_lot_below, fun_of F_is_lot_below, He.glo_ok X G (c.fact 42 (f := .glo "is_lot_below") rfl), FunD.bindsN F_is_lot_below (fun _ _ _ _ _ _ us hl => match us, hl with | [_, _], _ => rfl)⟩
  have d_is_lot_below := d_is_lot_below (w := w) (base := base) T A_is_lot_below d_is_number_below
  obtain ⟨fd_is_row_of_hands, F_is_row_of_hands⟩ := c.def_ 21 (d := D_is_row_of_hands) rfl
  have A_is_row_of_hands : DefAt K mg "is_row_of_hands" s_is_row_of_hands ["thing"] := ⟨_, fd_is_row_of_hands, fun_of F_is_row_of_hands, He.glo_ok X G (c.fact 43 (f := .glo "is_row_of_hands") rfl), FunD.bindsN F_is_row_of_hands (fun _ _ _ _ _ _ us hl => match us, hl with | [_], _ => rfl)⟩
  have d_is_row_of_hands := d_is_row_of_hands (w := w) (base := base) T A_is_row_of_hands 
  obtain ⟨fd_is_near, F_is_near⟩ := c.def_ 22 (d := D_is_near) rfl
  have A_is_near : DefAt K mg "is_near" s_is_near ["thing"] := ⟨_, fd_is_near, fun_of F_is_near, He.glo_ok X G (c.fact 44 (f := .glo "is_near") rfl), FunD.bindsN F_is_near (fun _ _ _ _ _ _ us hl => match us, hl with | [_], _ => rfl)⟩
  have d_is_near := d_is_near (w := w) (base := base) T A_is_near d_is_whole_within d_is_row_of_hands
  obtain ⟨fd_is_deed, F_is_deed⟩ := c.def_ 23 (d := D_is_deed) rfl
  have A_is_deed : DefAt K mg "is_deed" s_is_deed ["thing"] := ⟨_, fd_is_deed, fun_of F_is_deed, He.glo_ok X G (c.fact 45 (f := .glo "is_deed") rfl), FunD.bindsN F_is_deed (fun _ _ _ _ _ _ us hl => match us, hl with | [_], _ => rfl)⟩
  have d_is_deed := d_is_deed (w := w) (base := base) T A_is_deed d_is_word_of d_is_number_below
  obtain ⟨fd_is_script, F_is_script⟩ := c.def_ 24 (d := D_is_script) rfl
  have A_is_script : DefAt K mg "is_script" s_is_script ["thing"] := ⟨_, fd_is_script, fun_of F_is_script, He.glo_ok X G (c.fact 46 (f := .glo "is_script") rfl), FunD.bindsN F_is_script (fun _ _ _ _ _ _ us hl => match us, hl with | [_], _ => rfl)⟩
  have d_is_script := d_is_script (w := w) (base := base) T A_is_script d_is_deed
  obtain ⟨fd_is_inputs, F_is_inputs⟩ := c.def_ 25 (d := D_is_inputs) rfl
  have A_is_inputs : DefAt K mg "is_inputs" s_is_inputs ["kind", "thing"] := ⟨_, fd_is_inputs, fun_of F_is_inputs, He.glo_ok X G (c.fact 47 (f := .glo "is_inputs") rfl), FunD.bindsN F_is_inputs (fun _ _ _ _ _ _ us hl => match us, hl with | [_, _], _ => rfl)⟩
  have d_is_inputs := d_is_inputs (w := w) (base := base) T A_is_inputs d_is_near d_is_row_of_hands d_is_script d_is_lot_below d_is_number_below
  obtain ⟨fd_MK, F_MK⟩ := c.def_ 26 (d := D_MK) rfl
  have d_MK := d_MK (w := w) (base := base) T (fun_of (st := s_Play_init) F_MK) hmP (He.mkr_ok (c.fact 48 (f := .mkr "Play") rfl)) (FunD.bindsN F_MK (fun _ _ _ _ _ _ us hl => match us, hl with | [_, _, _], _ => rfl)) d_is_word_of d_is_inputs
  obtain ⟨fd_EQ, F_EQ⟩ := c.def_ 27 (d := D_EQ) rfl
  have mEQ := He.meth_ok (c.fact 49 (f := .meth "Play" "__eq__") rfl)
  have d_EQ := d_EQ (w := w) (base := base) T (fun_of (st := s_Play_eq) F_EQ) hmP (FunD.bindsN F_EQ (fun _ _ _ _ _ _ us hl => match us, hl with | [_, _], _ => rfl)) mEQ.at_ mEQ.fn (of_decide_eq_true (ex_at 4 e)) 
  obtain ⟨fd_law_odd, F_law_odd⟩ := c.def_ 28 (d := D_law_odd) rfl
  have A_law_odd : DefAt K mg "_law_odd" s_law_odd ["hand"] := ⟨_, fd_law_odd, fun_of F_law_odd, He.glo_ok X G (c.fact 50 (f := .glo "_law_odd") rfl), FunD.bindsN F_law_odd (fun _ _ _ _ _ _ us hl => match us, hl with | [_], _ => rfl)⟩
  have d_law_odd := d_law_odd (w := w) (base := base) T A_law_odd d_law_take d_MK
  obtain ⟨fd_law_bent_item, F_law_bent_item⟩ := c.def_ 29 (d := D_law_bent_item) rfl
  have A_law_bent_item : DefAt K mg "_law_bent_item" s_law_bent_item ["hand", "kind", "item"] := ⟨_, fd_law_bent_item, fun_of F_law_bent_item, He.glo_ok X G (c.fact 51 (f := .glo "_law_bent_item") rfl), FunD.bindsN F_law_bent_item (fun _ _ _ _ _ _ us hl => match us, hl with | [_, _, _], _ => rfl)⟩
  have d_law_bent_item := d_law_bent_item (w := w) (base := base) T A_law_bent_item d_law_take d_law_odd d_law_pick
  obtain ⟨fd_law_spoilt, F_law_spoilt⟩ := c.def_ 30 (d := D_law_spoilt) rfl
  have A_law_spoilt : DefAt K mg "_law_spoilt" s_law_spoilt ["hand", "kind", "inputs"] := ⟨_, fd_law_spoilt, fun_of F_law_spoilt, He.glo_ok X G (c.fact 52 (f := .glo "_law_spoilt") rfl), FunD.bindsN F_law_spoilt (fun _ _ _ _ _ _ us hl => match us, hl with | [_, _, _], _ => rfl)⟩
  have d_law_spoilt := d_law_spoilt (w := w) (base := base) T A_law_spoilt d_law_take d_law_odd d_law_pick d_law_bent_item
  obtain ⟨fd_law_made, F_law_made⟩ := c.def_ 31 (d := D_law_made) rfl
  have A_law_made : DefAt K mg "_law_made" s_law_made ["kind", "inputs"] := ⟨_, fd_law_made, fun_of F_law_made, He.glo_ok X G (c.fact 53 (f := .glo "_law_made") rfl), FunD.bindsN F_law_made (fun _ _ _ _ _ _ us hl => match us, hl with | [_, _], _ => rfl)⟩
  have d_law_made := d_law_made (w := w) (base := base) T A_law_made d_MK
  obtain ⟨fd_hand, F_hand⟩ := c.def_ 32 (d := D_hand) rfl
  exact d_law T (fun_of F_law) (fun_of F_hand) (He.glo_ok X G (c.fact 54 (f := .glo "_law_hand") rfl)) (FunD.bindsN F_hand (fun _ _ _ _ _ _ us hl => match us, hl with | [_], _ => rfl)) (He.free_ok X G (c.fact 5 (f := .free "list") rfl)) d_law_some_play d_law_many d_many_hands d_law_same d_law_spoilt d_law_bad d_law_made d_MK d_EQ main
end Kk01
open PySem PySem.W PySem.Calls PyProof.Rows
theorem PySem.Challenge.cw_onepicture_k01_plays_judged_holds : PySem.Challenge.rw_onepicture_k01_plays_judged.Holds := by
  w_on; o_law
  refine HandSHeadRun.head_any (r := OpenLaw.row PySem.Challenge.rw_onepicture_k01_plays_judged) (q := view (OpenLaw.row PySem.Challenge.rw_onepicture_k01_plays_judged).prog [45]) (H := Kk01.hk) (ob := Kk01.ob) (M := 4000) (loose := Kk01.ls) (d := HandSHeadRun.topDef (OpenLaw.row PySem.Challenge.rw_onepicture_k01_plays_judged).prog 45) (kwd := []) Kk01.ob_eq
    (by kernel_rfl) (fun s => by kernel_rfl) Kk01.run (by kernel_rfl) (by kernel_rfl) (by kernel_rfl) (by rfl) (by first | assumption | decide +kernel) (by decide +kernel) ⟨rfl, rfl, rfl, rfl, rfl, by decide +kernel⟩ ?hw ?hc
  case hw => w_witness2
  case hc =>
    refine L2.walk_ofE (l := PySem.Challenge.rw_onepicture_k01_plays_judged) (n := 63) (k := 47) (x := "script") (CX := L2.CX0) rfl (by decide) (by kernel_rfl) ⟨rfl, by decide, by decide⟩ ?F (fun _ _ _ _ z => z)
    intro w mg fa h Y G hmg0
    obtain ⟨K, KX, c, e⟩ := Y
    have hmg : mg ("law" : PySem.Str) = some (.ref fa) := by
      have e : (HandSHeadRun.topDef (OpenLaw.row PySem.Challenge.rw_onepicture_k01_plays_judged).prog 45).name = ("law" : PySem.Str) := by kernel_rfl
      rw [← e]
      exact hmg0
    obtain ⟨fd, hb, hF⟩ := Kk01.facts (P := (PySem.Challenge.rw_onepicture_k01_plays_judged).prog) (w := w) KX G hmg c e
    exact ⟨K, fd, FD.spLaw K, KX, hb, fun H a ns hl _ hS => ⟨a, ns, rfl, hS, hl, fun _ => rfl⟩, hF⟩
